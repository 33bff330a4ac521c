package crc

import "sync"

// turning is what a sum is xored with where a bit of 1 falls out of it.
const turning = 0xEDB88320

// sums of each byte, for one sum of bytes: they are made when it comes to its first byte.
type sums struct {
	once sync.Once
	each [256]uint32
}

// of a byte: what it becomes, halved eight times.
func (s *sums) of(b byte) uint32 {
	s.once.Do(s.fill)
	return s.each[b]
}

func (s *sums) fill() {
	sum := uint32(1)
	for bit := len(s.each) / 2; bit > 0; bit /= 2 {
		// A bit that stands alone falls out one halving later than the one above it.
		sum = halved(sum)
		// The sum of two bytes xored is their sums xored: so one halving a bit is enough.
		for above := 0; above < len(s.each); above += 2 * bit {
			s.each[above+bit] = s.each[above] ^ sum
		}
	}
}

func halved(sum uint32) uint32 {
	if sum%2 == 1 {
		return sum/2 ^ turning
	}
	return sum / 2
}

// sumOf parts of bytes that stand one behind the other.
func sumOf(parts ...[]byte) uint32 {
	var s sums
	sum := ^uint32(0)
	for _, part := range parts {
		for _, b := range part {
			sum = sum>>8 ^ s.of(byte(sum)^b)
		}
	}
	return ^sum
}
