package msg

import (
	"strings"

	"checkroll/api"
	"checkroll/field"
	"checkroll/num"
)

// letters of the kinds of messages, one each, from Logon on.
const letters = "A012458"

// The tags of a body.
const (
	tagKind     = 35
	tagSeq      = 34
	tagTime     = 52
	tagCopy     = 43
	tagEvery    = 108
	tagText     = 112
	tagFrom     = 7
	tagTo       = 16
	tagGap      = 123
	tagNext     = 36
	tagID       = 17
	tagRef      = 19
	tagOrder    = 11
	tagAccount  = 1
	tagSymbol   = 55
	tagSide     = 54
	tagExecKind = 150
	tagQty      = 32
	tagPrice    = 31
	tagExecTime = 60
)

// The values that aren't a number or a name.
const (
	yes  = "Y"
	buy  = "1"
	sell = "2"
)

// fields of a message that may be.
func fields(m api.Msg) []api.Field {
	l := []api.Field{one(tagKind, letters[m.Kind-1:m.Kind]), number(tagSeq, m.Seq), number(tagTime, m.Time)}
	if m.Copy {
		l = append(l, one(tagCopy, yes))
	}
	switch m.Kind {
	case api.Logon:
		l = append(l, number(tagEvery, m.A))
	case api.Beat, api.Test:
		if m.Text != "" {
			l = append(l, one(tagText, m.Text))
		}
	case api.Resend:
		l = append(l, number(tagFrom, m.A), number(tagTo, m.B))
	case api.Reset:
		if m.Gap {
			l = append(l, one(tagGap, yes))
		}
		l = append(l, number(tagNext, m.A))
	case api.Report:
		l = append(l, execFields(m.Exec)...)
	}
	return l
}

// execFields of an execution that may be.
func execFields(x api.Exec) []api.Field {
	l := []api.Field{one(tagID, x.ID)}
	if x.Ref != "" {
		l = append(l, one(tagRef, x.Ref))
	}
	side := sell
	if x.Buy {
		side = buy
	}
	return append(l, one(tagOrder, x.Order), one(tagAccount, x.Account), one(tagSymbol, x.Symbol), one(tagSide, side),
		number(tagExecKind, int64(x.Kind)), number(tagQty, x.Qty), number(tagPrice, x.Price), number(tagExecTime, x.Time))
}

// message that these are the fields of, if it is any's.
func message(l []api.Field) api.Msg {
	m := api.Msg{Kind: 1 + strings.Index(letters, value(l, tagKind)), Seq: numberOf(l, tagSeq), Time: numberOf(l, tagTime), Copy: has(l, tagCopy)}
	switch m.Kind {
	case api.Logon:
		m.A = numberOf(l, tagEvery)
	case api.Beat, api.Test:
		m.Text = value(l, tagText)
	case api.Resend:
		m.A, m.B = numberOf(l, tagFrom), numberOf(l, tagTo)
	case api.Reset:
		m.A, m.Gap = numberOf(l, tagNext), has(l, tagGap)
	case api.Report:
		m.Exec = execution(l)
	}
	return m
}

// execution that is told in these fields, if any is.
func execution(l []api.Field) api.Exec {
	return api.Exec{
		ID: value(l, tagID), Ref: value(l, tagRef), Order: value(l, tagOrder), Account: value(l, tagAccount), Symbol: value(l, tagSymbol),
		Kind: int(numberOf(l, tagExecKind)), Buy: value(l, tagSide) == buy,
		Qty: numberOf(l, tagQty), Price: numberOf(l, tagPrice), Time: numberOf(l, tagExecTime),
	}
}

func one(tag int, text string) api.Field {
	return api.Field{Tag: tag, Value: text}
}

func number(tag int, n int64) api.Field {
	return one(tag, num.Show(n))
}

// value of the first field of this tag, empty if there is none.
func value(l []api.Field, tag int) string {
	v, _ := field.Get(l, tag)
	return v
}

// numberOf the first field of this tag, 0 if it has none.
func numberOf(l []api.Field, tag int) int64 {
	n, _ := field.Num(l, tag)
	return n
}

func has(l []api.Field, tag int) bool {
	_, ok := field.Get(l, tag)
	return ok
}
