package impl

import (
	"cmp"
	"slices"
	"sort"
	"strconv"
	"strings"
)

const MaxInt = 1000000000
const MaxText = 60
const MaxWide = 8
const MaxRows = 3000

const (
	KindInt  = 1
	KindText = 2
	KindNull = 3
)

type Value struct {
	Kind int64
	N    int64
	Text string
}

// The longest text forms: every byte of a text may need a backslash, and a row
// has two bytes beside each value (a comma and a blank, or the parentheses).
const (
	maxShownValue = 2*MaxText + 2
	maxShownRow   = MaxWide * (maxShownValue + 2)
)

func ValueOk(v Value) bool {
	switch v.Kind {
	case KindInt:
		return -MaxInt <= v.N && v.N <= MaxInt && v.Text == ""
	case KindText:
		return v.N == 0 && textOk(v.Text)
	case KindNull:
		return 1 <= v.N && v.N <= MaxInt && v.Text == ""
	}
	return false
}

func textOk(s string) bool {
	if len(s) > MaxText {
		return false
	}
	for i := range len(s) {
		if s[i] < 32 || s[i] > 126 {
			return false
		}
	}
	return true
}

func CompareValues(a Value, b Value) int64 {
	return int64(cmp.Or(
		cmp.Compare(a.Kind, b.Kind),
		cmp.Compare(a.N, b.N),
		cmp.Compare(a.Text, b.Text),
	))
}

// A shownText is a text form in the making. The array has room for every text
// form, so that adding to it never fails.
type shownText struct {
	bytes [maxShownRow]byte
	size  int
}

func (t *shownText) add(s string) {
	t.size += copy(t.bytes[t.size:], s)
}

func (t *shownText) addQuoted(s string) {
	t.add(`"`)
	for i := range len(s) {
		if s[i] == '"' || s[i] == '\\' {
			t.add(`\`)
		}
		t.add(s[i : i+1])
	}
	t.add(`"`)
}

func (t *shownText) addValue(v Value) {
	switch v.Kind {
	case KindInt:
		t.add(strconv.FormatInt(v.N, 10))
	case KindText:
		t.addQuoted(v.Text)
	case KindNull:
		t.add("?")
		t.add(strconv.FormatInt(v.N, 10))
	}
}

func (t *shownText) text() string {
	return string(t.bytes[:t.size])
}

func ShowValue(v Value) string {
	if !ValueOk(v) {
		return ""
	}
	var t shownText
	t.addValue(v)
	return t.text()
}

func ReadValue(s string) (Value, bool) {
	v := guessValue(s)
	if !ValueOk(v) || ShowValue(v) != s {
		return Value{}, false
	}
	return v, true
}

// guessValue returns the only value that can have the text form s. ReadValue
// compares its text form with s, so a text that is no number may give any.
func guessValue(s string) Value {
	if strings.HasPrefix(s, `"`) {
		return Value{Kind: KindText, Text: unquoted(s)}
	}
	if number, isNull := strings.CutPrefix(s, "?"); isNull {
		n, _ := strconv.ParseInt(number, 10, 64)
		return Value{Kind: KindNull, N: n}
	}
	n, _ := strconv.ParseInt(s, 10, 64)
	return Value{Kind: KindInt, N: n}
}

// unquoted drops the first and the last byte of s and the backslashes that
// precede other bytes. Like guessValue it leaves it to ReadValue to compare.
func unquoted(s string) string {
	var t shownText
	if len(s) > maxShownValue {
		return ""
	}
	for i := 1; i < len(s)-1; i++ {
		if s[i] == '\\' {
			i++
		}
		t.add(s[i : i+1])
	}
	return t.text()
}

func rowOk(row []Value) bool {
	if len(row) > MaxWide {
		return false
	}
	for _, v := range row {
		if !ValueOk(v) {
			return false
		}
	}
	return true
}

// rowsOk reports whether MakeTable can make a table of rows.
func rowsOk(rows [][]Value) bool {
	if len(rows) > MaxRows {
		return false
	}
	for _, row := range rows {
		if !rowOk(row) || len(row) != len(rows[0]) {
			return false
		}
	}
	return true
}

func TableOk(t [][]Value) bool {
	if !rowsOk(t) {
		return false
	}
	for i := 1; i < len(t); i++ {
		if CompareRows(t[i-1], t[i]) >= 0 {
			return false
		}
	}
	return true
}

// An orderedRow is the left side of a comparison; its method value compares
// one row with many.
type orderedRow []Value

func (a orderedRow) compare(b []Value) int64 {
	for i := range min(len(a), len(b)) {
		if c := CompareValues(a[i], b[i]); c != 0 {
			return c
		}
	}
	return int64(cmp.Compare(len(a), len(b)))
}

func CompareRows(a []Value, b []Value) int64 {
	return orderedRow(a).compare(b)
}

// copyRow copies the texts too: a result shares no memory with an argument.
func copyRow(row []Value) []Value {
	out := make([]Value, len(row))
	copy(out, row)
	for i := range out {
		out[i].Text = strings.Clone(out[i].Text)
	}
	return out
}

func copyRows(rows [][]Value) [][]Value {
	out := make([][]Value, 0, len(rows))
	for _, row := range rows {
		out = append(out, copyRow(row))
	}
	return out
}

// ascend sorts rows in place, and drops those that are repeated.
func ascend(rows [][]Value) [][]Value {
	slices.SortFunc(rows, func(a, b []Value) int {
		return int(CompareRows(a, b))
	})
	return slices.CompactFunc(rows, func(a, b []Value) bool {
		return CompareRows(a, b) == 0
	})
}

func MakeTable(rows [][]Value) [][]Value {
	if !rowsOk(rows) {
		return nil
	}
	return ascend(copyRows(rows))
}

func HasRow(t [][]Value, row []Value) bool {
	return TableOk(t) && findRow(t, orderedRow(row).compare)
}

// findRow reports whether the table t has the row that compare is bound to.
func findRow(t [][]Value, compare func([]Value) int64) bool {
	_, found := sort.Find(len(t), func(i int) int {
		return int(compare(t[i]))
	})
	return found
}

func ShowRow(row []Value) string {
	if !rowOk(row) {
		return ""
	}
	var t shownText
	t.add("(")
	for i, v := range row {
		if i > 0 {
			t.add(", ")
		}
		t.addValue(v)
	}
	t.add(")")
	return t.text()
}

func ReadRow(s string) ([]Value, bool) {
	row := []Value{}
	rest := strings.TrimSuffix(strings.TrimPrefix(s, "("), ")")
	for rest != "" && len(row) < MaxWide {
		end := valueEnd(rest)
		v, ok := ReadValue(rest[:end])
		if !ok {
			return nil, false
		}
		row = append(row, v)
		rest = strings.TrimPrefix(rest[end:], ", ")
	}
	// The loop reads more than text forms, such as a row without parentheses.
	if ShowRow(row) != s {
		return nil, false
	}
	return row, true
}

// valueEnd returns the index after the value with which s begins. A comma
// ends it, except between quotation marks.
func valueEnd(s string) int {
	if s[0] != '"' {
		if comma := strings.IndexByte(s, ','); comma >= 0 {
			return comma
		}
		return len(s)
	}
	for i := 1; i < len(s); i++ {
		switch s[i] {
		case '\\':
			i++
		case '"':
			return i + 1
		}
	}
	return len(s)
}
