package tests

import (
	"math"
	"math/rand"
	"reflect"
	"regexp"
	"slices"
	"strconv"
	"strings"
	"testing"
	"unsafe"

	"loop.example/g00030/impl"
)

func number(n int64) impl.Value { return impl.Value{Kind: impl.KindInt, N: n} }

func text(s string) impl.Value { return impl.Value{Kind: impl.KindText, Text: s} }

func null(n int64) impl.Value { return impl.Value{Kind: impl.KindNull, N: n} }

func rowOf(vs ...impl.Value) []impl.Value { return vs }

func numbers(ns ...int64) []impl.Value {
	row := []impl.Value{}
	for _, n := range ns {
		row = append(row, number(n))
	}
	return row
}

// countTo returns the rows (0), (1), ... of a table with n rows.
func countTo(n int) [][]impl.Value {
	rows := [][]impl.Value{}
	for i := range n {
		rows = append(rows, numbers(int64(i)))
	}
	return rows
}

// validValues are in ascending order, with their text forms.
var validValues = []struct {
	value impl.Value
	shown string
}{
	{number(-impl.MaxInt), "-1000000000"},
	{number(-12), "-12"},
	{number(-1), "-1"},
	{number(0), "0"},
	{number(1), "1"},
	{number(9), "9"},
	{number(10), "10"},
	{number(impl.MaxInt), "1000000000"},
	{text(""), `""`},
	{text(" "), `" "`},
	{text("\""), `"\""`},
	{text("(1, 2)"), `"(1, 2)"`},
	{text("-0"), `"-0"`},
	{text("?1"), `"?1"`},
	{text("\\"), `"\\"`},
	{text("\\\""), `"\\\""`},
	{text("\\\\"), `"\\\\"`},
	{text("a"), `"a"`},
	{text("a\"\\"), `"a\"\\"`},
	{text("a, b"), `"a, b"`},
	{text("aa"), `"aa"`},
	{text(strings.Repeat("b", impl.MaxText)), `"` + strings.Repeat("b", impl.MaxText) + `"`},
	{text("~"), `"~"`},
	{null(1), "?1"},
	{null(2), "?2"},
	{null(10), "?10"},
	{null(impl.MaxInt), "?1000000000"},
}

var invalidValues = []impl.Value{
	{},
	{Kind: 4, N: 1},
	{Kind: -1},
	{Kind: math.MaxInt64},
	{Kind: 0, Text: "a"},
	number(impl.MaxInt + 1),
	number(-impl.MaxInt - 1),
	number(math.MaxInt64),
	number(math.MinInt64),
	{Kind: impl.KindInt, N: 1, Text: "a"},
	{Kind: impl.KindText, N: 1, Text: "a"},
	{Kind: impl.KindText, N: -1},
	{Kind: impl.KindNull, N: 1, Text: "a"},
	null(0),
	null(-1),
	null(impl.MaxInt + 1),
	text(strings.Repeat("b", impl.MaxText+1)),
	text("\x1f"),
	text("a\x7f"),
	text("\n"),
	text("\x00"),
	text("\xff"),
	text("é"),
}

// The grammar of text forms, written independently of the program; numbers
// with more than 9 digits have tests of their own.
const (
	valueGrammar = `(?:0|-?[1-9][0-9]{0,8}|\?[1-9][0-9]{0,8}|"(?:[ !#-\[\]-~]|\\["\\]){0,60}")`
	rowGrammar   = `\((?:` + valueGrammar + `(?:, ` + valueGrammar + `){0,7})?\)`
)

// everyText calls visit with every text of at most size bytes of the alphabet.
func everyText(alphabet string, size int, visit func(string)) {
	var extend func(string)
	extend = func(s string) {
		visit(s)
		if len(s) < size {
			for _, b := range []byte(alphabet) {
				extend(s + string(b))
			}
		}
	}
	extend("")
}

func expectNoValue(t *testing.T, s string) {
	t.Helper()
	if v, ok := impl.ReadValue(s); ok || v != (impl.Value{}) {
		t.Errorf("ReadValue(%q) = %v, %v", s, v, ok)
	}
}

func expectNoRow(t *testing.T, s string) {
	t.Helper()
	if r, ok := impl.ReadRow(s); ok || r != nil {
		t.Errorf("ReadRow(%q) = %v, %v", s, r, ok)
	}
}

func expectRow(t *testing.T, row []impl.Value, shown string) {
	t.Helper()
	if s := impl.ShowRow(row); s != shown {
		t.Errorf("ShowRow(%v) = %q, not %q", row, s, shown)
	}
	if r, ok := impl.ReadRow(shown); !ok || !slices.Equal(r, row) {
		t.Errorf("ReadRow(%q) = %v, %v", shown, r, ok)
	}
}

func TestValueOkAcceptsValidValues(t *testing.T) {
	for _, c := range validValues {
		if !impl.ValueOk(c.value) {
			t.Errorf("%v is valid", c.value)
		}
	}
}

func TestValueOkRejectsInvalidValues(t *testing.T) {
	for _, v := range invalidValues {
		if impl.ValueOk(v) {
			t.Errorf("%v is invalid", v)
		}
	}
}

func TestValueOkLooksAtEveryByteOfAText(t *testing.T) {
	for b := range 256 {
		for _, s := range []string{string([]byte{byte(b)}), string([]byte{'a', byte(b), 'a'}), strings.Repeat("a", impl.MaxText-1) + string([]byte{byte(b)})} {
			if impl.ValueOk(text(s)) != (32 <= b && b <= 126) {
				t.Errorf("byte %d in %q", b, s)
			}
		}
	}
}

// Promise 1.
func TestValuesAreRecoveredFromTheirTexts(t *testing.T) {
	for _, c := range validValues {
		if s := impl.ShowValue(c.value); s != c.shown {
			t.Errorf("ShowValue(%v) = %q, not %q", c.value, s, c.shown)
		}
		if v, ok := impl.ReadValue(c.shown); !ok || v != c.value {
			t.Errorf("ReadValue(%q) = %v, %v", c.shown, v, ok)
		}
	}
}

// Promise 1: the longest text form has a backslash before each of MaxText bytes.
func TestLongestTextsAreRecovered(t *testing.T) {
	for _, b := range []string{"\"", "\\", " ", "~"} {
		v := text(strings.Repeat(b, impl.MaxText))
		s := impl.ShowValue(v)
		if got, ok := impl.ReadValue(s); s == "" || !ok || got != v {
			t.Errorf("%q gives %q", v.Text, s)
		}
	}
	expectNoValue(t, `"`+strings.Repeat("a", impl.MaxText+1)+`"`)
	expectNoValue(t, `"`+strings.Repeat(`\"`, impl.MaxText+1)+`"`)
	expectNoValue(t, `"`+strings.Repeat("a", 100000)+`"`)
}

func TestShowValueOfInvalidValuesIsEmpty(t *testing.T) {
	for _, v := range invalidValues {
		if s := impl.ShowValue(v); s != "" {
			t.Errorf("ShowValue(%v) = %q", v, s)
		}
	}
}

func TestReadValueRejectsNearlyTexts(t *testing.T) {
	for _, s := range []string{
		"", " ", "-", "+", "?", "\"", "\\", "()", "(1)", "a", "_", "\x00",
		"00", "007", "01", "-0", "-00", "-01", "+0", "+1", "--1", "1-", "- 1", " 1", "1 ", "1\n", "1.", "1.0", "1e3", "0x1", "1_0", "1,", "1, 2", "١",
		"1000000001", "-1000000001", "10000000000", "9223372036854775808", "-9223372036854775809", strings.Repeat("9", 100),
		"?0", "?-1", "?+1", "?01", "? 1", "?1 ", " ?1", "??1", "-?1", "?-0", "?a", "?\"a\"", "?1000000001", "?9223372036854775808",
		`"a`, `a"`, `""a`, `a""`, `"a" `, ` "a"`, `"""`, `"a"b"`, `"\"`, `"\\\"`, `"\a"`, `"a\"`, `"\`, `"\ "`, `""""`, `'a'`, "`a`",
		"\"\x1f\"", "\"\x7f\"", "\"\n\"", "\"a\tb\"", "\"\xff\"", `"é"`, `"\n"`, `"\x41"`, `"\u0041"`,
	} {
		expectNoValue(t, s)
	}
}

// Promise 1, for every short text.
func TestReadValueFollowsTheGrammar(t *testing.T) {
	grammar := regexp.MustCompile(`^` + valueGrammar + `$`)
	everyText("\"\\a ?-+019,", 5, func(s string) {
		v, ok := impl.ReadValue(s)
		if ok != grammar.MatchString(s) {
			t.Errorf("ReadValue(%q) = %v, %v", s, v, ok)
		}
		if ok && (!impl.ValueOk(v) || impl.ShowValue(v) != s) || !ok && v != (impl.Value{}) {
			t.Errorf("%q is read as %v", s, v)
		}
	})
}

// comparedValues are in ascending order; not all are valid.
var comparedValues = []impl.Value{
	{Kind: math.MinInt64},
	{Kind: -1, N: 5, Text: "z"},
	{},
	{Kind: 0, Text: "a"},
	{Kind: 0, N: 1},
	number(math.MinInt64),
	number(-1),
	number(0),
	{Kind: impl.KindInt, N: 0, Text: "a"},
	number(9),
	number(10),
	number(math.MaxInt64),
	{Kind: impl.KindText, N: -1, Text: "z"},
	text(""),
	text("B"),
	text("a"),
	text("aa"),
	text("ab"),
	text("b"),
	text("\xff"),
	{Kind: impl.KindText, N: 1},
	null(-1),
	null(1),
	null(2),
	{Kind: 4},
	{Kind: math.MaxInt64},
}

func sign(i int) int64 {
	return int64(max(-1, min(1, i)))
}

func TestCompareValues(t *testing.T) {
	for i, a := range comparedValues {
		for j, b := range comparedValues {
			if c := impl.CompareValues(a, b); c != sign(i-j) {
				t.Errorf("CompareValues(%v, %v) = %d", a, b, c)
			}
		}
	}
	for i := range validValues[1:] {
		if a, b := validValues[i].value, validValues[i+1].value; impl.CompareValues(a, b) != -1 || impl.CompareValues(b, a) != 1 || impl.CompareValues(a, a) != 0 {
			t.Errorf("%v and %v", a, b)
		}
	}
}

func TestCompareRows(t *testing.T) {
	ascending := [][]impl.Value{
		nil,
		rowOf(impl.Value{}),
		numbers(-1, 5),
		numbers(0),
		numbers(0, -7),
		numbers(0, 0),
		numbers(0, 0, 0),
		numbers(0, 1),
		numbers(1),
		numbers(1, 1, 1, 1, 1, 1, 1, 1),
		numbers(1, 1, 1, 1, 1, 1, 1, 1, 1),
		numbers(1, 1, 1, 1, 1, 1, 1, 1, 2),
		numbers(1, 2),
		rowOf(number(1), text("")),
		rowOf(number(1), null(1)),
		rowOf(text("a"), number(2)),
		rowOf(null(1)),
	}
	for i, a := range ascending {
		for j, b := range ascending {
			if c := impl.CompareRows(a, b); c != sign(i-j) {
				t.Errorf("CompareRows(%v, %v) = %d", a, b, c)
			}
		}
	}
	if impl.CompareRows(nil, []impl.Value{}) != 0 || impl.CompareRows([]impl.Value{}, nil) != 0 {
		t.Error("nil is the row of width 0")
	}
}

// Promise 1.
func TestRowsAreRecoveredFromTheirTexts(t *testing.T) {
	expectRow(t, nil, "()")
	expectRow(t, []impl.Value{}, "()")
	expectRow(t, numbers(7), "(7)")
	expectRow(t, numbers(-1, 0, 1), "(-1, 0, 1)")
	expectRow(t, rowOf(number(1), text("a, b"), null(2)), `(1, "a, b", ?2)`)
	expectRow(t, rowOf(text("\", "), text("\\"), text(", \"")), `("\", ", "\\", ", \"")`)
	expectRow(t, rowOf(text(")"), text("("), text("()")), `(")", "(", "()")`)
	expectRow(t, rowOf(text(""), text("")), `("", "")`)
	expectRow(t, numbers(1, 2, 3, 4, 5, 6, 7, 8), "(1, 2, 3, 4, 5, 6, 7, 8)")
	for _, a := range validValues {
		expectRow(t, rowOf(a.value), "("+a.shown+")")
		for _, b := range validValues {
			expectRow(t, rowOf(a.value, b.value), "("+a.shown+", "+b.shown+")")
		}
	}
}

// Promise 1: no row has a longer text form.
func TestLongestRowIsRecovered(t *testing.T) {
	row := slices.Repeat(rowOf(text(strings.Repeat("\"", impl.MaxText))), impl.MaxWide)
	value := `"` + strings.Repeat(`\"`, impl.MaxText) + `"`
	expectRow(t, row, "("+value+strings.Repeat(", "+value, impl.MaxWide-1)+")")
}

func TestShowRowRejectsWhatIsNoRow(t *testing.T) {
	for _, v := range invalidValues {
		for _, row := range [][]impl.Value{rowOf(v), rowOf(number(1), v), rowOf(v, number(1))} {
			if s := impl.ShowRow(row); s != "" {
				t.Errorf("ShowRow(%v) = %q", row, s)
			}
		}
	}
	if s := impl.ShowRow(numbers(1, 2, 3, 4, 5, 6, 7, 8, 9)); s != "" {
		t.Errorf("a row wider than MaxWide gives %q", s)
	}
}

func TestReadRowRejectsNearlyTexts(t *testing.T) {
	for _, s := range []string{
		"", " ", "(", ")", ")(", "1", "(1", "1)", "1, 2", "((1))", "((1)", "(1))", "(())", "[1]", "{}",
		" ()", "() ", "( )", "(1) ", " (1)", "( 1)", "(1 )", "(1)\n", "(1)(2)", "()()",
		"(1,2)", "(1,  2)", "(1 , 2)", "(1 2)", "(1,\t2)", "(1,\n2)", "(1,)", "(1, )", "(,1)", "(, 1)", "(,)", "(, )", "(1,, 2)", "(1, , 2)",
		"(01)", "(-0)", "(+1)", "(1, -0)", "(?0)", "(?01)", "(1000000001)", "(-1000000001)", "(?1000000001)",
		`("a)`, `("a`, `(a)`, `("a""b")`, `("a" "b")`, `("a","b")`, `("a"x)`, `("a"1)`, `("a"?1)`, `("\a")`, `("a\")`, `("\)`, `("a", ")`,
		`("` + strings.Repeat("a", impl.MaxText+1) + `")`,
		"(1, 2, 3, 4, 5, 6, 7, 8, 9)", "(1, 2, 3, 4, 5, 6, 7, 8, )", "(1, 2, 3, 4, 5, 6, 7, 8x)",
		"(" + strings.Repeat("1, ", 100000) + "1)", strings.Repeat("(", 100000),
	} {
		expectNoRow(t, s)
	}
}

// Promise 1, for every short text.
func TestReadRowFollowsTheGrammar(t *testing.T) {
	grammar := regexp.MustCompile(`^` + rowGrammar + `$`)
	check := func(s string) {
		row, ok := impl.ReadRow(s)
		if ok != grammar.MatchString(s) {
			t.Errorf("ReadRow(%q) = %v, %v", s, row, ok)
		}
		if ok && impl.ShowRow(row) != s || !ok && row != nil {
			t.Errorf("%q is read as %v", s, row)
		}
	}
	everyText("()\"\\, 1?-", 4, check)
	everyText(")\"\\, 1?-", 6, func(s string) { check("(" + s + ")") })
}

func TestTableOk(t *testing.T) {
	for name, table := range map[string][][]impl.Value{
		"nil":             nil,
		"no rows":         {},
		"width 0":         {{}},
		"width 0 as nil":  {nil},
		"one row":         {numbers(1)},
		"ascending":       {numbers(1, 9), numbers(2, 1), numbers(2, 2)},
		"all kinds":       {numbers(10), rowOf(text("")), rowOf(text("a")), rowOf(null(1))},
		"MaxWide columns": {numbers(1, 2, 3, 4, 5, 6, 7, 8)},
		"MaxRows rows":    countTo(impl.MaxRows),
	} {
		if !impl.TableOk(table) {
			t.Errorf("%s is a table", name)
		}
	}
}

// tooWide is a row but for its width, MaxWide + 1.
func tooWide() []impl.Value {
	return numbers(1, 2, 3, 4, 5, 6, 7, 8, 9)
}

func TestTableOkRejectsWhatIsNoTable(t *testing.T) {
	for name, table := range map[string][][]impl.Value{
		"repeated row":         {numbers(1), numbers(1)},
		"repeated width 0":     {{}, {}},
		"repeated last row":    {numbers(1), numbers(2), numbers(2)},
		"descending":           {numbers(2), numbers(1)},
		"descending at end":    {numbers(1), numbers(3), numbers(2)},
		"widths 0 and 1":       {{}, numbers(1)},
		"widths 1 and 2":       {numbers(1), numbers(2, 0)},
		"widths 2 and 1":       {numbers(1, 2), numbers(2)},
		"MaxWide + 1 columns":  {tooWide()},
		"MaxRows + 1 rows":     countTo(impl.MaxRows + 1),
		"invalid value":        {rowOf(number(impl.MaxInt + 1))},
		"invalid second value": {rowOf(number(1), impl.Value{Kind: impl.KindText, Text: "\x7f"})},
		"invalid last row":     {numbers(1), rowOf(null(0))},
		"text before integer":  {rowOf(text("a")), numbers(1)},
	} {
		if impl.TableOk(table) {
			t.Errorf("%s is no table", name)
		}
	}
}

// Promise 2.
func TestMakeTable(t *testing.T) {
	for name, c := range map[string]struct{ rows, table [][]impl.Value }{
		"nil":             {nil, nil},
		"no rows":         {[][]impl.Value{}, nil},
		"one row":         {[][]impl.Value{numbers(1)}, [][]impl.Value{numbers(1)}},
		"width 0":         {[][]impl.Value{{}}, [][]impl.Value{{}}},
		"repeated ()":     {[][]impl.Value{{}, nil, {}}, [][]impl.Value{{}}},
		"sorted":          {[][]impl.Value{numbers(1), numbers(2)}, [][]impl.Value{numbers(1), numbers(2)}},
		"reversed":        {[][]impl.Value{numbers(3), numbers(2), numbers(1)}, [][]impl.Value{numbers(1), numbers(2), numbers(3)}},
		"repeated":        {[][]impl.Value{numbers(2, 1), numbers(1, 9), numbers(2, 1)}, [][]impl.Value{numbers(1, 9), numbers(2, 1)}},
		"one row thrice":  {[][]impl.Value{numbers(2, 1), numbers(2, 1), numbers(2, 1)}, [][]impl.Value{numbers(2, 1)}},
		"kinds":           {[][]impl.Value{rowOf(null(1)), rowOf(text("b")), rowOf(text("a")), numbers(2), numbers(-2)}, [][]impl.Value{numbers(-2), numbers(2), rowOf(text("a")), rowOf(text("b")), rowOf(null(1))}},
		"MaxWide columns": {[][]impl.Value{numbers(1, 2, 3, 4, 5, 6, 7, 9), numbers(1, 2, 3, 4, 5, 6, 7, 8)}, [][]impl.Value{numbers(1, 2, 3, 4, 5, 6, 7, 8), numbers(1, 2, 3, 4, 5, 6, 7, 9)}},
	} {
		made := impl.MakeTable(c.rows)
		if !sameRows(made, c.table) || !impl.TableOk(made) {
			t.Errorf("%s: %v", name, made)
		}
	}
}

func sameRows(a, b [][]impl.Value) bool {
	return slices.EqualFunc(a, b, slices.Equal[[]impl.Value])
}

func TestMakeTableCountsRepeatedRows(t *testing.T) {
	same := slices.Repeat([][]impl.Value{numbers(1)}, impl.MaxRows)
	if made := impl.MakeTable(same); len(made) != 1 {
		t.Errorf("%d rows of MaxRows equal ones", len(made))
	}
	if made := impl.MakeTable(append(same, numbers(1))); made != nil {
		t.Errorf("%d rows of MaxRows + 1 equal ones", len(made))
	}
	rows := countTo(impl.MaxRows)
	slices.Reverse(rows)
	if made := impl.MakeTable(rows); !sameRows(made, countTo(impl.MaxRows)) {
		t.Errorf("%d rows of MaxRows", len(made))
	}
	if made := impl.MakeTable(countTo(impl.MaxRows + 1)); made != nil {
		t.Errorf("%d rows of MaxRows + 1", len(made))
	}
}

func TestMakeTableRejectsWhatIsNoRow(t *testing.T) {
	for name, rows := range map[string][][]impl.Value{
		"widths 0 and 1":      {{}, numbers(1)},
		"widths 1 and 0":      {numbers(1), {}},
		"widths 1, 1 and 2":   {numbers(1), numbers(1), numbers(1, 2)},
		"MaxWide + 1 columns": {tooWide()},
	} {
		if made := impl.MakeTable(rows); made != nil {
			t.Errorf("%s: %v", name, made)
		}
	}
	for _, v := range invalidValues {
		if made := impl.MakeTable([][]impl.Value{numbers(1, 1), rowOf(number(1), v)}); made != nil {
			t.Errorf("%v: %v", v, made)
		}
	}
}

// Promise 2.
func TestHasRow(t *testing.T) {
	rows := [][]impl.Value{}
	for i := range 200 {
		rows = append(rows, rowOf(number(int64(2*i)), text(strconv.Itoa(i))))
		rows = append(rows, rowOf(number(int64(2*i)), null(1)))
	}
	for size := range len(rows) {
		table := impl.MakeTable(rows[:size])
		for i, row := range rows {
			if impl.HasRow(table, row) != (i < size) {
				t.Fatalf("row %d of %d", i, size)
			}
		}
	}
	table := impl.MakeTable(rows)
	for _, row := range [][]impl.Value{
		nil, numbers(0), numbers(0, 0), numbers(1, 1), numbers(-1, 0),
		rowOf(number(0), text("0"), number(0)),
		rowOf(number(0), null(2)), rowOf(number(400), null(1)),
		rowOf(number(0), impl.Value{}), rowOf(impl.Value{}, impl.Value{}), tooWide(),
	} {
		if impl.HasRow(table, row) {
			t.Errorf("%v is not in the table", row)
		}
	}
}

func TestHasRowOfEdges(t *testing.T) {
	if impl.HasRow(nil, nil) || impl.HasRow(nil, numbers(1)) {
		t.Error("the empty table has no rows")
	}
	if !impl.HasRow([][]impl.Value{{}}, nil) || !impl.HasRow([][]impl.Value{nil}, []impl.Value{}) || impl.HasRow([][]impl.Value{{}}, numbers(1)) {
		t.Error("the row of width 0")
	}
	full := countTo(impl.MaxRows)
	for _, row := range full {
		if !impl.HasRow(full, row) {
			t.Fatalf("%v is in the table of MaxRows rows", row)
		}
	}
	if impl.HasRow(full, numbers(impl.MaxRows)) || impl.HasRow(full, numbers(-1)) {
		t.Error("rows beside the table")
	}
}

func TestHasRowNeedsATable(t *testing.T) {
	for name, table := range map[string][][]impl.Value{
		"descending":     {numbers(2), numbers(1)},
		"repeated":       {numbers(1), numbers(1)},
		"widths":         {numbers(1), numbers(1, 2)},
		"too many rows":  countTo(impl.MaxRows + 1),
		"invalid other":  {numbers(1), rowOf(null(0))},
		"invalid itself": {rowOf(impl.Value{})},
		"too wide":       {tooWide()},
	} {
		for _, row := range table {
			if impl.HasRow(table, row) {
				t.Errorf("%s: %v", name, row)
			}
		}
	}
}

// Promise 2, for tables of random rows.
func TestMadeTablesAreAscendingAndComplete(t *testing.T) {
	source := rand.New(rand.NewSource(1))
	for range 300 {
		width := source.Intn(impl.MaxWide + 1)
		rows := make([][]impl.Value, source.Intn(40))
		for i := range rows {
			for range width {
				rows[i] = append(rows[i], validValues[source.Intn(4)+6*source.Intn(4)].value)
			}
		}
		table := impl.MakeTable(rows)
		if !impl.TableOk(table) {
			t.Fatalf("%v is no table", table)
		}
		for _, row := range rows {
			if !impl.HasRow(table, row) {
				t.Fatalf("%v is missing", row)
			}
		}
		for _, row := range table {
			if !slices.ContainsFunc(rows, func(r []impl.Value) bool { return slices.Equal(r, row) }) {
				t.Fatalf("%v is new", row)
			}
		}
		source.Shuffle(len(rows), func(i, j int) { rows[i], rows[j] = rows[j], rows[i] })
		if !sameRows(impl.MakeTable(rows), table) {
			t.Fatal("the order of the rows matters")
		}
	}
}

// roomy returns row in a slice whose unused capacity holds marks.
func roomy(row []impl.Value) []impl.Value {
	marks := numbers(-71, -72, -73)
	return append(slices.Clone(row), marks...)[:len(row)]
}

// snapshot copies rows with their unused capacity.
func snapshot(rows [][]impl.Value) [][]impl.Value {
	out := [][]impl.Value{}
	for _, row := range rows[:cap(rows)] {
		out = append(out, slices.Clone(row[:cap(row)]))
	}
	return out
}

// Promise 19.
func TestArgumentsAreNotModified(t *testing.T) {
	backing := [][]impl.Value{
		roomy(rowOf(text("b"), number(2))), roomy(numbers(1, 9)), roomy(rowOf(text("b"), number(2))), roomy(numbers(1, 9)),
		roomy(numbers(5)), nil,
	}
	for _, rows := range [][][]impl.Value{backing[:4], backing[:5], backing[1:3]} {
		before := snapshot(rows)
		impl.MakeTable(rows)
		impl.TableOk(rows)
		for _, row := range backing {
			impl.HasRow(rows, row)
			impl.ShowRow(row)
			for _, other := range backing {
				impl.CompareRows(row, other)
			}
		}
		if !reflect.DeepEqual(before, snapshot(rows)) {
			t.Errorf("%v became %v", before, snapshot(rows))
		}
	}
}

// scribble overwrites rows with their unused capacity.
func scribble(rows [][]impl.Value) {
	for _, row := range rows[:cap(rows)] {
		for i := range row[:cap(row)] {
			row[:cap(row)][i] = text("scribble")
		}
	}
	for i := range rows[:cap(rows)] {
		rows[:cap(rows)][i] = rowOf(text("scribble"))
	}
}

// Promise 19.
func TestMadeTablesShareNoMemoryWithTheRows(t *testing.T) {
	rows := [][]impl.Value{numbers(1, 1), numbers(2, 2), numbers(2, 2), numbers(3, 3)}
	before := snapshot(rows)
	scribble(impl.MakeTable(rows))
	if !reflect.DeepEqual(before, snapshot(rows)) {
		t.Error("the result is part of the argument")
	}
	made := impl.MakeTable(rows)
	kept := snapshot(made)
	scribble(rows)
	if !reflect.DeepEqual(kept, snapshot(made)) {
		t.Error("the argument is part of the result")
	}
}

// Promise 19: the bytes of texts are memory too.
func TestResultsShareNoTextsWithArguments(t *testing.T) {
	given := strings.Repeat("ab", 20)
	made := impl.MakeTable([][]impl.Value{rowOf(text(given)), rowOf(text(given))})
	if unsafe.StringData(made[0][0].Text) == unsafe.StringData(given) {
		t.Error("MakeTable keeps the text")
	}
	shown := `"` + given + `"`
	if v, _ := impl.ReadValue(shown); unsafe.StringData(v.Text) == unsafe.StringData(shown[1:]) {
		t.Error("ReadValue keeps the text")
	}
	shown = "(" + shown + ")"
	if r, _ := impl.ReadRow(shown); unsafe.StringData(r[0].Text) == unsafe.StringData(shown[2:]) {
		t.Error("ReadRow keeps the text")
	}
}

// Promise 19: also where the argument gives one row twice.
func TestRowsOfAMadeTableShareNoMemory(t *testing.T) {
	long := numbers(1, 2, 3, 4)
	made := impl.MakeTable([][]impl.Value{long[0:2], long[1:3], long[2:4], long[0:2]})
	for i := range made {
		before := snapshot(made[i+1:])
		scribble(made[i : i+1 : i+1])
		if !reflect.DeepEqual(before, snapshot(made[i+1:])) {
			t.Errorf("row %d is part of another", i)
		}
	}
}

// Promise 19.
func TestReadRowsShareNoMemory(t *testing.T) {
	for _, s := range []string{"()", "(1)", `(1, "a", ?3)`, "(1, 2, 3, 4, 5, 6, 7, 8)"} {
		first, _ := impl.ReadRow(s)
		second, _ := impl.ReadRow(s)
		scribble([][]impl.Value{first})
		if third, ok := impl.ReadRow(s); !ok || impl.ShowRow(second) != s || impl.ShowRow(third) != s {
			t.Errorf("%s is read as %v and %v", s, second, third)
		}
	}
}

// Promise 19: no argument makes a function panic.
func TestFunctionsReturnForEveryArgument(t *testing.T) {
	values := append(slices.Clone(comparedValues), invalidValues...)
	for _, c := range validValues {
		values = append(values, c.value)
	}
	rows := [][]impl.Value{nil, tooWide(), slices.Repeat(numbers(1), 100000), values}
	for _, v := range values {
		rows = append(rows, rowOf(v), rowOf(number(1), v))
		impl.ValueOk(v)
		impl.ReadValue(impl.ShowValue(v))
		impl.ReadValue(v.Text)
		impl.ReadRow(v.Text)
	}
	tables := [][][]impl.Value{nil, {nil}, {nil, nil}, rows, countTo(10 * impl.MaxRows)}
	for _, row := range rows {
		impl.ReadRow(impl.ShowRow(row))
		for _, other := range rows {
			impl.CompareRows(row, other)
			tables = append(tables, [][]impl.Value{row, other})
		}
	}
	for _, table := range tables {
		impl.TableOk(table)
		impl.TableOk(impl.MakeTable(table))
		for _, row := range rows[:8] {
			impl.HasRow(table, row)
		}
	}
	everyText("(\"\\,\x00\xff", 4, func(s string) {
		impl.ReadValue(s)
		impl.ReadRow(s)
	})
}
