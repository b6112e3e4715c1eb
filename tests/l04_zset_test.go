package tests

import (
	"fmt"
	"math"
	"math/rand"
	"slices"
	"strings"
	"testing"

	"loop.example/g00030/impl"
)

// times returns a difference of one row of integers.
func times(count int64, ns ...int64) impl.Diff {
	return impl.Diff{Row: numbers(ns...), Count: count}
}

func diffs(ds ...impl.Diff) []impl.Diff { return ds }

// each gives each of rows the same Count.
func each(count int64, rows [][]impl.Value) []impl.Diff {
	z := []impl.Diff{}
	for _, row := range rows {
		z = append(z, impl.Diff{Row: row, Count: count})
	}
	return z
}

// span returns the rows (from), ..., (to - 1), each with the same Count.
func span(count int64, from int, to int) []impl.Diff {
	return each(count, countTo(to)[from:])
}

// upTo returns the row (0, 1, ...) of this width.
func upTo(width int) []impl.Value {
	row := []impl.Value{}
	for i := range width {
		row = append(row, number(int64(i)))
	}
	return row
}

func sameDiffs(a, b []impl.Diff) bool {
	return slices.EqualFunc(a, b, func(x, y impl.Diff) bool {
		return x.Count == y.Count && slices.Equal(x.Row, y.Row)
	})
}

// shownDiffs cuts long differences short, as they go into messages only.
func shownDiffs(z []impl.Diff) string {
	texts := []string{}
	for _, d := range z[:min(len(z), 20)] {
		texts = append(texts, fmt.Sprint(d.Count, "*", d.Row))
	}
	return fmt.Sprint(len(z), " rows: ", strings.Join(texts, " "))
}

func expectDiffs(t *testing.T, got []impl.Diff, want ...impl.Diff) {
	t.Helper()
	if !sameDiffs(got, want) {
		t.Errorf("%s, not %s", shownDiffs(got), shownDiffs(want))
	}
}

func expectNoDiffs(t *testing.T, lists ...[]impl.Diff) {
	t.Helper()
	for i, got := range lists {
		if len(got) != 0 {
			t.Errorf("%d: %s, not nothing", i, shownDiffs(got))
		}
	}
}

func expectRows(t *testing.T, got [][]impl.Value, want ...[]impl.Value) {
	t.Helper()
	if !sameRows(got, want) {
		t.Errorf("%v, not %v", got, want)
	}
}

// The definitions of the chapter, written independently of the program: every
// sum is formed term by term.

func isDifference(z []impl.Diff) bool {
	for i, d := range z {
		if d.Count == 0 || d.Count > impl.MaxCount || d.Count < -impl.MaxCount {
			return false
		}
		if len(d.Row) != len(z[0].Row) || len(d.Row) > impl.MaxWide {
			return false
		}
		for _, v := range d.Row {
			if !impl.ValueOk(v) {
				return false
			}
		}
		if i > 0 && impl.CompareRows(z[i-1].Row, d.Row) != -1 {
			return false
		}
	}
	return len(z) <= impl.MaxRows
}

func areCompatible(a, b []impl.Diff) bool {
	return len(a) == 0 || len(b) == 0 || len(a[0].Row) == len(b[0].Row)
}

// expectedSum returns the sum of terms and whether it is a difference.
func expectedSum(terms []impl.Diff) ([]impl.Diff, bool) {
	counts, sum := map[string]int64{}, []impl.Diff{}
	for _, d := range terms {
		counts[impl.ShowRow(d.Row)] += d.Count
	}
	for _, d := range terms {
		shown := impl.ShowRow(d.Row)
		if counts[shown] != 0 {
			sum = append(sum, impl.Diff{Row: d.Row, Count: counts[shown]})
			counts[shown] = 0
		}
	}
	slices.SortFunc(sum, func(a, b impl.Diff) int { return int(impl.CompareRows(a.Row, b.Row)) })
	if !isDifference(sum) {
		return nil, false
	}
	return sum, true
}

func expectedAdd(a, b []impl.Diff) ([]impl.Diff, bool) {
	if !isDifference(a) || !isDifference(b) || !areCompatible(a, b) {
		return nil, false
	}
	return expectedSum(slices.Concat(a, b))
}

func countIn(z []impl.Diff, row []impl.Value) int64 {
	for _, d := range z {
		if slices.Equal(d.Row, row) {
			return d.Count
		}
	}
	return 0
}

func expectedFlips(z, d []impl.Diff) []impl.Diff {
	terms := []impl.Diff{}
	if _, exists := expectedAdd(z, d); !exists {
		return nil
	}
	for _, e := range d {
		before := countIn(z, e.Row)
		switch after := before + e.Count; {
		case before <= 0 && after > 0:
			terms = append(terms, impl.Diff{Row: e.Row, Count: 1})
		case before > 0 && after <= 0:
			terms = append(terms, impl.Diff{Row: e.Row, Count: -1})
		}
	}
	return terms
}

func expectedDistinct(z []impl.Diff) [][]impl.Value {
	rows := [][]impl.Value{}
	if !isDifference(z) {
		return nil
	}
	for _, d := range z {
		if d.Count > 0 {
			rows = append(rows, d.Row)
		}
	}
	return rows
}

func expectedNegation(z []impl.Diff) []impl.Diff {
	out := []impl.Diff{}
	if !isDifference(z) {
		return nil
	}
	for _, d := range z {
		out = append(out, impl.Diff{Row: d.Row, Count: -d.Count})
	}
	return out
}

func expectedDiffOf(old, new [][]impl.Value) []impl.Diff {
	if !impl.TableOk(old) || !impl.TableOk(new) {
		return nil
	}
	sum, _ := expectedAdd(each(-1, old), each(1, new))
	return sum
}

func expectedJoin(a, b []impl.Diff, on int64) []impl.Diff {
	terms := []impl.Diff{}
	if !isDifference(a) || !isDifference(b) || on < 0 {
		return nil
	}
	for _, d := range a {
		for _, e := range b {
			if on > int64(len(d.Row)) || on > int64(len(e.Row)) {
				return nil
			}
			if slices.Equal(d.Row[:on], e.Row[:on]) {
				terms = append(terms, impl.Diff{Row: slices.Concat(d.Row, e.Row[on:]), Count: d.Count * e.Count})
			}
		}
		if len(terms) > impl.MaxRows {
			return nil
		}
	}
	sum, _ := expectedSum(terms)
	return sum
}

func expectedProjection(z []impl.Diff, columns []int64) []impl.Diff {
	terms := []impl.Diff{}
	if !isDifference(z) || len(columns) > impl.MaxWide {
		return nil
	}
	for _, d := range z {
		row := []impl.Value{}
		for _, c := range columns {
			if c < 0 || c >= int64(len(d.Row)) {
				return nil
			}
			row = append(row, d.Row[c])
		}
		terms = append(terms, impl.Diff{Row: row, Count: d.Count})
	}
	sum, _ := expectedSum(terms)
	return sum
}

func rowsIn(z []impl.Diff) [][]impl.Value {
	rows := [][]impl.Value{}
	for _, d := range z {
		rows = append(rows, d.Row)
	}
	return rows
}

// expectAsDefined compares every function of the chapter with its definition.
func expectAsDefined(t *testing.T, a, b []impl.Diff, on int64, columns []int64) {
	t.Helper()
	sum, _ := expectedAdd(a, b)
	for _, c := range []struct {
		name      string
		got, want []impl.Diff
	}{
		{"AddDiffs", impl.AddDiffs(a, b), sum},
		{"NegDiff", impl.NegDiff(a), expectedNegation(a)},
		{"DiffOf", impl.DiffOf(rowsIn(a), rowsIn(b)), expectedDiffOf(rowsIn(a), rowsIn(b))},
		{"Flips", impl.Flips(a, b), expectedFlips(a, b)},
		{"JoinDiffs", impl.JoinDiffs(a, b, on), expectedJoin(a, b, on)},
		{"Project", impl.Project(a, columns), expectedProjection(a, columns)},
	} {
		if !sameDiffs(c.got, c.want) {
			t.Fatalf("%s of %s and %s (%d, %v) is %s, not %s", c.name, shownDiffs(a), shownDiffs(b), on, columns, shownDiffs(c.got), shownDiffs(c.want))
		}
	}
	if got, want := impl.DiffOk(a), isDifference(a); got != want {
		t.Fatalf("DiffOk(%s) = %v", shownDiffs(a), got)
	}
	if got, want := impl.Distinct(a), expectedDistinct(a); !sameRows(got, want) {
		t.Fatalf("Distinct(%s) = %v, not %v", shownDiffs(a), got, want)
	}
}

// validDiffs are differences of all widths and sizes.
func validDiffs() [][]impl.Diff {
	list := [][]impl.Diff{
		nil,
		{},
		{times(1)},
		{times(-impl.MaxCount)},
		{times(1, 1)},
		{times(-1, 1), times(1, 2)},
		{times(impl.MaxCount, 1), times(-impl.MaxCount, 2)},
		{times(1, 1, 9), times(1, 2, 1), times(2, 2, 2)},
		{{Row: rowOf(number(1)), Count: 1}, {Row: rowOf(text("")), Count: 1}, {Row: rowOf(null(1)), Count: 1}},
		span(3, 0, impl.MaxRows),
		span(-impl.MaxCount, 0, impl.MaxRows),
	}
	for width := range impl.MaxWide + 1 {
		list = append(list, diffs(impl.Diff{Row: upTo(width), Count: 5}))
	}
	all := []impl.Diff{}
	for _, v := range validValues {
		all = append(all, impl.Diff{Row: rowOf(v.value, v.value), Count: -7})
	}
	return append(list, all)
}

// invalidDiffs break one condition each.
func invalidDiffs() map[string][]impl.Diff {
	long := strings.Repeat("b", impl.MaxText+1)
	cases := map[string][]impl.Diff{
		"a Count of 0":                   {times(0, 1)},
		"a Count of 0 after another":     {times(1, 1), times(0, 2)},
		"a Count of 0 before another":    {times(0, 1), times(1, 2)},
		"a Count of 0 of the empty row":  {times(0)},
		"MaxCount and one more":          {times(impl.MaxCount+1, 1)},
		"-MaxCount and one less":         {times(-impl.MaxCount-1, 1)},
		"the greatest Count":             {times(1, 1), times(math.MaxInt64, 2)},
		"the least Count":                {times(math.MinInt64, 1), times(1, 2)},
		"rows that descend":              {times(1, 2), times(1, 1)},
		"rows that descend at the end":   {times(1, 1), times(1, 3), times(1, 2)},
		"rows that descend in a column":  {times(1, 1, 2), times(1, 1, 1)},
		"a repeated row":                 {times(1, 1), times(1, 1)},
		"a repeated row with its minus":  {times(1, 1), times(-1, 1)},
		"a repeated empty row":           {times(1), times(1)},
		"a row that is longer":           {times(1, 1), times(1, 1, 1)},
		"a row that is shorter":          {times(1, 1, 1), times(1, 2)},
		"an empty row before another":    {times(1), times(1, 1)},
		"a third row that is longer":     {times(1, 1), times(1, 2), times(1, 3, 1)},
		"a row of MaxWide + 1 values":    {{Row: tooWide(), Count: 1}},
		"MaxRows + 1 elements":           span(1, 0, impl.MaxRows+1),
		"a text that is too long":        {{Row: rowOf(number(1), text(long)), Count: 1}},
		"a value that is not valid last": {times(1, 1), {Row: rowOf(null(0)), Count: 1}},
	}
	for i, v := range invalidValues {
		cases[fmt.Sprint("the invalid value ", i)] = diffs(impl.Diff{Row: rowOf(v), Count: 1})
	}
	return cases
}

func TestDiffOk(t *testing.T) {
	for i, z := range validDiffs() {
		if !impl.DiffOk(z) {
			t.Errorf("%d: %s is a difference", i, shownDiffs(z))
		}
	}
}

// Promise 19, for lists that are not differences.
func TestListsThatAreNoDifferences(t *testing.T) {
	for name, z := range invalidDiffs() {
		if impl.DiffOk(z) {
			t.Errorf("%s: %s is no difference", name, shownDiffs(z))
		}
		if rows := impl.Distinct(z); rows != nil {
			t.Errorf("%s: Distinct = %v", name, rows)
		}
		expectNoDiffs(t, impl.NegDiff(z), impl.Project(z, nil), impl.Project(z, []int64{0}))
		for _, other := range [][]impl.Diff{nil, {times(1)}, {times(1, 1)}, {times(1, 7), times(2, 9)}, z} {
			expectNoDiffs(t,
				impl.AddDiffs(z, other), impl.AddDiffs(other, z),
				impl.Flips(z, other), impl.Flips(other, z),
				impl.JoinDiffs(z, other, 0), impl.JoinDiffs(other, z, 0),
				impl.JoinDiffs(z, other, 1), impl.JoinDiffs(other, z, 1),
			)
		}
	}
}

func TestAddDiffs(t *testing.T) {
	a := diffs(times(2, 1, 2), times(-1, 2, 2))
	expectDiffs(t, impl.AddDiffs(a, diffs(times(-2, 1, 2), times(1, 3, 0))), times(-1, 2, 2), times(1, 3, 0))
	expectDiffs(t, impl.AddDiffs(a, diffs(times(3, 1, 2), times(-1, 2, 2))), times(5, 1, 2), times(-2, 2, 2))
	expectDiffs(t, impl.AddDiffs(a, diffs(times(1, 0, 9), times(1, 1, 3), times(4, 9, 0))),
		times(1, 0, 9), times(2, 1, 2), times(1, 1, 3), times(-1, 2, 2), times(4, 9, 0))
	expectDiffs(t, impl.AddDiffs(a, a), times(4, 1, 2), times(-2, 2, 2))
	expectDiffs(t, impl.AddDiffs(
		diffs(impl.Diff{Row: rowOf(text("a")), Count: 1}, impl.Diff{Row: rowOf(null(1)), Count: 1}),
		diffs(times(1, 1), impl.Diff{Row: rowOf(text("")), Count: 2}, impl.Diff{Row: rowOf(text("a")), Count: 3})),
		times(1, 1), impl.Diff{Row: rowOf(text("")), Count: 2}, impl.Diff{Row: rowOf(text("a")), Count: 4}, impl.Diff{Row: rowOf(null(1)), Count: 1})
}

// An integer, a text and a null may have the same number and the same text.
func TestRowsThatLookAlikeAreNotAdded(t *testing.T) {
	rows := [][]impl.Value{}
	for _, v := range []impl.Value{number(0), number(1), text(""), text("0"), text("1"), text("?1"), null(1)} {
		rows = append(rows, rowOf(v, number(1)))
	}
	for _, row := range rows {
		one := diffs(impl.Diff{Row: row, Count: 1})
		for _, other := range rows {
			want := 2
			if slices.Equal(row, other) {
				want = 1
			}
			if got := impl.AddDiffs(one, diffs(impl.Diff{Row: other, Count: 1})); len(got) != want {
				t.Errorf("%v and %v add up to %v", row, other, got)
			}
		}
	}
	expectDiffs(t, impl.AddDiffs(diffs(impl.Diff{Row: rowOf(text("a"), text("b")), Count: 1}), diffs(impl.Diff{Row: rowOf(text("ab"), text("")), Count: 1})),
		impl.Diff{Row: rowOf(text("a"), text("b")), Count: 1}, impl.Diff{Row: rowOf(text("ab"), text("")), Count: 1})
}

func TestAddDiffsOfTheEmptyDifference(t *testing.T) {
	for _, z := range validDiffs() {
		expectDiffs(t, impl.AddDiffs(z, nil), z...)
		expectDiffs(t, impl.AddDiffs(nil, z), z...)
		expectDiffs(t, impl.AddDiffs(z, []impl.Diff{}), z...)
	}
}

func TestSumsOfZeroAreOmitted(t *testing.T) {
	for _, z := range validDiffs() {
		expectNoDiffs(t, impl.AddDiffs(z, impl.NegDiff(z)), impl.AddDiffs(impl.NegDiff(z), z))
	}
	expectDiffs(t, impl.AddDiffs(diffs(times(1, 1), times(1, 2), times(1, 3)), diffs(times(-1, 1), times(-1, 3))), times(1, 2))
}

func TestCountsOfSumsHaveALimit(t *testing.T) {
	const most = impl.MaxCount
	expectDiffs(t, impl.AddDiffs(diffs(times(most-1, 1)), diffs(times(1, 1))), times(most, 1))
	expectDiffs(t, impl.AddDiffs(diffs(times(1-most, 1)), diffs(times(-1, 1))), times(-most, 1))
	expectDiffs(t, impl.AddDiffs(diffs(times(most, 1)), diffs(times(-1, 1))), times(most-1, 1))
	expectDiffs(t, impl.AddDiffs(diffs(times(most, 1)), diffs(times(most, 2))), times(most, 1), times(most, 2))
	expectNoDiffs(t,
		impl.AddDiffs(diffs(times(most, 1)), diffs(times(1, 1))),
		impl.AddDiffs(diffs(times(-1, 1)), diffs(times(-most, 1))),
		impl.AddDiffs(diffs(times(most, 1)), diffs(times(most, 1))),
		impl.AddDiffs(diffs(times(-most)), diffs(times(-most))),
		// One sum beyond the limit suffices.
		impl.AddDiffs(diffs(times(1, 1), times(most, 2), times(1, 3)), diffs(times(1, 2), times(1, 4))),
	)
}

func TestSumsHaveAtMostMaxRowsElements(t *testing.T) {
	const most = impl.MaxRows
	expectDiffs(t, impl.AddDiffs(span(1, 0, most-1), span(1, most-1, most)), span(1, 0, most)...)
	expectDiffs(t, impl.AddDiffs(span(1, 0, most), span(1, 0, most)), span(2, 0, most)...)
	expectDiffs(t, impl.AddDiffs(span(1, 0, most), span(-1, 0, most-1)), times(1, most-1))
	// As many rows come as go.
	going := impl.AddDiffs(span(-1, 0, 1000), span(1, most, most+1000))
	expectDiffs(t, impl.AddDiffs(span(1, 0, most), going), span(1, 1000, most+1000)...)
	going = impl.AddDiffs(span(-1, 0, 1000), span(1, most, most+1001))
	expectNoDiffs(t,
		impl.AddDiffs(span(1, 0, most), going),
		impl.AddDiffs(going, span(1, 0, most)),
		impl.AddDiffs(span(1, 0, most), span(1, most, most+1)),
		impl.AddDiffs(span(1, 0, most), span(1, most, 2*most)),
	)
}

func TestDifferencesThatAreNotCompatible(t *testing.T) {
	for i := range impl.MaxWide + 1 {
		a := diffs(impl.Diff{Row: upTo(i), Count: 1})
		for j := range impl.MaxWide + 1 {
			b := diffs(impl.Diff{Row: upTo(j), Count: 1})
			if i != j {
				expectNoDiffs(t, impl.AddDiffs(a, b), impl.Flips(a, b), impl.DiffOf([][]impl.Value{upTo(i)}, [][]impl.Value{upTo(j)}))
			}
		}
	}
}

func TestNegDiff(t *testing.T) {
	expectDiffs(t, impl.NegDiff(diffs(times(2, 1, 2), times(-1, 2, 2))), times(-2, 1, 2), times(1, 2, 2))
	expectDiffs(t, impl.NegDiff(diffs(times(impl.MaxCount, 1), times(-impl.MaxCount, 2))), times(-impl.MaxCount, 1), times(impl.MaxCount, 2))
	expectDiffs(t, impl.NegDiff(diffs(times(3))), times(-3))
	expectNoDiffs(t, impl.NegDiff(nil))
	expectDiffs(t, impl.NegDiff(span(1, 0, impl.MaxRows)), span(-1, 0, impl.MaxRows)...)
}

func TestDiffOf(t *testing.T) {
	expectDiffs(t, impl.DiffOf(countTo(3)[1:], countTo(5)[2:]), times(-1, 1), times(1, 3), times(1, 4))
	expectDiffs(t, impl.DiffOf(countTo(5)[2:], countTo(3)[1:]), times(1, 1), times(-1, 3), times(-1, 4))
	expectDiffs(t, impl.DiffOf(nil, countTo(2)), times(1, 0), times(1, 1))
	expectDiffs(t, impl.DiffOf(countTo(2), nil), times(-1, 0), times(-1, 1))
	expectNoDiffs(t, impl.DiffOf(countTo(4), countTo(4)), impl.DiffOf(nil, nil))
	unit := [][]impl.Value{{}}
	expectDiffs(t, impl.DiffOf(nil, unit), times(1))
	expectDiffs(t, impl.DiffOf(unit, nil), times(-1))
	expectNoDiffs(t, impl.DiffOf(unit, unit))
	expectDiffs(t, impl.DiffOf([][]impl.Value{rowOf(number(1), text("a"))}, [][]impl.Value{rowOf(number(1), null(1))}),
		impl.Diff{Row: rowOf(number(1), text("a")), Count: -1}, impl.Diff{Row: rowOf(number(1), null(1)), Count: 1})
}

func TestDiffOfHasAtMostMaxRowsElements(t *testing.T) {
	const most = impl.MaxRows
	rows := countTo(2 * most)
	expectDiffs(t, impl.DiffOf(nil, rows[:most]), span(1, 0, most)...)
	expectDiffs(t, impl.DiffOf(rows[:most], nil), span(-1, 0, most)...)
	expectNoDiffs(t, impl.DiffOf(rows[:most], rows[:most]))
	expectDiffs(t, impl.DiffOf(rows[:most], rows[most/2:most+most/2]), append(span(-1, 0, most/2), span(1, most, most+most/2)...)...)
	expectNoDiffs(t,
		impl.DiffOf(rows[:most], rows[most/2+1:most+most/2+1]),
		impl.DiffOf(rows[:most], rows[most:]),
		impl.DiffOf(rows[:most], rows[most:most+1]),
	)
}

// Promise 19, for tables that are not tables.
func TestDiffOfWhatIsNoTable(t *testing.T) {
	for name, rows := range map[string][][]impl.Value{
		"rows that descend":    {numbers(2), numbers(1)},
		"a repeated row":       {numbers(1), numbers(1)},
		"a repeated empty row": {{}, {}},
		"two widths":           {numbers(1), numbers(2, 2)},
		"MaxWide + 1 values":   {tooWide()},
		"MaxRows + 1 rows":     countTo(impl.MaxRows + 1),
		"a value not valid":    {rowOf(number(impl.MaxInt + 1))},
		"the zero value":       {rowOf(impl.Value{})},
	} {
		for _, other := range [][][]impl.Value{nil, {{}}, {numbers(1)}, {numbers(1, 1)}, rows} {
			if got := slices.Concat(impl.DiffOf(rows, other), impl.DiffOf(other, rows)); len(got) != 0 {
				t.Errorf("%s: %s", name, shownDiffs(got))
			}
		}
	}
}

func TestDistinct(t *testing.T) {
	expectRows(t, impl.Distinct(diffs(times(2, 1, 2), times(-1, 2, 2), times(1, 3, 0))), numbers(1, 2), numbers(3, 0))
	expectRows(t, impl.Distinct(diffs(times(-1, 1), times(impl.MaxCount, 2), times(-impl.MaxCount, 3))), numbers(2))
	expectRows(t, impl.Distinct(nil))
	expectRows(t, impl.Distinct(diffs(times(-1, 1), times(-5, 2))))
	expectRows(t, impl.Distinct(diffs(times(4))), numbers())
	expectRows(t, impl.Distinct(diffs(times(-4))))
	expectRows(t, impl.Distinct(span(1, 0, impl.MaxRows)), countTo(impl.MaxRows)...)
}

func TestFlips(t *testing.T) {
	a := diffs(times(2, 1, 2), times(-1, 2, 2))
	expectDiffs(t, impl.Flips(a, diffs(times(-2, 1, 2), times(1, 3, 0))), times(-1, 1, 2), times(1, 3, 0))
	for _, c := range []struct{ before, change, flip int64 }{
		{0, 1, 1}, {0, 5, 1}, {0, -1, 0}, {0, -5, 0},
		{1, -1, -1}, {1, -2, -1}, {1, 1, 0}, {1, impl.MaxCount - 1, 0}, {impl.MaxCount, -impl.MaxCount, -1},
		{2, -1, 0}, {2, -2, -1}, {2, -3, -1}, {impl.MaxCount, 1 - impl.MaxCount, 0},
		{-1, 1, 0}, {-1, 2, 1}, {-1, -1, 0}, {-2, 1, 0}, {-2, 2, 0}, {-2, 3, 1}, {-impl.MaxCount, impl.MaxCount, 0},
		{impl.MaxCount, 1, 0}, {-impl.MaxCount, -1, 0},
		{1, 0, 0}, {-1, 0, 0}, {0, 0, 0},
	} {
		for _, row := range [][]impl.Value{{}, numbers(1), numbers(1, 2), rowOf(text("a"), null(1))} {
			list := func(count int64) []impl.Diff {
				if count == 0 {
					return nil
				}
				return diffs(impl.Diff{Row: row, Count: count})
			}
			if got := impl.Flips(list(c.before), list(c.change)); !sameDiffs(got, list(c.flip)) {
				t.Errorf("%d and %d of %v: %v", c.before, c.change, row, got)
			}
		}
	}
}

// A sum that is empty exists: what was there disappears.
func TestFlipsNeedASum(t *testing.T) {
	expectDiffs(t, impl.Flips(diffs(times(1, 1)), diffs(times(-1, 1))), times(-1, 1))
	expectNoDiffs(t,
		impl.Flips(diffs(times(impl.MaxCount, 1)), diffs(times(1, 1), times(1, 2))),
		impl.Flips(diffs(times(1, 1), times(-impl.MaxCount, 2)), diffs(times(-1, 1), times(-1, 2))),
		impl.Flips(diffs(times(1, 1)), diffs(times(1, 1, 1))),
		impl.Flips(diffs(times(1)), diffs(times(1, 1))),
		impl.Flips(span(1, 0, impl.MaxRows), span(1, impl.MaxRows, impl.MaxRows+1)),
		impl.Flips(span(1, 0, impl.MaxRows), span(-1, impl.MaxRows, impl.MaxRows+1)),
	)
}

func TestFlipsOfMaxRowsElements(t *testing.T) {
	const most = impl.MaxRows
	expectDiffs(t, impl.Flips(nil, span(2, 0, most)), span(1, 0, most)...)
	expectDiffs(t, impl.Flips(span(2, 0, most), span(-2, 0, most)), span(-1, 0, most)...)
	expectDiffs(t, impl.Flips(span(2, 0, most), span(-1, 0, most)))
	change := append(span(-1, 0, most/2), span(1, most, most+most/2)...)
	expectDiffs(t, impl.Flips(span(1, 0, most), change), change...)
	expectNoDiffs(t, impl.Flips(span(1, 0, most), append(span(-1, 0, most/2-1), span(1, most, most+most/2)...)))
}

func TestJoinDiffs(t *testing.T) {
	a := diffs(times(2, 1, 2), times(-1, 2, 2), times(3, 2, 5))
	b := diffs(times(3, 1, 7), times(-2, 2, 0), times(5, 2, 9), times(1, 4, 4))
	expectDiffs(t, impl.JoinDiffs(a, b, 1),
		times(6, 1, 2, 7),
		times(2, 2, 2, 0), times(-5, 2, 2, 9),
		times(-6, 2, 5, 0), times(15, 2, 5, 9))
	expectDiffs(t, impl.JoinDiffs(a, diffs(times(2, 2, 5)), 2), times(6, 2, 5))
	expectDiffs(t, impl.JoinDiffs(a[:1], b[:2], 0), times(6, 1, 2, 1, 7), times(-4, 1, 2, 2, 0))
	expectNoDiffs(t, impl.JoinDiffs(a, diffs(times(1, 9, 9)), 1), impl.JoinDiffs(a, b, 2))
}

// The rows agree in the values themselves: an integer is no text.
func TestJoinDiffsComparesWholeValues(t *testing.T) {
	values := []impl.Value{number(0), number(1), text(""), text("1"), text("a"), null(1), null(2)}
	for _, v := range values {
		for _, w := range values {
			got := impl.JoinDiffs(diffs(impl.Diff{Row: rowOf(v, number(5)), Count: 1}), diffs(impl.Diff{Row: rowOf(w, text("z")), Count: 1}), 1)
			if v != w {
				expectNoDiffs(t, got)
			} else {
				expectDiffs(t, got, impl.Diff{Row: rowOf(v, number(5), text("z")), Count: 1})
			}
		}
	}
}

func TestJoinDiffsOfTheEmptyDifference(t *testing.T) {
	for _, z := range validDiffs() {
		for on := int64(-1); on <= impl.MaxWide+1; on++ {
			expectNoDiffs(t, impl.JoinDiffs(z, nil, on), impl.JoinDiffs(nil, z, on), impl.JoinDiffs(nil, nil, on))
		}
	}
}

func TestJoinDiffsOfRowsOfWidthZero(t *testing.T) {
	a := diffs(times(2, 1, 2), times(-1, 2, 2))
	expectDiffs(t, impl.JoinDiffs(a, diffs(times(-3)), 0), times(-6, 1, 2), times(3, 2, 2))
	expectDiffs(t, impl.JoinDiffs(diffs(times(-3)), a, 0), times(-6, 1, 2), times(3, 2, 2))
	expectDiffs(t, impl.JoinDiffs(diffs(times(-3)), diffs(times(5)), 0), times(-15))
	expectNoDiffs(t, impl.JoinDiffs(a, diffs(times(-3)), 1), impl.JoinDiffs(diffs(times(5)), diffs(times(5)), 1))
}

func TestJoinDiffsOnWholeRows(t *testing.T) {
	a := diffs(times(2, 1), times(3, 2))
	b := diffs(times(5, 1, 8), times(7, 1, 9), times(-1, 3, 0))
	expectDiffs(t, impl.JoinDiffs(a, b, 1), times(10, 1, 8), times(14, 1, 9))
	expectDiffs(t, impl.JoinDiffs(b, a, 1), times(10, 1, 8), times(14, 1, 9))
	expectDiffs(t, impl.JoinDiffs(a, a, 1), times(4, 1), times(9, 2))
	expectNoDiffs(t, impl.JoinDiffs(a, b, 2), impl.JoinDiffs(b, a, 2), impl.JoinDiffs(a, a, 2), impl.JoinDiffs(b, b, 3))
	for _, on := range []int64{-1, -8, 3, 9, 1 << 32, math.MinInt64, math.MaxInt64} {
		expectNoDiffs(t, impl.JoinDiffs(a, b, on), impl.JoinDiffs(b, a, on), impl.JoinDiffs(b, b, on))
	}
}

func TestJoinedRowsHaveAtMostMaxWideValues(t *testing.T) {
	for i := range impl.MaxWide + 1 {
		for j := range impl.MaxWide + 1 {
			a, b := diffs(impl.Diff{Row: upTo(i), Count: 2}), diffs(impl.Diff{Row: upTo(j), Count: 3})
			for on := range min(i, j) + 1 {
				got := impl.JoinDiffs(a, b, int64(on))
				if i+j-on > impl.MaxWide {
					expectNoDiffs(t, got)
				} else {
					expectDiffs(t, got, impl.Diff{Row: slices.Concat(upTo(i), upTo(j)[on:]), Count: 6})
				}
			}
		}
	}
}

func TestCountsOfJoinsHaveALimit(t *testing.T) {
	join := func(x, y int64) []impl.Diff { return impl.JoinDiffs(diffs(times(x, 1)), diffs(times(y, 1)), 1) }
	const most = impl.MaxCount
	expectDiffs(t, join(most, 1), times(most, 1))
	expectDiffs(t, join(-1, most), times(-most, 1))
	expectDiffs(t, join(1000, 1000), times(most, 1))
	expectDiffs(t, join(1000, -1000), times(-most, 1))
	expectDiffs(t, join(-1000, -1000), times(most, 1))
	expectNoDiffs(t, join(1000, 1001), join(1001, -1000), join(-1001, -1000), join(101, 9901), join(101, -9901),
		join(most, 2), join(2, -most), join(most, most), join(-most, -most), join(-most, most),
		// One product beyond the limit suffices.
		impl.JoinDiffs(diffs(times(1, 1), times(most, 2)), diffs(times(1, 1), times(2, 2)), 1),
	)
}

// grid returns the rows (first, 0), ..., (first, n - 1).
func grid(first int64, n int) []impl.Diff {
	z := []impl.Diff{}
	for i := range n {
		z = append(z, times(1, first, int64(i)))
	}
	return z
}

func TestJoinsHaveAtMostMaxRowsPairs(t *testing.T) {
	const most = impl.MaxRows
	want := []impl.Diff{}
	for i := range 50 {
		for j := range most / 50 {
			want = append(want, times(1, 1, int64(i), int64(j)))
		}
	}
	a, b := grid(1, 50), grid(1, most/50)
	expectDiffs(t, impl.JoinDiffs(a, b, 1), want...)
	unmatched := diffs(times(1, 3, 3))
	expectDiffs(t, impl.JoinDiffs(slices.Concat(a, unmatched), slices.Concat(b, grid(4, 9)), 1), want...)
	expectDiffs(t, impl.JoinDiffs(diffs(times(2)), span(1, 0, most), 0), span(2, 0, most)...)
	expectDiffs(t, impl.JoinDiffs(span(1, 0, most), span(3, 0, most), 1), span(3, 0, most)...)
	one := grid(2, 1)
	expectNoDiffs(t,
		impl.JoinDiffs(slices.Concat(a, one), slices.Concat(b, one), 1),
		impl.JoinDiffs(slices.Concat(grid(0, 1), a), slices.Concat(grid(0, 1), b), 1),
		impl.JoinDiffs(slices.Concat(grid(1, 51), unmatched), b, 1),
		impl.JoinDiffs(a, grid(1, most/50+1), 1),
		impl.JoinDiffs(diffs(times(1, 1), times(1, 2)), span(1, 0, most), 0),
		impl.JoinDiffs(span(1, 0, most), span(1, 0, most), 0),
	)
}

func TestProject(t *testing.T) {
	z := diffs(times(2, 1, 2), times(-1, 2, 2), times(4, 3, 1))
	expectDiffs(t, impl.Project(z, []int64{1}), times(4, 1), times(1, 2))
	expectDiffs(t, impl.Project(z, []int64{0}), times(2, 1), times(-1, 2), times(4, 3))
	expectDiffs(t, impl.Project(z, []int64{0, 1}), z...)
	expectDiffs(t, impl.Project(z, []int64{1, 0}), times(4, 1, 3), times(2, 2, 1), times(-1, 2, 2))
	expectDiffs(t, impl.Project(diffs(times(1, 1, 5), times(-1, 2, 5), times(1, 3, 6)), []int64{1}), times(1, 6))
	expectDiffs(t, impl.Project(diffs(impl.Diff{Row: rowOf(number(1), text("b")), Count: 1}, impl.Diff{Row: rowOf(number(2), text("a")), Count: 1}), []int64{1}),
		impl.Diff{Row: rowOf(text("a")), Count: 1}, impl.Diff{Row: rowOf(text("b")), Count: 1})
}

func TestProjectToNoColumns(t *testing.T) {
	for _, none := range [][]int64{nil, {}} {
		expectDiffs(t, impl.Project(diffs(times(2, 1, 2), times(-1, 2, 2), times(4, 3, 1)), none), times(5))
		expectDiffs(t, impl.Project(diffs(times(-7)), none), times(-7))
		expectNoDiffs(t, impl.Project(diffs(times(2, 1), times(-2, 2)), none), impl.Project(nil, none))
	}
}

func TestProjectToRepeatedColumns(t *testing.T) {
	z := diffs(times(2, 1, 9), times(-1, 2, 8))
	expectDiffs(t, impl.Project(z, []int64{0, 0}), times(2, 1, 1), times(-1, 2, 2))
	expectDiffs(t, impl.Project(z, []int64{1, 0, 1}), times(-1, 8, 2, 8), times(2, 9, 1, 9))
	expectDiffs(t, impl.Project(z, make([]int64, impl.MaxWide)), times(2, 1, 1, 1, 1, 1, 1, 1, 1), times(-1, 2, 2, 2, 2, 2, 2, 2, 2))
	expectNoDiffs(t, impl.Project(z, make([]int64, impl.MaxWide+1)), impl.Project(z, make([]int64, 100000)))
	wide := diffs(impl.Diff{Row: upTo(impl.MaxWide), Count: 3})
	expectDiffs(t, impl.Project(wide, []int64{7, 6, 5, 4, 3, 2, 1, 0}), times(3, 7, 6, 5, 4, 3, 2, 1, 0))
	expectNoDiffs(t, impl.Project(wide, []int64{7, 6, 5, 4, 3, 2, 1, 0, 0}))
}

func TestColumnsThatAreNoIndices(t *testing.T) {
	z := diffs(times(2, 1, 9), times(-1, 2, 8))
	for _, c := range []int64{-1, -2, 2, 3, impl.MaxWide, 1 << 32, math.MinInt64, math.MaxInt64} {
		expectNoDiffs(t,
			impl.Project(z, []int64{c}), impl.Project(z, []int64{0, c}), impl.Project(z, []int64{c, 1}),
			impl.Project(nil, []int64{c}), impl.Project([]impl.Diff{}, []int64{0, c}),
			impl.Project(diffs(times(1)), []int64{c}),
		)
	}
	expectNoDiffs(t, impl.Project(diffs(times(1)), []int64{0}), impl.Project(nil, []int64{0}), impl.Project(nil, make([]int64, impl.MaxWide+1)))
}

// Only the whole sum has a limit, not a part of it.
func TestCountsOfProjectionsHaveALimit(t *testing.T) {
	const most = impl.MaxCount
	none := []int64{}
	expectDiffs(t, impl.Project(diffs(times(most-1, 1), times(1, 2)), none), times(most))
	expectDiffs(t, impl.Project(diffs(times(most, 1), times(most, 2), times(-most, 3)), none), times(most))
	expectDiffs(t, impl.Project(diffs(times(-most, 1), times(-most, 2), times(most, 3)), none), times(-most))
	expectNoDiffs(t,
		impl.Project(diffs(times(most, 1), times(1, 2)), none),
		impl.Project(diffs(times(-most, 1), times(-1, 2)), none),
		impl.Project(span(most, 0, impl.MaxRows), none),
		impl.Project(span(-most, 0, impl.MaxRows), none),
		impl.Project(diffs(times(1, 1, 1), times(most, 1, 2), times(1, 2, 2)), []int64{1}),
	)
	expectDiffs(t, impl.Project(span(333, 0, impl.MaxRows), none), times(333*impl.MaxRows))
	expectDiffs(t, impl.Project(span(1, 0, impl.MaxRows), []int64{0, 0})[:1], times(1, 0, 0))
}

// A mixer makes random differences of few different rows, so that many of
// them are in several differences.
type mixer struct {
	*rand.Rand
}

func (m mixer) row(width int) []impl.Value {
	row := []impl.Value{}
	for range width {
		row = append(row, []impl.Value{number(1), number(2), text("a"), null(1)}[m.Intn(4)])
	}
	return row
}

func (m mixer) count(most int64) int64 {
	count := 1 + m.Int63n(most)
	if m.Intn(2) == 0 {
		return -count
	}
	return count
}

func (m mixer) table(width int) [][]impl.Value {
	rows := [][]impl.Value{}
	for range m.Intn(9) {
		rows = append(rows, m.row(width))
	}
	slices.SortFunc(rows, func(a, b []impl.Value) int { return int(impl.CompareRows(a, b)) })
	return slices.CompactFunc(rows, slices.Equal[[]impl.Value])
}

func (m mixer) diffs(width int, most int64) []impl.Diff {
	z := each(0, m.table(width))
	for i := range z {
		z[i].Count = m.count(most)
	}
	return z
}

func (m mixer) columns(width int) []int64 {
	columns := []int64{}
	for range m.Intn(4) {
		if width > 0 {
			columns = append(columns, int64(m.Intn(width)))
		}
	}
	return columns
}

// sumInAnyOrder adds the differences pair by pair until one is left.
func (m mixer) sumInAnyOrder(zs [][]impl.Diff) []impl.Diff {
	zs = slices.Clone(zs)
	for len(zs) > 1 {
		m.Shuffle(len(zs), func(i, j int) { zs[i], zs[j] = zs[j], zs[i] })
		zs = append(zs[2:], impl.AddDiffs(zs[0], zs[1]))
	}
	return zs[0]
}

// Promise 4: the sum does not depend on the order of its terms.
func TestSumsInAnyOrderAndGrouping(t *testing.T) {
	m := mixer{rand.New(rand.NewSource(41))}
	for range 2000 {
		zs := make([][]impl.Diff, 1+m.Intn(7))
		width := m.Intn(4)
		for i := range zs {
			zs[i] = m.diffs(width, 3)
		}
		want, _ := expectedSum(slices.Concat(zs...))
		for range 4 {
			if got := m.sumInAnyOrder(zs); !sameDiffs(got, want) {
				t.Fatalf("%v add up to %s, not %s", zs, shownDiffs(got), shownDiffs(want))
			}
		}
	}
}

// Promise 4, for negations and for the difference between two tables.
func TestNegationsAndTablesAddUp(t *testing.T) {
	m := mixer{rand.New(rand.NewSource(42))}
	for range 5000 {
		width := m.Intn(4)
		a, b := m.diffs(width, 3), m.diffs(width, 3)
		expectNoDiffs(t, impl.AddDiffs(a, impl.NegDiff(a)))
		expectDiffs(t, impl.NegDiff(impl.NegDiff(a)), a...)
		expectDiffs(t, impl.NegDiff(impl.AddDiffs(a, b)), impl.AddDiffs(impl.NegDiff(a), impl.NegDiff(b))...)
		expectDiffs(t, impl.AddDiffs(impl.AddDiffs(a, b), impl.NegDiff(b)), a...)
		old, now := m.table(width), m.table(width)
		change := impl.DiffOf(old, now)
		expectDiffs(t, impl.AddDiffs(each(1, old), change), each(1, now)...)
		expectDiffs(t, impl.NegDiff(change), impl.DiffOf(now, old)...)
		expectRows(t, impl.Distinct(impl.AddDiffs(each(1, old), change)), now...)
	}
}

// Promise 4: joins and projections work term by term.
func TestJoinsAndProjectionsOfSums(t *testing.T) {
	m := mixer{rand.New(rand.NewSource(43))}
	for range 5000 {
		width, other := m.Intn(4), m.Intn(4)
		on := int64(m.Intn(min(width, other) + 1))
		a, b := m.diffs(width, 3), m.diffs(width, 3)
		c, d := m.diffs(other, 3), m.diffs(other, 3)
		join := func(x, y []impl.Diff) []impl.Diff { return impl.JoinDiffs(x, y, on) }
		expectDiffs(t, join(impl.AddDiffs(a, b), c), impl.AddDiffs(join(a, c), join(b, c))...)
		expectDiffs(t, join(c, impl.AddDiffs(a, b)), impl.AddDiffs(join(c, a), join(c, b))...)
		expectDiffs(t, join(impl.NegDiff(a), c), impl.NegDiff(join(a, c))...)
		expectDiffs(t, join(impl.AddDiffs(a, b), impl.AddDiffs(c, d)), m.sumInAnyOrder([][]impl.Diff{join(a, c), join(a, d), join(b, c), join(b, d)})...)
		columns := m.columns(width)
		project := func(x []impl.Diff) []impl.Diff { return impl.Project(x, columns) }
		expectDiffs(t, project(impl.AddDiffs(a, b)), impl.AddDiffs(project(a), project(b))...)
		expectDiffs(t, project(impl.NegDiff(a)), impl.NegDiff(project(a))...)
		singles := [][]impl.Diff{{}}
		for _, d := range a {
			singles = append(singles, project(diffs(d)))
		}
		expectDiffs(t, project(a), m.sumInAnyOrder(singles)...)
	}
}

// Promise 4: Flips, added to the distinct rows, yields those of the sum.
func TestFlipsAddedToTheDistinctRows(t *testing.T) {
	m := mixer{rand.New(rand.NewSource(44))}
	for range 5000 {
		width := m.Intn(4)
		z, d := m.diffs(width, 2), m.diffs(width, 2)
		flips := impl.Flips(z, d)
		now := impl.Distinct(impl.AddDiffs(z, d))
		expectDiffs(t, impl.AddDiffs(each(1, impl.Distinct(z)), flips), each(1, now)...)
		expectDiffs(t, flips, impl.DiffOf(impl.Distinct(z), now)...)
		expectDiffs(t, impl.Flips(impl.AddDiffs(z, d), impl.NegDiff(d)), impl.NegDiff(flips)...)
	}
}

// Promise 4, for every function, also where sums do not exist.
func TestRandomDifferencesAreTreatedAsDefined(t *testing.T) {
	m := mixer{rand.New(rand.NewSource(45))}
	for range 20000 {
		width := m.Intn(4)
		other := width
		if m.Intn(4) == 0 {
			other = m.Intn(impl.MaxWide + 1)
		}
		most := []int64{1, 3, 2000, impl.MaxCount}[m.Intn(4)]
		columns := m.columns(width)
		if m.Intn(8) == 0 {
			columns = append(columns, int64(m.Intn(6)-1))
		}
		expectAsDefined(t, m.diffs(width, most), m.diffs(other, most), int64(m.Intn(5)-1), columns)
	}
}

// wild returns a list that often is no difference.
func (m mixer) wild() []impl.Diff {
	rows := [][]impl.Value{
		numbers(1), numbers(2), numbers(3), rowOf(text("a")), rowOf(null(1)),
		nil, {}, numbers(1, 1), numbers(1, 2), upTo(impl.MaxWide), tooWide(),
		rowOf(invalidValues[m.Intn(len(invalidValues))]), rowOf(number(1), impl.Value{}),
	}
	counts := []int64{1, -1, 2, 1000, -1001, impl.MaxCount, -impl.MaxCount, 0, impl.MaxCount + 1, -impl.MaxCount - 1, math.MinInt64, math.MaxInt64}
	lastRow, lastCount := 5, 7
	if m.Intn(3) == 0 {
		lastRow, lastCount = len(rows), len(counts)
	}
	z := []impl.Diff{}
	for range m.Intn(4) {
		z = append(z, impl.Diff{Row: rows[m.Intn(lastRow)], Count: counts[m.Intn(lastCount)]})
	}
	if m.Intn(8) > 0 {
		slices.SortFunc(z, func(a, b impl.Diff) int { return int(impl.CompareRows(a.Row, b.Row)) })
	}
	return z
}

func (m mixer) wildNumber() int64 {
	return []int64{0, 0, 0, 1, 1, 2, 7, 8, 9, -1, math.MinInt64, math.MaxInt64}[m.Intn(12)]
}

func (m mixer) wildColumns() []int64 {
	columns := []int64{}
	for range m.Intn(3) * m.Intn(6) {
		columns = append(columns, m.wildNumber())
	}
	return columns
}

// Promise 19: no argument makes a function panic.
func TestDifferencesReturnForEveryArgument(t *testing.T) {
	m := mixer{rand.New(rand.NewSource(46))}
	found := 0
	for range 20000 {
		a, b := m.wild(), m.wild()
		expectAsDefined(t, a, b, m.wildNumber(), m.wildColumns())
		if isDifference(a) && isDifference(b) && len(a) > 0 && len(b) > 0 {
			found++
		}
	}
	if found < 2000 {
		t.Errorf("only %d pairs of differences", found)
	}
	huge := span(1, 0, 10*impl.MaxRows)
	for _, z := range [][]impl.Diff{nil, {{}}, huge, {times(1, 1)}, {{Row: slices.Repeat(numbers(1), 100000), Count: 1}}} {
		expectAsDefined(t, z, huge, 0, nil)
		expectAsDefined(t, huge, z, 1, []int64{0})
	}
}

// spareDiffs returns z with texts of its own and in slices whose unused
// capacity holds marks.
func spareDiffs(z []impl.Diff) []impl.Diff {
	out := []impl.Diff{}
	for _, d := range z {
		row := roomy(d.Row)
		for i := range row {
			row[i].Text = strings.Clone(row[i].Text)
		}
		out = append(out, impl.Diff{Row: row, Count: d.Count})
	}
	return append(out, times(-71, -72), times(-73))[:len(z)]
}

func spareRows(rows [][]impl.Value) [][]impl.Value {
	out := rowsIn(spareDiffs(each(1, rows)))
	return append(out, numbers(-71))[:len(rows)]
}

// Promise 19: arguments stay as they are, and results are new memory.
func TestDifferencesLeaveTheirArgumentsAlone(t *testing.T) {
	m := mixer{rand.New(rand.NewSource(47))}
	for i := range 3000 {
		width := m.Intn(4)
		a, b := spareDiffs(m.diffs(width, 3)), spareDiffs(m.diffs(width, 3))
		if i%5 == 0 {
			a, b = spareDiffs(m.wild()), spareDiffs(m.wild())
		}
		old, now := spareRows(m.table(width)), spareRows(m.table(width))
		on, columns := int64(m.Intn(width+1)), append(m.columns(width), 71, 72)
		columns = columns[:len(columns)-2]
		arguments := []any{a, b, old, now, columns}
		before := contents(arguments...)
		for _, result := range []any{
			impl.DiffOk(a),
			impl.AddDiffs(a, b), impl.AddDiffs(a, nil), impl.AddDiffs(nil, b), impl.AddDiffs(a, a),
			impl.NegDiff(a),
			impl.DiffOf(old, now), impl.DiffOf(old, nil), impl.DiffOf(nil, now),
			impl.Distinct(a),
			impl.Flips(a, b), impl.Flips(nil, b), impl.Flips(a, impl.NegDiff(a)),
			impl.JoinDiffs(a, b, on), impl.JoinDiffs(a, a, on), impl.JoinDiffs(a, diffs(times(1)), 0), impl.JoinDiffs(diffs(times(1)), b, 0),
			impl.Project(a, columns), impl.Project(a, []int64{0, 0}),
		} {
			for _, x := range arguments {
				expectOwnMemory(t, result, x)
			}
		}
		if after := contents(arguments...); before != after {
			t.Fatalf("%s became %s", before, after)
		}
	}
}
