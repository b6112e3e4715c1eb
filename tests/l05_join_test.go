package tests

import (
	"fmt"
	"maps"
	"math"
	"math/rand"
	"reflect"
	"slices"
	"strings"
	"testing"

	"loop.example/g00030/impl"
)

// relation returns a relation whose rows are given by their text forms, in
// ascending order.
func relation(name string, rows ...string) impl.Rel {
	out := impl.Rel{Name: name}
	for _, s := range rows {
		row, ok := impl.ReadRow(s)
		if !ok {
			panic(s + " is no row")
		}
		out.Rows = append(out.Rows, row)
	}
	return out
}

func database(rels ...impl.Rel) []impl.Rel { return rels }

// graph is a small database with integers, texts and nulls.
func graph() []impl.Rel {
	return database(
		relation("edge", "(1, 2)", "(2, 3)", "(2, 4)", "(3, 1)", "(4, 4)"),
		relation("flag", "()"),
		relation("gone"),
		relation("label", `(1, "a")`, `(2, "b")`, `(3, "a")`, "(4, ?1)"),
		relation("mixed", "(-1)", "(2)", `("a")`, "(?1)"),
		relation("node", "(1)", "(2)", "(5)"),
	)
}

func onlyRule(t *testing.T, src string) impl.Rule {
	t.Helper()
	p := programOf(t, src)
	if len(p.Rules) != 1 || len(p.Decls) != 0 {
		t.Fatalf("%q is not one rule", src)
	}
	return p.Rules[0]
}

func shownRows(rows [][]impl.Value) string {
	texts := []string{}
	for _, row := range rows[:min(len(rows), 30)] {
		texts = append(texts, impl.ShowRow(row))
	}
	return fmt.Sprint(len(rows), " rows: ", strings.Join(texts, " "))
}

func expectTable(t *testing.T, name string, got [][]impl.Value, want [][]impl.Value) {
	t.Helper()
	if !sameRows(got, want) || !impl.TableOk(got) {
		t.Errorf("%s: %s, not %s", name, shownRows(got), shownRows(want))
	}
}

func expectSolutions(t *testing.T, src string, db []impl.Rel, rows ...string) {
	t.Helper()
	expectTable(t, "Solve of "+src, impl.Solve(onlyRule(t, src), db), relation("", rows...).Rows)
}

func expectHeads(t *testing.T, src string, db []impl.Rel, rows ...string) {
	t.Helper()
	expectTable(t, "Heads of "+src, impl.Heads(onlyRule(t, src), db), relation("", rows...).Rows)
}

func expectOrder(t *testing.T, src string, db []impl.Rel, want ...int64) {
	t.Helper()
	if got := impl.Order(onlyRule(t, src), db); !slices.Equal(got, want) {
		t.Errorf("Order of %s = %v, not %v", src, got, want)
	}
}

// expectNothing checks a rule and a database for which there are no solutions
// by a condition that is not fulfilled.
func expectNothing(t *testing.T, name string, r impl.Rule, db []impl.Rel) {
	t.Helper()
	if got := impl.Solve(r, db); got != nil {
		t.Errorf("%s: Solve = %s", name, shownRows(got))
	}
	if got := impl.Heads(r, db); got != nil {
		t.Errorf("%s: Heads = %s", name, shownRows(got))
	}
	if got := impl.Order(r, db); got != nil {
		t.Errorf("%s: Order = %v", name, got)
	}
}

// namedRels returns n relations without rows.
func namedRels(n int) []impl.Rel {
	db := []impl.Rel{}
	for i := range n {
		db = append(db, impl.Rel{Name: fmt.Sprintf("r%03d", i)})
	}
	return db
}

func validDatabases() map[string][]impl.Rel {
	return map[string][]impl.Rel{
		"nil":                         nil,
		"no relations":                {},
		"one relation without rows":   {{Name: "a"}},
		"rows of different relations": {{Name: "a", Rows: countTo(3)}, {Name: "b", Rows: [][]impl.Value{numbers(1, 2)}}, {Name: "c", Rows: [][]impl.Value{{}}}},
		"MaxRels relations":           namedRels(impl.MaxRels),
		"MaxRows rows":                {{Name: "a", Rows: countTo(impl.MaxRows)}, {Name: "b", Rows: countTo(impl.MaxRows)}},
		"MaxWord bytes":               {{Name: strings.Repeat("w", impl.MaxWord)}},
		"names in bytewise order":     {{Name: "a"}, {Name: "aB"}, {Name: "a_"}, {Name: "aa"}, {Name: "b"}},
		"the graph":                   graph(),
	}
}

// invalidDatabases have a relation a, whose rows are right in some.
func invalidDatabases() map[string][]impl.Rel {
	a := impl.Rel{Name: "a", Rows: countTo(2)}
	with := func(name string) []impl.Rel { return []impl.Rel{a, {Name: name}} }
	cases := map[string][]impl.Rel{
		"an empty name":           {{}},
		"an empty name and a":     {{}, a},
		"a variable":              {{Name: "A"}, a},
		"an underscore":           {{Name: "_"}, a},
		"a name with a digit":     {{Name: "1a"}, a},
		"a name with a blank":     with("a b"),
		"the word not":            with("not"),
		"the word rel":            with("rel"),
		"the word min":            with("min"),
		"the word max":            with("max"),
		"the word sum":            with("sum"),
		"the word count":          with("count"),
		"MaxWord + 1 bytes":       with(strings.Repeat("w", impl.MaxWord+1)),
		"names that are equal":    {a, a},
		"equal names, no rows":    {{Name: "a"}, {Name: "a"}},
		"names that descend":      {{Name: "b"}, a},
		"names that descend late": {a, {Name: "c"}, {Name: "b"}},
		"MaxRels + 1 relations":   append([]impl.Rel{a}, namedRels(impl.MaxRels)...),
		"rows that descend":       {{Name: "a", Rows: [][]impl.Value{numbers(2), numbers(1)}}},
		"rows that are repeated":  {{Name: "a", Rows: [][]impl.Value{numbers(1), numbers(1)}}},
		"rows of two widths":      {{Name: "a", Rows: [][]impl.Value{numbers(1), numbers(2, 3)}}},
		"rows that are too wide":  {a, {Name: "b", Rows: [][]impl.Value{tooWide()}}},
		"MaxRows + 1 rows":        {a, {Name: "b", Rows: countTo(impl.MaxRows + 1)}},
		"MaxRows + 1 rows of a":   {{Name: "a", Rows: countTo(impl.MaxRows + 1)}},
	}
	for i, v := range invalidValues {
		cases[fmt.Sprint("the invalid value ", i)] = []impl.Rel{a, {Name: "b", Rows: [][]impl.Value{rowOf(v)}}}
	}
	return cases
}

func TestDbOk(t *testing.T) {
	for name, db := range validDatabases() {
		if !impl.DbOk(db) {
			t.Errorf("%s is a database", name)
		}
	}
}

// Promise 19, for lists that are no databases.
func TestListsThatAreNoDatabases(t *testing.T) {
	for name, db := range invalidDatabases() {
		if impl.DbOk(db) {
			t.Errorf("%s is no database", name)
		}
		for _, r := range append(db[:len(db):len(db)], impl.Rel{Name: "a"}) {
			if rows := impl.RowsOf(db, r.Name); rows != nil {
				t.Errorf("%s: RowsOf %s = %v", name, r.Name, rows)
			}
		}
		for _, src := range []string{"p(X) :- a(X).", "p(1).", "p(X) :- X = 1.", "p(X) :- c(X).", "p(count) :- a(X)."} {
			expectNothing(t, name+": "+src, onlyRule(t, src), db)
		}
	}
}

func TestRowsOf(t *testing.T) {
	db := graph()
	for _, r := range db {
		if got := impl.RowsOf(db, r.Name); !sameRows(got, r.Rows) {
			t.Errorf("RowsOf %s = %v", r.Name, got)
		}
	}
	for _, name := range []string{"", "a", "edg", "edges", "Edge", "node2", "not", "\xff"} {
		if got := impl.RowsOf(db, name); got != nil {
			t.Errorf("RowsOf %q = %v", name, got)
		}
	}
	if got := impl.RowsOf(nil, "edge"); got != nil {
		t.Errorf("RowsOf the empty database = %v", got)
	}
	full := append(namedRels(impl.MaxRels-1), impl.Rel{Name: "s", Rows: countTo(impl.MaxRows)})
	if got := impl.RowsOf(full, "s"); !sameRows(got, countTo(impl.MaxRows)) {
		t.Errorf("RowsOf of MaxRels relations: %d rows", len(got))
	}
}

// exprIn returns the expression that src stands for.
func exprIn(t *testing.T, src string) []impl.Node {
	t.Helper()
	return onlyRule(t, "p("+src+").").Head.Args[0]
}

func expectValue(t *testing.T, src string, names []string, values []impl.Value, want impl.Value) {
	t.Helper()
	if got, ok := impl.Reckon(exprIn(t, src), names, values); !ok || got != want {
		t.Errorf("Reckon(%s, %v, %v) = %v, %v, not %v", src, names, values, got, ok, want)
	}
}

func expectUnreckoned(t *testing.T, es []impl.Node, names []string, values []impl.Value) {
	t.Helper()
	if got, ok := impl.Reckon(es, names, values); ok || got != (impl.Value{}) {
		t.Errorf("Reckon(%v, %v, %v) = %v, %v", es, names, values, got, ok)
	}
}

func TestReckon(t *testing.T) {
	names, values := []string{"X", "Y", "Zz_9"}, numbers(4, -3, 10)
	for src, want := range map[string]int64{
		"7": 7, "-7": -7, "X": 4, "Y": -3, "Zz_9": 10,
		"X + Y": 1, "X - Y": 7, "Y - X": -7, "X * Y": -12, "X * X": 16, "X - X": 0,
		"X * 2 - 1": 7, "X * (2 - 1)": 4, "1 - X * 2": -7, "(1 - X) * 2": -6,
		"10 - 4 - 3": 3, "10 - (4 - 3)": 9, "X + Y * Zz_9": -26, "(X + Y) * Zz_9": 10,
		"0 * X": 0, "X - -3": 7,
	} {
		expectValue(t, src, names, values, number(want))
	}
	expectValue(t, "5", nil, nil, number(5))
	expectValue(t, `"a\"b"`, nil, []impl.Value{}, text(`a"b`))
	for _, c := range validValues {
		expectValue(t, "X", []string{"W", "X"}, rowOf(number(0), c.value), c.value)
		if c.value.Kind != impl.KindNull {
			expectValue(t, c.shown, names, values, c.value)
		}
	}
}

func TestReckonTakesTheFirstOfEqualNames(t *testing.T) {
	names := []string{"X", "Y", "X", "Y", "X"}
	expectValue(t, "X", names, numbers(1, 2, 3, 4, 5), number(1))
	expectValue(t, "Y - X", names, numbers(1, 20, 3, 4, 5), number(19))
	expectUnreckoned(t, exprIn(t, "X + 1"), names, rowOf(text("a"), number(2), number(3), number(4), number(5)))
	many := slices.Repeat([]string{"A"}, 5000)
	expectValue(t, "B + A", append(many, "B"), append(slices.Repeat(numbers(7), 5000), number(1)), number(8))
}

// The names need not be variables.
func TestReckonTakesNamesOfAnyKind(t *testing.T) {
	expectValue(t, "X", []string{"", "x", "_", "\xff", "not", "X"}, numbers(1, 2, 3, 4, 5, 6), number(6))
	expectUnreckoned(t, exprIn(t, "X"), []string{"", "x", "_", "XX", "X "}, numbers(1, 2, 3, 4, 5))
}

func TestReckonAtTheLimits(t *testing.T) {
	const most = impl.MaxInt
	names := []string{"X", "Y"}
	for _, c := range []struct {
		src  string
		x, y int64
		want int64
	}{
		{"X + Y", most - 1, 1, most}, {"X + Y", -most + 1, -1, -most}, {"X + Y", most, -most, 0},
		{"X - Y", most - 1, -1, most}, {"X - Y", -most + 1, 1, -most}, {"X - Y", most, most, 0},
		{"X * Y", most, 1, most}, {"X * Y", most, -1, -most}, {"X * Y", -most, -1, most},
		{"X * Y", 50000, 20000, most}, {"X * Y", -50000, 20000, -most}, {"X * Y", most, 0, 0},
		{"X - Y + Y", most, 1, most},
	} {
		expectValue(t, c.src, names, numbers(c.x, c.y), number(c.want))
	}
	for _, c := range []struct {
		src  string
		x, y int64
	}{
		{"X + Y", most, 1}, {"X + Y", -most, -1}, {"X + Y", most, most}, {"X + Y", -most, -most},
		{"X - Y", most, -1}, {"X - Y", -most, 1}, {"X - Y", most, -most}, {"X - Y", -most, most},
		{"X * Y", 500000001, 2}, {"X * Y", 500000001, -2}, {"X * Y", most, most}, {"X * Y", -most, most},
		{"X + Y - Y", most, 1}, {"0 * (X + Y)", most, 1}, {"X - (X - Y)", most, -1},
	} {
		expectUnreckoned(t, exprIn(t, c.src), names, numbers(c.x, c.y))
	}
}

func TestPartsThatAreNoIntegers(t *testing.T) {
	for _, v := range []impl.Value{text(""), text("a"), text("1"), null(1), null(impl.MaxInt)} {
		names, values := []string{"X", "Y"}, rowOf(v, number(2))
		expectValue(t, "X", names, values, v)
		for _, src := range []string{"X + Y", "Y + X", "X - Y", "Y - X", "X * Y", "Y * X", "X - X", "0 * X", "X + 0", "Y + (Y + X)"} {
			expectUnreckoned(t, exprIn(t, src), names, values)
		}
	}
	for _, src := range []string{`"a" + 1`, `1 - "a"`, `"a" * "a"`, `1 + 2 * "3"`} {
		expectUnreckoned(t, exprIn(t, src), nil, nil)
	}
}

func TestExpressionsWithoutAValue(t *testing.T) {
	names, values := []string{"X", "Y"}, numbers(1, 2)
	for _, src := range []string{"_", "_ + 1", "X * _", "X + Y * (Y - _)", "Z", "Z + X", "X - Z", "XX", "0 * Z"} {
		expectUnreckoned(t, exprIn(t, src), names, values)
	}
	expectUnreckoned(t, exprIn(t, "X"), nil, nil)
}

func TestReckonOfNodesThatAreNoExpression(t *testing.T) {
	x, one := variableNode("X"), constantNode(number(1))
	sum := operationNodes(impl.NodeAdd, x, one)
	long := x
	for len(long)+2 <= impl.MaxNodes {
		long = operationNodes(impl.NodeSub, long, one)
	}
	if v, ok := impl.Reckon(long, []string{"X"}, numbers(100)); !ok || v != number(100-int64(len(long)/2)) {
		t.Errorf("the longest expression: %v, %v", v, ok)
	}
	for _, es := range [][]impl.Node{
		nil, {}, {{}}, {{Kind: 7}}, {{Kind: -1}},
		{{Kind: impl.NodeVar}}, {{Kind: impl.NodeVar, Name: "x"}}, {{Kind: impl.NodeVar, Name: "X", Size: 1}},
		{{Kind: impl.NodeVar, Name: "X", Value: number(1)}},
		{{Kind: impl.NodeConst}}, constantNode(null(1)), constantNode(number(impl.MaxInt + 1)),
		{{Kind: impl.NodeConst, Name: "X", Value: number(1)}},
		{{Kind: impl.NodeAdd}}, {{Kind: impl.NodeAdd, Size: 2}}, sum[:2], sum[1:],
		slices.Concat(x, x), slices.Concat(sum, one), operationNodes(6, x, one), operationNodes(0, x, one),
		{{Kind: impl.NodeAdd, Size: 3}, x[0], one[0]}, {{Kind: impl.NodeAdd, Size: math.MaxInt64}, x[0], one[0]},
		operationNodes(impl.NodeAdd, long, one), operationNodes(impl.NodeAdd, one, long),
		slices.Repeat(x, 100000),
	} {
		expectUnreckoned(t, es, []string{"X", "x", ""}, numbers(1, 1, 1))
	}
}

func TestReckonNeedsAValueForEachName(t *testing.T) {
	for _, src := range []string{"X", "7", "X + 1"} {
		es := exprIn(t, src)
		expectUnreckoned(t, es, []string{"X"}, nil)
		expectUnreckoned(t, es, []string{"X"}, numbers(1, 2))
		expectUnreckoned(t, es, []string{"X", "Y"}, numbers(1))
		expectUnreckoned(t, es, nil, numbers(1))
		for _, v := range invalidValues {
			expectUnreckoned(t, es, []string{"X"}, rowOf(v))
			expectUnreckoned(t, es, []string{"X", "Y"}, rowOf(number(1), v))
			expectUnreckoned(t, es, []string{"X", "X"}, rowOf(number(1), v))
		}
	}
}

func TestSolutionsOfOneAtom(t *testing.T) {
	db := graph()
	expectSolutions(t, "p() :- edge(X, Y).", db, "(1, 2)", "(2, 3)", "(2, 4)", "(3, 1)", "(4, 4)")
	expectSolutions(t, "p() :- edge(Y, X).", db, "(1, 3)", "(2, 1)", "(3, 2)", "(4, 2)", "(4, 4)")
	expectSolutions(t, "p() :- mixed(X).", db, "(-1)", "(2)", `("a")`, "(?1)")
	expectSolutions(t, "p() :- label(B, A).", db, `("a", 1)`, `("a", 3)`, `("b", 2)`, "(?1, 4)")
	expectSolutions(t, "p() :- gone(X).", db)
	expectSolutions(t, "p() :- absent(X, Y).", db)
	expectSolutions(t, "p() :- edge(X, Y).", nil)
	expectSolutions(t, "p() :- flag().", db, "()")
	expectSolutions(t, "p() :- gone().", db)
	expectSolutions(t, "p() :- absent().", db)
}

func TestSolutionsOfRepeatedVariables(t *testing.T) {
	expectSolutions(t, "p() :- edge(X, X).", graph(), "(4)")
	db := database(relation("e", "(1, 1, 1)", "(1, 1, 2)", "(1, 2, 1)", "(2, 1, 1)", "(2, 2, 2)"))
	expectSolutions(t, "p() :- e(X, X, X).", db, "(1)", "(2)")
	expectSolutions(t, "p() :- e(X, X, Y).", db, "(1, 1)", "(1, 2)", "(2, 2)")
	expectSolutions(t, "p() :- e(X, Y, X).", db, "(1, 1)", "(1, 2)", "(2, 2)")
	expectSolutions(t, "p() :- e(Y, X, X).", db, "(1, 1)", "(1, 2)", "(2, 2)")
	expectSolutions(t, "p() :- e(X, X, _).", db, "(1)", "(2)")
	expectSolutions(t, "p() :- e(X, X, 1).", db, "(1)")
	expectSolutions(t, "p() :- e(X, X, Y), e(Y, Y, X).", db, "(1, 1)", "(2, 2)")
	values := database(relation("v", `("", "")`, `("", "0")`, `("0", ?1)`, "(?1, ?1)", "(?1, ?2)"))
	expectSolutions(t, "p() :- v(X, X).", values, `("")`, "(?1)")
}

func TestSolutionsWithConstantsAndAny(t *testing.T) {
	db := graph()
	expectSolutions(t, "p() :- edge(2, X).", db, "(3)", "(4)")
	expectSolutions(t, "p() :- edge(X, 4).", db, "(2)", "(4)")
	expectSolutions(t, "p() :- edge(2, 3).", db, "()")
	expectSolutions(t, "p() :- edge(3, 2).", db)
	expectSolutions(t, `p() :- edge("2", X).`, db)
	expectSolutions(t, `p() :- label(X, "a").`, db, "(1)", "(3)")
	expectSolutions(t, `p() :- label(X, "A").`, db)
	expectSolutions(t, "p() :- edge(X, _).", db, "(1)", "(2)", "(3)", "(4)")
	expectSolutions(t, "p() :- edge(_, X).", db, "(1)", "(2)", "(3)", "(4)")
	expectSolutions(t, "p() :- edge(_, _).", db, "()")
	expectSolutions(t, "p() :- gone(_, _).", db)
	expectSolutions(t, "p() :- edge(2, _).", db, "()")
	expectSolutions(t, "p() :- edge(5, _).", db)
}

// A variable may stand before or after the parts that need it.
func TestSolutionsWithExpressionsAsArguments(t *testing.T) {
	db := graph()
	expectSolutions(t, "p() :- node(X), edge(X, X + 1).", db, "(1)", "(2)")
	expectSolutions(t, "p() :- edge(X, X + 1), node(X).", db, "(1)", "(2)")
	expectSolutions(t, "p() :- edge(X * 2, Y), node(X).", db, "(1, 3)", "(1, 4)", "(2, 4)")
	expectSolutions(t, "p() :- edge(1 + 1, Y).", db, "(3)", "(4)")
	expectSolutions(t, "p() :- edge(X, Y), edge(Y - 1, X + 1), edge(_, X).", db, "(1, 2)", "(2, 3)")
	expectSolutions(t, "p() :- node(X), edge(X - 1, _).", db, "(2)", "(5)")
	expectSolutions(t, "p() :- mixed(X), edge(X + 0, Y).", db, "(2, 3)", "(2, 4)")
	expectSolutions(t, "p() :- mixed(X), node(X * X).", db, "(-1)")
	expectSolutions(t, "p() :- mixed(X), node(500000000 * X - X).", db)
	expectSolutions(t, "p() :- big(X), big(X + 1).", database(relation("big", "(999999999)", "(1000000000)")), "(999999999)")
}

func TestSolutionsOfJoins(t *testing.T) {
	db := graph()
	expectSolutions(t, "p() :- edge(X, Y), edge(Y, Z).", db, "(1, 2, 3)", "(1, 2, 4)", "(2, 3, 1)", "(2, 4, 4)", "(3, 1, 2)", "(4, 4, 4)")
	expectSolutions(t, "p() :- edge(X, Y), edge(Y, X).", db, "(4, 4)")
	expectSolutions(t, "p() :- edge(X, Y), node(X).", db, "(1, 2)", "(2, 3)", "(2, 4)")
	expectSolutions(t, "p() :- node(X), node(Y).", db, "(1, 1)", "(1, 2)", "(1, 5)", "(2, 1)", "(2, 2)", "(2, 5)", "(5, 1)", "(5, 2)", "(5, 5)")
	expectSolutions(t, "p() :- edge(X, Y), edge(Y, Z), edge(Z, X).", db, "(1, 2, 3)", "(2, 3, 1)", "(3, 1, 2)", "(4, 4, 4)")
	expectSolutions(t, `p() :- edge(A, C), label(A, B), label(C, B).`, db, `(3, "a", 1)`, "(4, ?1, 4)")
	expectSolutions(t, "p() :- node(A), label(A, B), mixed(B).", db, `(1, "a")`)
	expectSolutions(t, "p() :- edge(X, Y), gone(Y).", db)
	expectSolutions(t, "p() :- flag(), node(X).", db, "(1)", "(2)", "(5)")
	expectSolutions(t, "p() :- node(X), edge(X, _), edge(_, X).", db, "(1)", "(2)")
	expectSolutions(t, "p() :- edge(X, Y), edge(X, Y).", db, "(1, 2)", "(2, 3)", "(2, 4)", "(3, 1)", "(4, 4)")
}

func TestSolutionsWithNot(t *testing.T) {
	db := graph()
	expectSolutions(t, "p() :- edge(X, Y), not node(X).", db, "(3, 1)", "(4, 4)")
	expectSolutions(t, "p() :- not node(Y), edge(X, Y).", db, "(2, 3)", "(2, 4)", "(4, 4)")
	expectSolutions(t, "p() :- edge(X, Y), not edge(Y, X).", db, "(1, 2)", "(2, 3)", "(2, 4)", "(3, 1)")
	expectSolutions(t, "p() :- node(X), not edge(X, _).", db, "(5)")
	expectSolutions(t, "p() :- node(X), not edge(_, X).", db, "(5)")
	expectSolutions(t, "p() :- node(X), not edge(_, _).", db)
	expectSolutions(t, "p() :- node(X), not edge(2, X).", db, "(1)", "(2)", "(5)")
	expectSolutions(t, "p() :- node(X), not edge(X, 2).", db, "(2)", "(5)")
	expectSolutions(t, "p() :- node(X), not edge(X, X + 1).", db, "(5)")
	expectSolutions(t, `p() :- label(X, Y), not label(X, "a").`, db, `(2, "b")`, "(4, ?1)")
	expectSolutions(t, "p() :- node(X), not gone(X).", db, "(1)", "(2)", "(5)")
	expectSolutions(t, "p() :- node(X), not absent(X, _, 3).", db, "(1)", "(2)", "(5)")
	expectSolutions(t, "p() :- not edge(1, 2).", db)
	expectSolutions(t, "p() :- not edge(2, 1).", db, "()")
	expectSolutions(t, "p() :- not flag().", db)
	expectSolutions(t, "p() :- not gone().", db, "()")
	expectSolutions(t, "p() :- not edge(X, X), node(X), X != 4.", db, "(1)", "(2)", "(5)")
}

// No row has the value of an argument that has none.
func TestArgumentsWithoutAValue(t *testing.T) {
	db := graph()
	expectSolutions(t, "p() :- mixed(X), not node(X + 3).", db, `("a")`, "(?1)")
	expectSolutions(t, "p() :- mixed(X), not node(X + 4).", db, "(-1)", "(2)", `("a")`, "(?1)")
	expectSolutions(t, "p() :- mixed(X), not absent(X * 2).", db, "(-1)", "(2)", `("a")`, "(?1)")
	expectSolutions(t, "p() :- node(X), not node(1000000000 + X).", db, "(1)", "(2)", "(5)")
	expectSolutions(t, `p() :- not node("a" + 1).`, db, "()")
	expectSolutions(t, `p() :- node("a" + 1).`, db)
	expectSolutions(t, "p() :- mixed(X), node(X + 3).", db, "(-1)", "(2)")
	expectSolutions(t, "p() :- mixed(X), edge(_, X - 0).", db, "(2)")
}

func TestSolutionsOfTests(t *testing.T) {
	db := database(relation("n", "(1)", "(2)", "(3)"))
	for op, want := range map[string][]string{
		"=": {"(2)"}, "!=": {"(1)", "(3)"}, "<": {"(1)"}, "<=": {"(1)", "(2)"}, ">": {"(3)"}, ">=": {"(2)", "(3)"},
	} {
		expectSolutions(t, "p() :- n(X), X "+op+" 2.", db, want...)
		expectSolutions(t, "p() :- X * 2 "+op+" X + 2, n(X).", db, want...)
		reversed := strings.NewReplacer("<", ">", ">", "<").Replace(op)
		expectSolutions(t, "p() :- n(X), 2 "+reversed+" X.", db, want...)
	}
	expectSolutions(t, "p() :- n(X), n(Y), X < Y.", db, "(1, 2)", "(1, 3)", "(2, 3)")
	expectSolutions(t, "p() :- n(X), n(Y), X + Y = 4.", db, "(1, 3)", "(2, 2)", "(3, 1)")
	expectSolutions(t, "p() :- n(X), X = X.", db, "(1)", "(2)", "(3)")
	expectSolutions(t, "p() :- n(X), X = X + 0.", db, "(1)", "(2)", "(3)")
	expectSolutions(t, "p() :- n(X), X != X.", db)
	expectSolutions(t, "p() :- 1 < 2.", db, "()")
	expectSolutions(t, "p() :- 2 < 1.", db)
}

// Integers precede texts, and texts precede nulls.
func TestTestsCompareValuesOfAllKinds(t *testing.T) {
	db := graph()
	expectSolutions(t, "p() :- mixed(X), X < 3.", db, "(-1)", "(2)")
	expectSolutions(t, "p() :- mixed(X), X > 1000000000.", db, `("a")`, "(?1)")
	expectSolutions(t, `p() :- mixed(X), X >= "a".`, db, `("a")`, "(?1)")
	expectSolutions(t, `p() :- mixed(X), X > "a".`, db, "(?1)")
	expectSolutions(t, `p() :- mixed(X), X <= "a".`, db, "(-1)", "(2)", `("a")`)
	expectSolutions(t, "p() :- mixed(X), mixed(Y), X = Y, Y > 3.", db, `("a", "a")`, "(?1, ?1)")
	expectSolutions(t, "p() :- mixed(X), label(4, Y), X = Y.", db, "(?1, ?1)")
	expectSolutions(t, `p() :- mixed(X), X != "a".`, db, "(-1)", "(2)", "(?1)")
	// A side without a value satisfies no test.
	for _, op := range []string{"=", "!=", "<", "<=", ">", ">="} {
		expectSolutions(t, `p() :- label(X, "b"), X `+op+` "a" + 1.`, db)
		expectSolutions(t, `p() :- 1000000000 + X `+op+` X, label(X, "b").`, db)
	}
	expectSolutions(t, "p() :- mixed(X), X + 1 != 0.", db, "(2)")
	expectSolutions(t, "p() :- mixed(X), 3 >= X + 1.", db, "(-1)", "(2)")
}

func TestTestsThatBindOnEitherSide(t *testing.T) {
	db := graph()
	expectSolutions(t, "p() :- node(X), Y = X * 2.", db, "(1, 2)", "(2, 4)", "(5, 10)")
	expectSolutions(t, "p() :- X * 2 = Y, node(X).", db, "(1, 2)", "(2, 4)", "(5, 10)")
	expectSolutions(t, "p() :- node(X), Y = X.", db, "(1, 1)", "(2, 2)", "(5, 5)")
	expectSolutions(t, "p() :- Y = X, node(Y).", db, "(1, 1)", "(2, 2)", "(5, 5)")
	expectSolutions(t, "p() :- X = 3.", db, "(3)")
	expectSolutions(t, `p() :- "a" = X.`, db, `("a")`)
	expectSolutions(t, "p() :- X = 3, X = 4.", db)
	expectSolutions(t, "p() :- X = 3, 3 = X.", db, "(3)")
	expectSolutions(t, "p() :- X = 3, Y = X + 1, Z = Y * Y.", db, "(3, 4, 16)")
	expectSolutions(t, "p() :- Z = Y * Y, Y = X + 1, X = 3.", db, "(3, 4, 16)")
	expectSolutions(t, "p() :- node(X), Y = X + 1, edge(X, Y).", db, "(1, 2)", "(2, 3)")
	expectSolutions(t, "p() :- mixed(X), Y = X + 1.", db, "(-1, 0)", "(2, 3)")
	expectSolutions(t, "p() :- mixed(X), X - 1 = Y.", db, "(-1, -2)", "(2, 1)")
	expectSolutions(t, "p() :- mixed(X), Y = X.", db, "(-1, -1)", "(2, 2)", `("a", "a")`, "(?1, ?1)")
	expectSolutions(t, "p() :- node(X), Y = X + 999999998.", db, "(1, 999999999)", "(2, 1000000000)")
	expectSolutions(t, "p() :- X = 5, edge(X, _).", db)
	expectSolutions(t, "p() :- X = 2, edge(X, Y).", db, "(2, 3)", "(2, 4)")
}

func TestRulesWithoutABody(t *testing.T) {
	for _, db := range [][]impl.Rel{nil, graph()} {
		expectSolutions(t, "p(1).", db, "()")
		expectHeads(t, "p(1).", db, "(1)")
		expectHeads(t, "p().", db, "()")
		expectHeads(t, `edge(1 + 2 * 3, "a", -4).`, db, `(7, "a", -4)`)
		expectHeads(t, "p(1000000000 + 1).", db)
		expectHeads(t, `p(1, "a" - 1).`, db)
		expectHeads(t, "p(count).", db, "(1)")
		expectHeads(t, "p(3, sum 4).", db, "(3, 4)")
		expectHeads(t, "p(min 4 * 2).", db, "(8)")
		expectOrder(t, "p(1).", db)
	}
}

func TestHeads(t *testing.T) {
	db := graph()
	expectHeads(t, "p(X, Y) :- edge(X, Y).", db, "(1, 2)", "(2, 3)", "(2, 4)", "(3, 1)", "(4, 4)")
	expectHeads(t, "p(Y, X) :- edge(X, Y).", db, "(1, 3)", "(2, 1)", "(3, 2)", "(4, 2)", "(4, 4)")
	expectHeads(t, "p(X) :- edge(X, Y).", db, "(1)", "(2)", "(3)", "(4)")
	expectHeads(t, "p() :- edge(X, Y).", db, "()")
	expectHeads(t, "p() :- gone(X).", db)
	expectHeads(t, `p(X, "c", X, 3) :- node(X).`, db, `(1, "c", 1, 3)`, `(2, "c", 2, 3)`, `(5, "c", 5, 3)`)
	expectHeads(t, "p(X + Y, X * Y) :- edge(X, Y).", db, "(3, 2)", "(4, 3)", "(5, 6)", "(6, 8)", "(8, 16)")
	expectHeads(t, "p(Z) :- edge(X, Y), Z = X + Y, Z > 4.", db, "(5)", "(6)", "(8)")
	expectHeads(t, "edge(X, Z) :- edge(X, Y), edge(Y, Z).", db, "(1, 3)", "(1, 4)", "(2, 1)", "(2, 4)", "(3, 2)", "(4, 4)")
	expectHeads(t, "p(X) :- mixed(X).", db, "(-1)", "(2)", `("a")`, "(?1)")
	expectHeads(t, "p(1, 2, 3, 4, 5, 6, 7, X) :- node(X), X > 2.", db, "(1, 2, 3, 4, 5, 6, 7, 5)")
}

func TestSolutionsForWhichAHeadArgumentHasNoValue(t *testing.T) {
	db := graph()
	expectHeads(t, "p(X + 1) :- mixed(X).", db, "(0)", "(3)")
	expectHeads(t, "p(X, X * 1) :- mixed(X).", db, "(-1, -1)", "(2, 2)")
	expectHeads(t, "p(X * 1, X) :- mixed(X).", db, "(-1, -1)", "(2, 2)")
	expectHeads(t, "p(X * 500000000) :- node(X).", db, "(500000000)", "(1000000000)")
	expectHeads(t, "p(1, 1000000000 - X) :- mixed(X), X < 0.", db)
}

// The widths of the head and of the rows of its relation may differ.
func TestRowsOfTheHeadAreNotLookedAt(t *testing.T) {
	db := graph()
	expectHeads(t, "edge(X) :- node(X).", db, "(1)", "(2)", "(5)")
	expectHeads(t, "edge() :- node(X).", db, "()")
	expectSolutions(t, "node(X, X, X) :- edge(X, X).", db, "(4)")
	expectOrder(t, "label() :- node(X).", db, 0)
}

func pays() []impl.Rel {
	return database(
		relation("pay", `("ann", 1, 30)`, `("ann", 2, 10)`, `("bob", 1, -5)`, `("bob", 2, "x")`, `("cy", 1, "b")`, `("cy", 2, "a")`, `("cy", 3, ?4)`, `("cy", 4, ?3)`),
		relation("tag", `("ann", 1)`, `("ann", 2)`, `("bob", 7)`),
	)
}

func TestCount(t *testing.T) {
	db := pays()
	expectHeads(t, "p(count) :- pay(N, I, A).", db, "(8)")
	expectHeads(t, "p(N, count) :- pay(N, I, A).", db, `("ann", 2)`, `("bob", 2)`, `("cy", 4)`)
	expectHeads(t, "p(count, N) :- pay(N, I, A).", db, `(2, "ann")`, `(2, "bob")`, `(4, "cy")`)
	expectHeads(t, "p(I, count, N) :- pay(N, I, A), I > 2.", db, `(3, 1, "cy")`, `(4, 1, "cy")`)
	expectHeads(t, "p(I, count) :- pay(N, I, A).", db, "(1, 3)", "(2, 3)", "(3, 1)", "(4, 1)")
	expectHeads(t, "p(I * 0, count) :- pay(N, I, A).", db, "(0, 8)")
	expectHeads(t, "p(count) :- gone(X).", db)
	expectHeads(t, "p(1, count) :- pay(N, I, A), tag(N, T).", db, "(1, 6)")
	// Solutions are counted, not rows: an argument `_` makes no difference.
	expectHeads(t, "p(count) :- pay(N, _, _).", db, "(3)")
	expectHeads(t, "p(N, count) :- pay(N, _, _), tag(N, T).", db, `("ann", 2)`, `("bob", 1)`)
	expectHeads(t, "p(count) :- pay(_, _, _).", db, "(1)")
	// Solutions for which another argument has no value are ignored.
	expectHeads(t, "p(A + 0, count) :- pay(N, I, A).", db, "(-5, 1)", "(10, 1)", "(30, 1)")
	expectHeads(t, "p(count, A * 0) :- pay(N, I, A).", db, "(3, 0)")
}

func TestSum(t *testing.T) {
	db := pays()
	expectHeads(t, "p(sum A) :- pay(N, I, A).", db, "(35)")
	expectHeads(t, "p(N, sum A) :- pay(N, I, A).", db, `("ann", 40)`, `("bob", -5)`)
	expectHeads(t, "p(sum A, N) :- pay(N, I, A).", db, `(-5, "bob")`, `(40, "ann")`)
	expectHeads(t, "p(sum A) :- pay(N, _, A).", db, "(35)")
	expectHeads(t, "p(sum I * 2 - 1, N) :- pay(N, I, A).", db, `(4, "ann")`, `(4, "bob")`, `(16, "cy")`)
	expectHeads(t, "p(N, sum 3) :- pay(N, I, A).", db, `("ann", 6)`, `("bob", 6)`, `("cy", 12)`)
	expectHeads(t, "p(N, sum A + 1) :- pay(N, I, A).", db, `("ann", 42)`, `("bob", -4)`)
	expectHeads(t, "p(sum A) :- gone(A).", db)
	// Each solution counts, also if several have the same value.
	expectHeads(t, "p(sum I) :- pay(N, I, A), I < 3.", db, "(9)")
	expectHeads(t, "p(A - A, sum I) :- pay(N, I, A).", db, "(0, 4)")
	// There is no row without integers, but one whose sum is 0.
	expectHeads(t, `p(sum A) :- pay("cy", I, A).`, db)
	expectHeads(t, `p(N, sum A) :- pay(N, I, A), I > 2.`, db)
	expectHeads(t, "p(N, sum I - I) :- pay(N, I, A).", db, `("ann", 0)`, `("bob", 0)`, `("cy", 0)`)
}

func TestSumsHaveALimit(t *testing.T) {
	db := database(
		relation("a", "(1, 999999999)", "(2, 1)"),
		relation("b", "(1, 1000000000)", "(2, 1)"),
		relation("c", "(1, -1000000000)", "(2, -1)"),
		relation("d", "(1, 1000000000)", "(2, 1000000000)", "(3, -1000000000)"),
		relation("e", "(1, -1000000000)", "(2, -1000000000)", "(3, 1000000000)"),
	)
	expectHeads(t, "p(sum Y) :- a(X, Y).", db, "(1000000000)")
	expectHeads(t, "p(sum 0 - Y) :- a(X, Y).", db, "(-1000000000)")
	expectHeads(t, "p(sum Y) :- b(X, Y).", db)
	expectHeads(t, "p(X * 0, sum Y) :- b(X, Y).", db)
	expectHeads(t, "p(X, sum Y) :- b(X, Y).", db, "(1, 1000000000)", "(2, 1)")
	expectHeads(t, "p(Z, sum Y) :- b(X, Y), a(Z, W), Y >= W.", db, "(1, 1000000000)")
	expectHeads(t, "p(sum Y) :- c(X, Y).", db)
	expectHeads(t, "p(sum Y) :- c(X, Y), X < 2.", db, "(-1000000000)")
	// Only the whole sum has a limit, not a part of it.
	expectHeads(t, "p(sum Y) :- d(X, Y).", db, "(1000000000)")
	expectHeads(t, "p(sum Y) :- e(X, Y).", db, "(-1000000000)")
	// A value beyond the limit is no value, so it is not added.
	expectHeads(t, "p(sum Y + 1) :- a(X, Y).", db)
	expectHeads(t, "p(sum Y + 1) :- b(X, Y).", db, "(2)")
	full := impl.Rel{Name: "full"}
	for i := range impl.MaxRows {
		full.Rows = append(full.Rows, numbers(int64(i), impl.MaxInt))
	}
	expectHeads(t, "p(sum Y) :- full(X, Y).", database(full))
	expectHeads(t, "p(sum Y * 0 + X) :- full(X, Y).", database(full), "(4498500)")
}

func TestMinAndMax(t *testing.T) {
	db := pays()
	expectHeads(t, "p(min A) :- pay(N, I, A).", db, "(-5)")
	expectHeads(t, "p(max A) :- pay(N, I, A).", db, "(?4)")
	expectHeads(t, "p(N, min A) :- pay(N, I, A).", db, `("ann", 10)`, `("bob", -5)`, `("cy", "a")`)
	expectHeads(t, "p(N, max A) :- pay(N, I, A).", db, `("ann", 30)`, `("bob", "x")`, `("cy", ?4)`)
	expectHeads(t, "p(min A, N) :- pay(N, I, A).", db, `(-5, "bob")`, `(10, "ann")`, `("a", "cy")`)
	expectHeads(t, "p(max A, I) :- pay(N, I, A).", db, `("b", 1)`, `("x", 2)`, "(?3, 4)", "(?4, 3)")
	expectHeads(t, "p(min N) :- pay(N, _, _).", db, `("ann")`)
	expectHeads(t, "p(max N) :- pay(N, _, _).", db, `("cy")`)
	expectHeads(t, `p(min 7, "k") :- pay(N, I, A).`, db, `(7, "k")`)
	expectHeads(t, "p(min A) :- gone(A).", db)
	expectHeads(t, "p(max A) :- gone(A).", db)
	// Values that do not exist are left out.
	expectHeads(t, "p(max A * 2) :- pay(N, I, A).", db, "(60)")
	expectHeads(t, "p(N, min A + 1) :- pay(N, I, A).", db, `("ann", 11)`, `("bob", -4)`)
	expectHeads(t, `p(min A + 1) :- pay("cy", I, A).`, db)
	expectHeads(t, `p(max A + 1) :- pay("cy", I, A).`, db)
	expectHeads(t, "p(A + 0, max I) :- pay(N, I, A).", db, "(-5, 1)", "(10, 2)", "(30, 1)")
}

// Promise 5, for each aggregate: the groups have several arguments.
func TestGroupsOfSeveralArguments(t *testing.T) {
	db := database(relation("r", "(1, 1, 1)", "(1, 1, 2)", "(1, 2, 3)", "(2, 1, 4)", "(2, 1, 5)"))
	expectHeads(t, "p(A, B, count) :- r(A, B, C).", db, "(1, 1, 2)", "(1, 2, 1)", "(2, 1, 2)")
	expectHeads(t, "p(A, sum C, B) :- r(A, B, C).", db, "(1, 3, 1)", "(1, 3, 2)", "(2, 9, 1)")
	expectHeads(t, "p(min C, A, B) :- r(A, B, C).", db, "(1, 1, 1)", "(3, 1, 2)", "(4, 2, 1)")
	expectHeads(t, "p(A, B, A + B, max C) :- r(A, B, C).", db, "(1, 1, 2, 2)", "(1, 2, 3, 3)", "(2, 1, 3, 5)")
	expectHeads(t, "p(1, 2, 3, 4, 5, 6, A, count) :- r(A, _, C).", db, "(1, 2, 3, 4, 5, 6, 1, 3)", "(1, 2, 3, 4, 5, 6, 2, 2)")
	expectHeads(t, "p(A + B, count) :- r(A, B, C).", db, "(2, 2)", "(3, 3)")
}

// sizedRels returns the relations a to d, with these numbers of rows of width 2.
func sizedRels(sizes ...int) []impl.Rel {
	db := []impl.Rel{}
	for i, size := range sizes {
		r := impl.Rel{Name: "abcd"[i : i+1]}
		for j := range size {
			r.Rows = append(r.Rows, numbers(int64(j), 0))
		}
		db = append(db, r)
	}
	return db
}

func TestOrderOfLiteralsOfEqualRank(t *testing.T) {
	db := sizedRels(3, 3, 3, 0)
	expectOrder(t, "p() :- a(X, Y), b(Z, W), c(V, U).", db, 0, 1, 2)
	expectOrder(t, "p() :- c(V, U), b(Z, W), a(X, Y).", db, 0, 1, 2)
	expectOrder(t, "p() :- a(X, Y), a(X, Y), a(X, Y).", db, 0, 1, 2)
	expectOrder(t, "p() :- 1 < 2, 2 < 1, 3 = 3.", db, 0, 1, 2)
	expectOrder(t, "p() :- not a(1, 2), not b(1, _), not d(_, _).", db, 0, 1, 2)
	expectOrder(t, "p() :- d(X, Y), absent(Z, W), d(V, U).", db, 0, 1, 2)
	expectOrder(t, "p() :- X = 1, Y = 2, Y > X, Z = X.", db, 0, 1, 2, 3)
}

func TestOrderOfTestsNotsAndAtoms(t *testing.T) {
	db := sizedRels(0, 3, 300, 0)
	expectOrder(t, "p() :- a(X, Y), not b(1, 2), 1 < 2.", db, 2, 1, 0)
	expectOrder(t, "p() :- not b(1, 2), a(X, Y), 1 < 2.", db, 2, 0, 1)
	expectOrder(t, "p() :- a(X, Y), not b(X, Y), X < Y.", db, 0, 2, 1)
	expectOrder(t, "p() :- not b(X, _), X < 3, c(X, Y), a(Y, X).", db, 3, 1, 0, 2)
	expectOrder(t, "p() :- c(X, Y), Z = X + Y, not b(Z, Y), b(Y, W), Z > W.", db, 3, 0, 1, 4, 2)
	expectOrder(t, "p() :- not b(_, _), c(X, Y).", db, 0, 1)
	// An atom whose arguments are all known still follows a test and a not.
	expectOrder(t, "p() :- b(1, 2), a(3, 4), not c(1, 2), 1 = 1.", db, 3, 2, 0, 1)
}

func TestOrderOfTestsThatBind(t *testing.T) {
	db := sizedRels(2, 3, 0, 0)
	expectOrder(t, "p() :- Z = Y * Y, Y = X + 1, X = 3.", db, 2, 1, 0)
	expectOrder(t, "p() :- Y * Y = Z, X + 1 = Y, 3 = X.", db, 2, 1, 0)
	expectOrder(t, "p() :- a(X, Y), X = 3.", db, 1, 0)
	expectOrder(t, "p() :- a(X, Y), 3 = X.", db, 1, 0)
	expectOrder(t, "p() :- X = Y, b(X, W), a(Y, V).", db, 2, 0, 1)
	expectOrder(t, "p() :- X = Y, X = 1, Y = 1.", db, 1, 0, 2)
	// A side with parts must be known, and so must both sides of other tests.
	expectOrder(t, "p() :- X + 0 = 3, b(X, Y).", db, 1, 0)
	expectOrder(t, "p() :- 3 = X + 0, b(X, Y).", db, 1, 0)
	expectOrder(t, "p() :- X = X, b(X, Y).", db, 1, 0)
	expectOrder(t, "p() :- X = X + 1, b(X, Y).", db, 1, 0)
	expectOrder(t, "p() :- X <= 3, X != 2, 1 < X, b(X, Y).", db, 3, 0, 1, 2)
	// What a test makes known counts for the ranks.
	expectOrder(t, "p() :- a(X, Y), b(Z, W), Z = 1.", db, 2, 1, 0)
	expectOrder(t, "p() :- a(X, Y), b(Z, W), 1 = Z.", db, 2, 1, 0)
}

func TestOrderOfAtomsWithParts(t *testing.T) {
	db := sizedRels(1, 2, 3, 0)
	expectOrder(t, "p() :- a(X + 1, Y), c(X, Z).", db, 1, 0)
	expectOrder(t, "p() :- a(Y, X + 1), b(Y + 1, X), c(X, Z).", db, 2, 0, 1)
	expectOrder(t, "p() :- a(1 + 1, Y), b(X, Y).", db, 0, 1)
	expectOrder(t, "p() :- b(X, X + 1), c(X, _).", db, 1, 0)
	expectOrder(t, "p() :- not a(X + 1, _), c(X, Y).", db, 1, 0)
}

// Each known argument shifts the number of rows right by 2.
func TestOrderOfAtomsOfDifferentSizes(t *testing.T) {
	expectOrder(t, "p() :- a(X, Y), b(Z, W), c(V, U).", sizedRels(3, 1, 2), 1, 2, 0)
	expectOrder(t, "p() :- a(X, Y), b(Z, W).", sizedRels(4, 3), 1, 0)
	// One of two arguments is known.
	expectOrder(t, "p() :- a(X, Y), b(1, W).", sizedRels(1, 4), 0, 1)
	expectOrder(t, "p() :- a(X, Y), b(1, W).", sizedRels(1, 7), 0, 1)
	expectOrder(t, "p() :- a(X, Y), b(1, W).", sizedRels(1, 3), 1, 0)
	expectOrder(t, "p() :- a(X, Y), b(W, 1).", sizedRels(2, 7), 1, 0)
	expectOrder(t, "p() :- a(X, Y), b(W, 1).", sizedRels(2, 8), 0, 1)
	expectOrder(t, `p() :- a(X, Y), b("k", W).`, sizedRels(75, 299), 1, 0)
	// Both arguments are known.
	expectOrder(t, "p() :- a(X, Y), b(1, 2).", sizedRels(1, 15), 1, 0)
	expectOrder(t, "p() :- a(X, Y), b(1, 2).", sizedRels(1, 16), 0, 1)
	expectOrder(t, "p() :- a(X, 1), b(1, 1 + 1).", sizedRels(4, 15), 1, 0)
	expectOrder(t, "p() :- a(X, 1), b(1, 1 + 1).", sizedRels(4, 16), 0, 1)
	// An argument `_` is not known.
	expectOrder(t, "p() :- a(X, Y), b(1, _).", sizedRels(1, 15), 0, 1)
	expectOrder(t, "p() :- a(X, Y), b(_, _).", sizedRels(1, 3), 0, 1)
	// A variable counts once the literals so far have made it known.
	expectOrder(t, "p() :- a(X, Y), b(Y, Z), c(Z, W).", sizedRels(3, 40, 12), 0, 1, 2)
	expectOrder(t, "p() :- a(X, Y), b(Y, Z), c(Z, W).", sizedRels(3, 60, 12), 0, 2, 1)
	expectOrder(t, "p() :- a(X, Y), b(X, Y), c(Z, W).", sizedRels(2, 47, 3), 0, 1, 2)
	expectOrder(t, "p() :- a(X, Y), b(X, Y), c(Z, W).", sizedRels(2, 64, 3), 0, 2, 1)
	// With few rows the shift leaves none, so that only the 2 remains.
	expectOrder(t, "p() :- absent(X, Y), a(1, Z).", sizedRels(3), 0, 1)
	expectOrder(t, "p() :- a(1, Z), absent(X, Y).", sizedRels(3), 0, 1)
	expectOrder(t, "p() :- a(X, 1), b(1, 1).", sizedRels(3, 1), 0, 1)
	expectOrder(t, "p() :- a(X, X), b(Y, X).", sizedRels(3, 2), 1, 0)
	expectOrder(t, "p() :- a(Z, W), b(X, X).", sizedRels(3, 3), 0, 1)
	full := database(impl.Rel{Name: "a", Rows: countTo(impl.MaxRows)}, impl.Rel{Name: "b", Rows: countTo(750)}, impl.Rel{Name: "c", Rows: countTo(749)})
	expectOrder(t, "p() :- b(X), a(1), c(Y).", full, 2, 0, 1)
	wide := impl.Rel{Name: "w", Rows: [][]impl.Value{upTo(8)}}
	expectOrder(t, "p() :- a(X), w(1, 2, 3, 4, 5, 6, 7, 8), w(_, _, _, _, _, _, _, _).", database(impl.Rel{Name: "a", Rows: countTo(1)}, wide), 1, 0, 2)
}

func TestOrderDoesNotNeedSolutions(t *testing.T) {
	db := sizedRels(100, 100, 1, 0)
	expectOrder(t, "p() :- a(X, Y), b(Z, W).", db, 0, 1)
	expectOrder(t, "p() :- b(Z, W), a(X, Y), c(V, U).", db, 2, 0, 1)
	expectOrder(t, "p() :- d(X, Y), X > 3.", db, 0, 1)
	if got := impl.Solve(onlyRule(t, "p() :- a(X, Y), b(Z, W)."), db); got != nil {
		t.Errorf("10000 solutions: %s", shownRows(got))
	}
}

func TestMostBoundVariables(t *testing.T) {
	db := database(
		impl.Rel{Name: "w", Rows: [][]impl.Value{upTo(8)}},
		relation("x", "(8)"),
	)
	const eight = "w(A, B, C, D, E, F, G, H)"
	expectSolutions(t, "p() :- "+eight+".", db, "(0, 1, 2, 3, 4, 5, 6, 7)")
	expectHeads(t, "p(H, G, F, E, D, C, B, A) :- "+eight+".", db, "(7, 6, 5, 4, 3, 2, 1, 0)")
	expectSolutions(t, "p() :- w(A, B, C, D, E, F, G, _), x(I), not x(A).", db, "(0, 1, 2, 3, 4, 5, 6, 8)")
	expectSolutions(t, "p() :- "+eight+", x(H + 1), x(_), A < H.", db, "(0, 1, 2, 3, 4, 5, 6, 7)")
	for _, src := range []string{
		"p() :- " + eight + ", x(I).",
		"p(A) :- " + eight + ", I = 1.",
		"p(count) :- " + eight + ", I = A + B.",
		"p() :- " + eight + ", x(I), x(J), x(K).",
		"p() :- absent(A, B, C, D), absent(E, F, G, H), gone(I).",
	} {
		expectNothing(t, src, onlyRule(t, src), db)
		expectNothing(t, src, onlyRule(t, src), nil)
	}
}

func TestMostSolutions(t *testing.T) {
	const most = impl.MaxRows
	db := database(
		impl.Rel{Name: "a", Rows: rowsIn(grid(1, 50))},
		impl.Rel{Name: "b", Rows: rowsIn(grid(1, most/50))},
		impl.Rel{Name: "c", Rows: rowsIn(slices.Concat(grid(1, 50), grid(2, 1)))},
		impl.Rel{Name: "d", Rows: rowsIn(slices.Concat(grid(1, most/50), grid(2, 1)))},
		impl.Rel{Name: "full", Rows: countTo(most)},
		impl.Rel{Name: "two", Rows: countTo(2)},
	)
	want := [][]impl.Value{}
	for i := range 50 {
		for j := range most / 50 {
			want = append(want, numbers(1, int64(i), int64(j)))
		}
	}
	expectTable(t, "MaxRows solutions", impl.Solve(onlyRule(t, "p() :- a(X, Y), b(X, Z)."), db), want)
	expectTable(t, "MaxRows solutions", impl.Heads(onlyRule(t, "p(X, Y, Z) :- a(X, Y), b(X, Z)."), db), want)
	expectTable(t, "MaxRows rows", impl.Solve(onlyRule(t, "p() :- full(X)."), db), countTo(most))
	expectHeads(t, "p(X) :- a(X, Y), b(X, Z).", db, "(1)")
	expectHeads(t, "p(count) :- a(X, Y), b(X, Z).", db, "(3000)")
	expectHeads(t, "p(max X) :- full(X).", db, "(2999)")
	// Rows that differ only at `_` have one solution.
	expectTable(t, "rows at _", impl.Solve(onlyRule(t, "p() :- full(X), two(_)."), db), countTo(most))
	expectTable(t, "rows at _", impl.Solve(onlyRule(t, "p() :- full(X), a(1, _), b(_, _)."), db), countTo(most))
	expectSolutions(t, "p() :- full(_), a(X, _), d(X, _), d(_, _).", db, "(1)")
	expectHeads(t, "p(count) :- full(X), two(_).", db, "(3000)")
	// One solution more is too many, whatever the head is.
	for _, src := range []string{
		"p(X, Y, Z) :- c(X, Y), d(X, Z).", "p(1) :- c(X, Y), d(X, Z).", "p() :- d(X, Z), c(X, Y).",
		"p(count) :- c(X, Y), d(X, Z).", "p(X, sum Y) :- c(X, Y), d(X, Z).", "p(min X) :- c(X, Y), d(X, Z).",
		"p(1000000000 + 1) :- c(X, Y), d(X, Z).",
		"p(X) :- full(X), full(Y), full(Z), full(W).", "p(X) :- full(X), two(Y).",
	} {
		r := onlyRule(t, src)
		if got := impl.Solve(r, db); got != nil {
			t.Errorf("Solve of %s: %s", src, shownRows(got))
		}
		if got := impl.Heads(r, db); got != nil {
			t.Errorf("Heads of %s: %s", src, shownRows(got))
		}
		if got := impl.Order(r, db); len(got) != len(r.Body) {
			t.Errorf("Order of %s: %v", src, got)
		}
	}
	// Only solutions count, not the ways on which a later literal fails.
	expectSolutions(t, "p() :- full(X), two(Y), X + Y = 0.", db, "(0, 0)")
	expectSolutions(t, "p() :- c(X, Y), d(X, Z), X > 1.", db, "(2, 0, 0)")
}

func TestRulesThatDependOnThemselves(t *testing.T) {
	db := database(relation("n", "(1)", "(2)"), relation("p", "(2)"))
	for src, rows := range map[string][]string{
		"p(X) :- n(X), not p(X).":  {"(1)"},
		"p(count) :- p(X).":        {"(1)"},
		"p(sum X) :- p(X), n(Y).":  {"(4)"},
		"p(X + 1) :- p(X), n(X).":  {"(3)"},
		"p(min X) :- n(X), p(X).":  {"(2)"},
		"p(1) :- not p(1), p(_).":  {"(1)"},
		"q(X) :- n(X), not q(X).":  {"(1)", "(2)"},
		"q(count) :- n(X), q(X).":  {},
		"p(X) :- n(X), not p(_).":  {},
		"p(X) :- n(X), not n(X).":  {},
		"p(max X) :- p(X), p(Y).":  {"(2)"},
		"p(3) :- p(X), not p(X).":  {},
		"p(X) :- not p(X), X = 5.": {"(5)"},
	} {
		expectHeads(t, src, db, rows...)
		if got := impl.Order(onlyRule(t, src), db); len(got) == 0 {
			t.Errorf("%s has no order", src)
		}
	}
}

func TestRulesWithFaults(t *testing.T) {
	db := graph()
	codes := map[int64]int{}
	for _, src := range []string{
		"p(1) :- p(1, 2).", "p(X) :- node(X), node(X, X).", "p(X) :- node(X), not node(X, X).", "p() :- absent(X), absent().",
		"p(X) :- node(Y).", "p(X) :- gone(Y).", "p(X).", "p(_) :- node(X).", "p(sum _) :- node(X).", "p() :- X < 3.", "p() :- not node(X).", "p() :- node(X + 1).", "p() :- _ = 3.", "p() :- node(X), edge(X, _ + 1).", "p() :- X = Y.", "p() :- X = X.", "p() :- X = _.",
		`p(sum "a") :- node(X).`, `p(sum "a").`, `node(1, sum "a") :- node(X, _), edge(X, Y).`,
	} {
		r := onlyRule(t, src)
		codes[impl.Fault(rules(r)).Code]++
		expectNothing(t, src, r, db)
		expectNothing(t, src, r, nil)
	}
	if codes[impl.CheckWidth] != 4 || codes[impl.CheckSafe] != 13 || codes[impl.CheckType] != 3 {
		t.Errorf("codes of Fault: %v", codes)
	}
	x := variableNode("X")
	n := atomLit(atomOf("node", x))
	for i, r := range []impl.Rule{
		{}, {Head: atomOf("p", x), Body: []impl.Lit{n}}, {Head: atomOf("p", x), Aggs: []string{"avg"}, Body: []impl.Lit{n}},
		{Head: atomOf("p", x), Aggs: []string{"count"}, Body: []impl.Lit{n}}, ruleOf(atomOf("not", x), n), ruleOf(atomOf("p", nil), n),
		{Head: atomOf("p", x, x), Aggs: []string{"min", "max"}, Body: []impl.Lit{n}},
		ruleOf(atomOf("p", x), n, impl.Lit{}), ruleOf(atomOf("p", x), n, testLit(x, "==", x)), ruleOf(atomOf("p", x), n, testLit(x, "<", nil)),
		ruleOf(atomOf("p", x), n, atomLit(atomOf("node", constantNode(null(1))))), ruleOf(atomOf("p", constantNode(null(1)))),
		ruleOf(atomOf("p", x), slices.Repeat([]impl.Lit{n}, impl.MaxBody+1)...),
		ruleOf(atomOf("p", slices.Repeat([][]impl.Node{x}, impl.MaxWide+1)...), n),
	} {
		if impl.Fault(rules(r)).Code != impl.CheckForm {
			t.Errorf("%d is valid", i)
		}
		expectNothing(t, fmt.Sprint("rule ", i), r, db)
	}
	expectTable(t, "MaxBody literals", impl.Solve(ruleOf(atomOf("p", x), slices.Repeat([]impl.Lit{n}, impl.MaxBody)...), db), impl.RowsOf(db, "node"))
}

func TestRowsOfAnotherWidthThanAnAtom(t *testing.T) {
	db := graph()
	for _, src := range []string{
		"p() :- node(X, Y).", "p() :- node().", "p() :- edge(X).", "p() :- flag(X).", "p() :- edge(X, Y, Z).",
		"p(X) :- node(X), not edge(X).", "p() :- not flag(1).", "p() :- not edge(_, _, _).",
		"p() :- gone(X), edge(X).", "p() :- 1 > 2, edge(X).", "p(count) :- node(X), edge(_).",
		"edge(X) :- edge(X).", "p(1) :- label(_), node(1).",
	} {
		expectNothing(t, src, onlyRule(t, src), db)
	}
	// A relation without rows has no width.
	for _, src := range []string{"p() :- gone(X, Y), edge(X, Y).", "p() :- absent(X), node(X).", "p() :- gone()."} {
		expectSolutions(t, src, db)
	}
	expectSolutions(t, "p() :- not gone(1, 2, 3), not gone(4, _, _).", db, "()")
	expectSolutions(t, "p(X, Y, Z) :- X = 1, Y = 2, Z = 3, not absent(X, Y, Z, X, Y, Z, X, Y).", db, "(1, 2, 3)")
}

// The following functions repeat the definitions of the chapter by
// enumeration, to be compared with the program's results.

type assignment map[string]impl.Value

// valueIn returns the value of the expression with which es begins, and the
// nodes after it.
func valueIn(es []impl.Node, a assignment) (v impl.Value, ok bool, rest []impl.Node) {
	first, rest := es[0], es[1:]
	switch first.Kind {
	case impl.NodeConst:
		return first.Value, true, rest
	case impl.NodeVar:
		v, ok = a[first.Name]
		return v, ok, rest
	case impl.NodeAny:
		return impl.Value{}, false, rest
	}
	left, leftOk, rest := valueIn(rest, a)
	right, rightOk, rest := valueIn(rest, a)
	if !leftOk || !rightOk || left.Kind != impl.KindInt || right.Kind != impl.KindInt {
		return impl.Value{}, false, rest
	}
	n := map[int64]int64{impl.NodeAdd: left.N + right.N, impl.NodeSub: left.N - right.N, impl.NodeMul: left.N * right.N}[first.Kind]
	if n < -impl.MaxInt || n > impl.MaxInt {
		return impl.Value{}, false, rest
	}
	return number(n), true, rest
}

func expectedValue(es []impl.Node, a assignment) (impl.Value, bool) {
	v, ok, _ := valueIn(es, a)
	return v, ok
}

func tableIn(db []impl.Rel, name string) [][]impl.Value {
	for _, r := range db {
		if r.Name == name {
			return r.Rows
		}
	}
	return nil
}

func hasMatch(at impl.Atom, db []impl.Rel, a assignment) bool {
	return slices.ContainsFunc(tableIn(db, at.Name), func(row []impl.Value) bool {
		for i, es := range at.Args {
			v, ok := expectedValue(es, a)
			if es[0].Kind != impl.NodeAny && (!ok || v != row[i]) {
				return false
			}
		}
		return true
	})
}

func literalHolds(l impl.Lit, db []impl.Rel, a assignment) bool {
	if l.Kind != impl.LitTest {
		return hasMatch(l.Atom, db, a) == (l.Kind == impl.LitAtom)
	}
	left, leftOk := expectedValue(l.Left, a)
	right, rightOk := expectedValue(l.Right, a)
	c := impl.CompareValues(left, right)
	return leftOk && rightOk && slices.Contains(map[string][]int64{
		"=": {0}, "!=": {-1, 1}, "<": {-1}, "<=": {-1, 0}, ">": {1}, ">=": {0, 1},
	}[l.Op], c)
}

// withTests adds the values that tests with `=` give to variables.
func withTests(body []impl.Lit, a assignment) {
	for before := -1; before < len(a); {
		before = len(a)
		for _, l := range body {
			if l.Op != "=" {
				continue
			}
			for _, sides := range [][2][]impl.Node{{l.Left, l.Right}, {l.Right, l.Left}} {
				v, ok := expectedValue(sides[1], a)
				if _, has := a[sides[0][0].Name]; ok && !has && sides[0][0].Kind == impl.NodeVar {
					a[sides[0][0].Name] = v
				}
			}
		}
	}
}

// expectedSolutions tries every choice of rows for the atoms of the body.
func expectedSolutions(r impl.Rule, db []impl.Rel) [][]impl.Value {
	vars, found := impl.VarsOf(r), map[string][]impl.Value{}
	finish := func(a assignment) {
		withTests(r.Body, a)
		row := []impl.Value{}
		for _, name := range vars {
			if v, ok := a[name]; ok {
				row = append(row, v)
			}
		}
		if len(row) == len(vars) && !slices.ContainsFunc(r.Body, func(l impl.Lit) bool { return !literalHolds(l, db, a) }) {
			found[impl.ShowRow(row)] = row
		}
	}
	var choose func(body []impl.Lit, a assignment)
	choose = func(body []impl.Lit, a assignment) {
		if len(body) == 0 {
			finish(a)
			return
		}
		if body[0].Kind != impl.LitAtom {
			choose(body[1:], a)
			return
		}
	rows:
		for _, row := range tableIn(db, body[0].Atom.Name) {
			next := assignment{}
			for name, v := range a {
				next[name] = v
			}
			for i, es := range body[0].Atom.Args {
				if es[0].Kind != impl.NodeVar {
					continue
				}
				if v, ok := next[es[0].Name]; ok && v != row[i] {
					continue rows
				}
				next[es[0].Name] = row[i]
			}
			choose(body[1:], next)
		}
	}
	choose(r.Body, assignment{})
	return sortedRows(found)
}

func sortedRows(rows map[string][]impl.Value) [][]impl.Value {
	out := [][]impl.Value{}
	for _, row := range rows {
		out = append(out, row)
	}
	slices.SortFunc(out, func(a, b []impl.Value) int { return int(impl.CompareRows(a, b)) })
	return out
}

// expectedHeads collects the values of the aggregate's argument group by group.
func expectedHeads(r impl.Rule, solutions [][]impl.Value) [][]impl.Value {
	vars, at := impl.VarsOf(r), slices.IndexFunc(r.Aggs, func(agg string) bool { return agg != "" })
	rows, terms := map[string][]impl.Value{}, map[string][]impl.Value{}
	for _, solution := range solutions {
		a := assignment{}
		for i, name := range vars {
			a[name] = solution[i]
		}
		row, complete := []impl.Value{}, true
		for i, es := range r.Head.Args {
			v, ok := expectedValue(es, a)
			if i == at {
				v, ok = number(0), true
			}
			row, complete = append(row, v), complete && ok
		}
		if !complete {
			continue
		}
		shown := impl.ShowRow(row)
		rows[shown] = row
		if at < 0 {
			continue
		}
		term, ok := expectedValue(r.Head.Args[at], a)
		if r.Aggs[at] == "count" {
			term, ok = number(1), true
		}
		if ok && (r.Aggs[at] != "sum" || term.Kind == impl.KindInt) {
			terms[shown] = append(terms[shown], term)
		}
	}
	if at < 0 {
		return sortedRows(rows)
	}
	out := map[string][]impl.Value{}
	for shown, row := range rows {
		if v, ok := expectedTotal(r.Aggs[at], terms[shown]); ok {
			row[at] = v
			out[impl.ShowRow(row)] = row
		}
	}
	return sortedRows(out)
}

func expectedTotal(agg string, terms []impl.Value) (impl.Value, bool) {
	if len(terms) == 0 {
		return impl.Value{}, false
	}
	slices.SortFunc(terms, func(a, b impl.Value) int { return int(impl.CompareValues(a, b)) })
	switch agg {
	case "min":
		return terms[0], true
	case "max":
		return terms[len(terms)-1], true
	}
	sum := int64(0)
	for _, v := range terms {
		sum += v.N
	}
	return number(sum), -impl.MaxInt <= sum && sum <= impl.MaxInt
}

// expectedOrder follows the definition of Order word by word.
func expectedOrder(r impl.Rule, db []impl.Rel) []int64 {
	known, order := map[string]bool{}, []int64{}
	allKnown := func(es []impl.Node) bool {
		return !slices.ContainsFunc(es, func(n impl.Node) bool { return n.Kind == impl.NodeVar && !known[n.Name] })
	}
	single := func(es []impl.Node) bool { return es[0].Kind == impl.NodeVar }
	ready := func(l impl.Lit) bool {
		if l.Kind == impl.LitTest {
			return allKnown(l.Left) && allKnown(l.Right) ||
				l.Op == "=" && (allKnown(l.Left) && single(l.Right) || allKnown(l.Right) && single(l.Left))
		}
		return !slices.ContainsFunc(l.Atom.Args, func(es []impl.Node) bool {
			return !allKnown(es) && (l.Kind == impl.LitNot || len(es) > 1)
		})
	}
	rank := func(l impl.Lit) int64 {
		if l.Kind != impl.LitAtom {
			return map[int64]int64{impl.LitTest: 0, impl.LitNot: 1}[l.Kind]
		}
		rows := int64(len(tableIn(db, l.Atom.Name)))
		for _, es := range l.Atom.Args {
			if es[0].Kind != impl.NodeAny && allKnown(es) {
				rows >>= 2
			}
		}
		return 2 + rows
	}
	for len(order) < len(r.Body) {
		chosen := int64(-1)
		for i := len(r.Body) - 1; i >= 0; i-- {
			if !slices.Contains(order, int64(i)) && ready(r.Body[i]) && (chosen < 0 || rank(r.Body[i]) <= rank(r.Body[chosen])) {
				chosen = int64(i)
			}
		}
		order = append(order, chosen)
		l := r.Body[chosen]
		for _, es := range l.Atom.Args {
			if l.Kind == impl.LitAtom && single(es) {
				known[es[0].Name] = true
			}
		}
		for _, es := range [][]impl.Node{l.Left, l.Right} {
			if l.Op == "=" && single(es) {
				known[es[0].Name] = true
			}
		}
	}
	return order
}

// An asker makes random rules with random databases for them.
type asker struct {
	planner
}

func newAsker(seed int64) asker {
	return asker{planner{rand.New(rand.NewSource(seed)), map[string]int{"v": 1}}}
}

// rows returns a table of few rows, in which values are often repeated.
func (g asker) rows(width int, most int) [][]impl.Value {
	values := []impl.Value{number(0), number(1), number(2), number(3), number(-1), text("a"), null(1), number(impl.MaxInt)}
	rows := [][]impl.Value{}
	for range g.source.Intn(most + 1) {
		row := []impl.Value{}
		for range width {
			row = append(row, values[min(g.source.Intn(len(values)), g.source.Intn(len(values)))])
		}
		rows = append(rows, row)
	}
	return impl.MakeTable(rows)
}

// fits reports whether the atoms of the body have the widths of the rows.
func (g asker) fits(r impl.Rule) bool {
	return !slices.ContainsFunc(atomsIn(r)[1:], func(u usedAtom) bool {
		return len(u.atom.Args) != g.widths[u.atom.Name]
	})
}

// evaluable returns a rule that has an order of evaluation, and a database
// with rows of the right widths for it.
func (g asker) evaluable() (impl.Rule, []impl.Rel) {
	for {
		for _, name := range plannedNames {
			g.widths[name] = g.source.Intn(3)
		}
		r := g.rule()
		code := impl.Fault(rules(r)).Code
		if (code == impl.CheckOk || code == impl.CheckStrata) && g.fits(r) {
			return r, g.database()
		}
	}
}

// database leaves out some relations.
func (g asker) database() []impl.Rel {
	db := []impl.Rel{}
	for _, name := range append(slices.Sorted(slices.Values(plannedNames)), "v") {
		if !g.chance(10) {
			db = append(db, impl.Rel{Name: name, Rows: g.rows(g.widths[name], 4)})
		}
	}
	return db
}

func shownRule(r impl.Rule, db []impl.Rel) string {
	texts := []string{impl.ShowProgram(rules(r))}
	for _, rel := range db {
		texts = append(texts, rel.Name+": "+shownRows(rel.Rows))
	}
	return strings.Join(texts, "\n")
}

func TestRandomRulesAreEvaluatedAsDefined(t *testing.T) {
	g := newAsker(51)
	withRows, aggregates := 0, 0
	for range 40000 {
		r, db := g.evaluable()
		want := expectedSolutions(r, db)
		if got := impl.Solve(r, db); !sameRows(got, want) {
			t.Fatalf("%s\nSolve: %s, not %s", shownRule(r, db), shownRows(got), shownRows(want))
		}
		heads := expectedHeads(r, want)
		if got := impl.Heads(r, db); !sameRows(got, heads) || !impl.TableOk(got) {
			t.Fatalf("%s\nHeads: %s, not %s", shownRule(r, db), shownRows(got), shownRows(heads))
		}
		order := expectedOrder(r, db)
		if got := impl.Order(r, db); !slices.Equal(got, order) {
			t.Fatalf("%s\nOrder: %v, not %v", shownRule(r, db), got, order)
		}
		if len(heads) > 1 && len(r.Body) > 1 {
			withRows++
			if strings.Join(r.Aggs, "") != "" {
				aggregates++
			}
		}
	}
	if withRows < 2000 || aggregates < 300 {
		t.Errorf("only %d rules with rows, %d with an aggregate", withRows, aggregates)
	}
}

// permutations visits every order of list, if it is short, and some otherwise.
func (g asker) permutations(list []impl.Lit, visit func([]impl.Lit)) {
	if len(list) > 4 {
		for range 10 {
			shuffled := slices.Clone(list)
			g.source.Shuffle(len(shuffled), func(i, j int) { shuffled[i], shuffled[j] = shuffled[j], shuffled[i] })
			visit(shuffled)
		}
		return
	}
	var extend func(start, rest []impl.Lit)
	extend = func(start, rest []impl.Lit) {
		if len(rest) == 0 {
			visit(start)
		}
		for i := range rest {
			extend(append(slices.Clone(start), rest[i]), slices.Delete(slices.Clone(rest), i, i+1))
		}
	}
	extend(nil, list)
}

// Promise 5: the order of the literals makes no difference.
func TestEveryOrderOfTheLiteralsDerivesTheSameRows(t *testing.T) {
	g := newAsker(52)
	orders := 0
	for range 2000 {
		r, db := g.evaluable()
		solutions, heads := impl.Solve(r, db), impl.Heads(r, db)
		g.permutations(r.Body, func(body []impl.Lit) {
			other := impl.Rule{Head: r.Head, Aggs: r.Aggs, Body: body}
			if got := impl.Solve(other, db); !sameRows(got, solutions) {
				t.Fatalf("%s\nSolve: %s, but in another order %s", shownRule(other, db), shownRows(got), shownRows(solutions))
			}
			if got := impl.Heads(other, db); !sameRows(got, heads) {
				t.Fatalf("%s\nHeads: %s, but in another order %s", shownRule(other, db), shownRows(got), shownRows(heads))
			}
			if !slices.Equal(impl.Order(r, db), impl.Order(other, db)) {
				orders++
			}
		})
	}
	if orders < 2000 {
		t.Errorf("only %d different orders", orders)
	}
}

// Promise 5, written out: the literals in every order.
func TestOrdersOfARule(t *testing.T) {
	db := graph()
	for src, rows := range map[string][]string{
		"p(X, Z) :- edge(X, Y), edge(Y, Z), not node(Z), Z > X.":                 {"(1, 3)", "(1, 4)", "(2, 4)"},
		`p(X, count) :- edge(X, Y), label(Y, L), L != "b", Z = Y - X.`:           {"(2, 2)", "(3, 1)", "(4, 1)"},
		"p(A, sum S) :- label(X, A), edge(X, Y), S = X * Y, not edge(Y, S + 2).": {`("a", 3)`, `("b", 14)`, "(?1, 16)"},
		"p(X) :- node(X), mixed(M), edge(X, M + X), not gone(M), flag().":        {"(2)"},
	} {
		r := onlyRule(t, src)
		newAsker(0).permutations(r.Body, func(body []impl.Lit) {
			other := impl.Rule{Head: r.Head, Aggs: r.Aggs, Body: body}
			expectTable(t, impl.ShowProgram(rules(other)), impl.Heads(other, db), relation("", rows...).Rows)
		})
	}
}

// The second half of the chapter's property.
func TestMoreRowsRemoveNoSolution(t *testing.T) {
	g := newAsker(53)
	kept := 0
	for range 5000 {
		r, db := g.evaluable()
		refused := map[string]bool{}
		for _, l := range r.Body {
			if l.Kind == impl.LitNot {
				refused[l.Atom.Name] = true
			}
		}
		more := slices.Clone(db)
		for i, rel := range more {
			if !refused[rel.Name] {
				more[i].Rows = impl.MakeTable(slices.Concat(rel.Rows, g.rows(g.widths[rel.Name], 3)))
			}
		}
		before, after := impl.Solve(r, db), impl.Solve(r, more)
		if after == nil && len(before) > 0 {
			t.Fatalf("%s\nno solutions with more rows", shownRule(r, more))
		}
		for _, row := range before {
			kept++
			if !impl.HasRow(after, row) {
				t.Fatalf("%s\n%s is missing with more rows", shownRule(r, more), impl.ShowRow(row))
			}
		}
	}
	if kept < 5000 {
		t.Errorf("only %d solutions", kept)
	}
}

// Promise 19: no argument makes a function panic.
func TestEvaluationReturnsForEveryArgument(t *testing.T) {
	dbs := [][]impl.Rel{}
	for _, list := range []map[string][]impl.Rel{validDatabases(), invalidDatabases()} {
		for _, name := range slices.Sorted(maps.Keys(list)) {
			dbs = append(dbs, list[name])
		}
	}
	for i, p := range wildPrograms(10000) {
		db := dbs[i%len(dbs)]
		for _, r := range p.Rules {
			code := impl.Fault(rules(r)).Code
			solutions, heads, order := impl.Solve(r, db), impl.Heads(r, db), impl.Order(r, db)
			if (code != impl.CheckOk && code != impl.CheckStrata || !impl.DbOk(db)) && (solutions != nil || heads != nil || order != nil) {
				t.Fatalf("%v over %v: %v %v %v", r, db, solutions, heads, order)
			}
			for _, es := range append(r.Head.Args, nil) {
				values := comparedValues[:i%len(comparedValues)]
				if v, ok := impl.Reckon(es, []string{"X", "p", "_"}, values); !ok && v != (impl.Value{}) {
					t.Fatalf("Reckon(%v) = %v, %v", es, v, ok)
				}
			}
			impl.RowsOf(db, r.Head.Name)
		}
	}
	for i, p := range plannedPrograms(2000) {
		for _, r := range p.Rules {
			impl.Solve(r, dbs[i%len(dbs)])
			impl.Heads(r, dbs[i%len(dbs)])
			impl.Order(r, dbs[i%len(dbs)])
		}
	}
}

// spareDb returns db with texts of its own and in slices whose unused capacity
// holds marks.
func spareDb(db []impl.Rel) []impl.Rel {
	out := []impl.Rel{}
	for _, r := range db {
		out = append(out, impl.Rel{Name: strings.Clone(r.Name), Rows: spareRows(r.Rows)})
	}
	return append(out, impl.Rel{Name: "unused", Rows: [][]impl.Value{numbers(-72)}})[:len(db)]
}

// Promise 19: arguments stay as they are, and results are new memory.
func TestEvaluationLeavesItsArgumentsAlone(t *testing.T) {
	g := newAsker(54)
	for i := range 3000 {
		r, db := g.evaluable()
		if i%4 == 0 {
			r = onlyRule(t, []string{`v(X, "some text", Y) :- label(X, Y).`, "p(X, max Y) :- label(X, Y).", `p(Y) :- Y = "a text".`}[i/4%3])
			db = database(relation("label", `(1, "a long text")`, `(1, "another text")`, `(2, "b b b")`))
		}
		r, db = spacious(rules(r)).Rules[0], spareDb(db)
		names, values := []string{"X", "Y", "Z", "W1", "unused"}[:4], roomy(rowOf(text(strings.Clone("a text")), number(2), number(3), null(1)))
		arguments := []any{r, db, names, values}
		before := contents(arguments...)
		results := []any{impl.DbOk(db), impl.Solve(r, db), impl.Heads(r, db), impl.Order(r, db)}
		for _, rel := range db {
			results = append(results, impl.RowsOf(db, rel.Name))
		}
		for _, es := range append(slices.Clone(r.Head.Args), variableNode("X"), constantNode(text("a constant"))) {
			v, _ := impl.Reckon(es, names, values)
			results = append(results, []impl.Value{v})
			expectOwnMemory(t, []impl.Value{v}, es)
		}
		for _, result := range results {
			for _, x := range arguments {
				expectOwnMemory(t, result, x)
			}
		}
		if after := contents(arguments...); before != after {
			t.Fatalf("%s became %s", before, after)
		}
		if again := impl.Heads(r, db); !reflect.DeepEqual(again, results[2]) {
			t.Fatalf("%v, then %v", results[2], again)
		}
	}
}
