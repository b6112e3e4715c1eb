package tests

import (
	"fmt"
	"maps"
	"reflect"
	"slices"
	"strings"
	"testing"

	"loop.example/g00030/impl"
)

// shownDb writes relations as `a: (1) (2); b:`.
func shownDb(db []impl.Rel) string {
	texts := []string{}
	for _, r := range db {
		text := r.Name + ":"
		for _, row := range r.Rows {
			text += " " + impl.ShowRow(row)
		}
		texts = append(texts, text)
	}
	return strings.Join(texts, "; ")
}

func expectModel(t *testing.T, src string, db []impl.Rel, rounds int64, want string) {
	t.Helper()
	m := impl.Model(programOf(t, src), db)
	if m.Code != impl.ModelOk || m.Rounds != rounds || shownDb(m.Db) != want || !impl.DbOk(m.Db) {
		t.Errorf("Model of %s has the code %d and %d rounds: %s\nnot %d rounds: %s", src, m.Code, m.Rounds, shownDb(m.Db), rounds, want)
	}
}

// expectRelation checks one relation of a model.
func expectRelation(t *testing.T, src string, db []impl.Rel, name string, rows ...string) {
	t.Helper()
	m := impl.Model(programOf(t, src), db)
	if m.Code != impl.ModelOk {
		t.Errorf("Model of %s has the code %d", src, m.Code)
	}
	expectTable(t, name+" in the model of "+src, impl.RowsOf(m.Db, name), relation("", rows...).Rows)
}

// expectCode checks the code of a model that does not exist.
func expectCode(t *testing.T, name string, p impl.Program, db []impl.Rel, code int64) {
	t.Helper()
	if m := impl.Model(p, db); m.Code != code || m.Db != nil || m.Rounds != 0 {
		t.Errorf("%s: Model = %d, %d rounds, %s", name, m.Code, m.Rounds, shownDb(m.Db))
	}
	if news := impl.News(p, db); news != nil {
		t.Errorf("%s: News = %v", name, news)
	}
}

func expectNoArguments(t *testing.T, name string, p impl.Program, db []impl.Rel) {
	t.Helper()
	expectCode(t, name, p, db, impl.ModelArgs)
	if impl.Holds(p, db) {
		t.Errorf("%s holds", name)
	}
}

// expectRounds checks what each round adds. A text is a round.
func expectRounds(t *testing.T, src string, db []impl.Rel, want ...string) {
	t.Helper()
	p := programOf(t, src)
	news, got := impl.News(p, db), []string{}
	for _, added := range news {
		got = append(got, shownDb(added))
	}
	if !slices.Equal(got, want) {
		t.Errorf("News of %s:\n%s\nnot\n%s", src, strings.Join(got, "\n"), strings.Join(want, "\n"))
	}
	if m := impl.Model(p, db); m.Rounds != int64(len(want)) {
		t.Errorf("%s has %d rounds", src, m.Rounds)
	}
}

func expectHolds(t *testing.T, src string, db []impl.Rel, want bool) {
	t.Helper()
	if got := impl.Holds(programOf(t, src), db); got != want {
		t.Errorf("Holds of %s over %s = %v", src, shownDb(db), got)
	}
}

func chain() []impl.Rel {
	return database(relation("edge", "(1, 2)", "(2, 3)", "(3, 4)"))
}

const pathRules = "path(X, Y) :- edge(X, Y). path(X, Z) :- path(X, Y), edge(Y, Z). "

func TestModelOfTheEmptyProgram(t *testing.T) {
	expectModel(t, "", nil, 0, "")
	expectModel(t, "", chain(), 0, "edge: (1, 2) (2, 3) (3, 4)")
	expectModel(t, "", database(relation("a"), relation("b", "()")), 0, "a:; b: ()")
	expectRounds(t, "", chain())
	expectHolds(t, "", nil, true)
	expectHolds(t, "", chain(), true)
}

func TestModelOfFacts(t *testing.T) {
	expectModel(t, "p(2). p(1). p(2).", nil, 2, "p: (1) (2)")
	expectModel(t, `p(1 + 2 * 3, "a"). q().`, nil, 2, `p: (7, "a"); q: ()`)
	expectModel(t, "p(1000000000 + 1). p(0).", nil, 2, "p: (0)")
	expectModel(t, "p(count). q(sum 4). r(max 2 * 3).", nil, 2, "p: (1); q: (4); r: (6)")
	expectModel(t, "edge(4, 5). edge(1, 2).", chain(), 2, "edge: (1, 2) (2, 3) (3, 4) (4, 5)")
	expectModel(t, "p(1).", database(relation("p", "(1)")), 1, "p: (1)")
}

func TestModelOfJoins(t *testing.T) {
	expectModel(t, "two(X, Z) :- edge(X, Y), edge(Y, Z).", chain(), 2, "edge: (1, 2) (2, 3) (3, 4); two: (1, 3) (2, 4)")
	expectModel(t, "s(X + Y) :- edge(X, Y), X < 3.", chain(), 2, "edge: (1, 2) (2, 3) (3, 4); s: (3) (5)")
	expectRelation(t, `p(X) :- label(X, "a"), edge(X, _).`, graph(), "p", "(1)", "(3)")
	expectRelation(t, "p(X) :- mixed(X), X >= 0.", graph(), "p", "(2)", `("a")`, "(?1)")
	expectRelation(t, "p() :- flag(), node(X).", graph(), "p", "()")
	expectRelation(t, "p(X) :- gone(X).", graph(), "p")
}

func TestModelOfARelationThatDependsOnItself(t *testing.T) {
	expectModel(t, pathRules, chain(), 4, "edge: (1, 2) (2, 3) (3, 4); path: (1, 2) (1, 3) (1, 4) (2, 3) (2, 4) (3, 4)")
	expectRelation(t, pathRules, database(relation("edge", "(1, 2)", "(2, 1)")), "path", "(1, 1)", "(1, 2)", "(2, 1)", "(2, 2)")
	expectRelation(t, "path(X, Y) :- edge(X, Y). path(X, Z) :- path(X, Y), path(Y, Z).", chain(), "path", "(1, 2)", "(1, 3)", "(1, 4)", "(2, 3)", "(2, 4)", "(3, 4)")
	expectRelation(t, "path(X, Z) :- edge(X, Y), path(Y, Z). path(X, X) :- edge(_, X), not edge(X, _).", chain(), "path", "(1, 4)", "(2, 4)", "(3, 4)", "(4, 4)")
	expectRelation(t, "up(0). up(X + 2) :- up(X), X < 7.", nil, "up", "(0)", "(2)", "(4)", "(6)", "(8)")
	expectRelation(t, "fib(0, 0, 1). fib(N + 1, B, A + B) :- fib(N, A, B), N < 6.", nil, "fib", "(0, 0, 1)", "(1, 1, 1)", "(2, 1, 2)", "(3, 2, 3)", "(4, 3, 5)", "(5, 5, 8)", "(6, 8, 13)")
	// The arguments of an atom may be reckoned from new rows.
	expectRelation(t, "p(1). p(Y) :- p(X), p(X * 1), n(X + 1, Y).", database(relation("n", "(2, 3)", "(3, 9)", "(4, 7)", "(8, 1)")), "p", "(1)", "(3)", "(7)")
	// Nothing supports a relation that only itself does.
	expectModel(t, "p(X) :- p(X).", nil, 1, "p:")
	expectModel(t, "p() :- q(). q() :- p().", nil, 1, "p:; q:")
}

func TestModelOfRelationsThatDependOnEachOther(t *testing.T) {
	const parity = "even(0). even(Y) :- odd(X), Y = X + 1, Y < 6. odd(Y) :- even(X), Y = X + 1, Y < 6."
	expectModel(t, parity, nil, 7, "even: (0) (2) (4); odd: (1) (3) (5)")
	expectModel(t, "a(X) :- b(X). b(X) :- c(X). c(X) :- a(X). c(X) :- n(X).", database(relation("a", "(5)"), relation("n", "(1)")), 4,
		"a: (1) (5); b: (1) (5); c: (1) (5); n: (1)")
	expectRelation(t, "win(X) :- move(X, Y), lose(Y). lose(3). lose(X) :- move(X, _), all(X). all(X) :- move(X, Y), win(Y).",
		database(relation("move", "(0, 1)", "(1, 2)", "(2, 3)")), "win", "(0)", "(2)")
}

func TestModelWithNot(t *testing.T) {
	expectModel(t, "sink(X) :- edge(_, X), not edge(X, _).", chain(), 3, "edge: (1, 2) (2, 3) (3, 4); sink: (4)")
	expectRelation(t, "p(X) :- node(X), not q(X). q(X) :- node(X), X > 1.", graph(), "p", "(1)")
	expectRelation(t, "p(X) :- node(X), not absent(X).", graph(), "p", "(1)", "(2)", "(5)")
	expectRelation(t, "p() :- not q().", nil, "p", "()")
	expectRelation(t, "p() :- not q(). q().", nil, "p")
	expectRelation(t, "apart(X, Y) :- edge(X, _), edge(_, Y), not path(X, Y). "+pathRules, chain(), "apart", "(2, 2)", "(3, 2)", "(3, 3)")
	// A not is evaluated over the whole lower stratum in every round.
	expectRelation(t, "r(1). r(Y) :- r(X), edge(X, Y), not bad(Y). bad(X) :- edge(X, 4).", chain(), "r", "(1)", "(2)")
}

func TestModelWithAggregates(t *testing.T) {
	db := database(relation("edge", "(1, 2)", "(1, 3)", "(1, 4)", "(2, 4)"))
	expectRelation(t, "p(X, count) :- edge(X, _), edge(X, Y).", db, "p", "(1, 3)", "(2, 1)")
	expectRelation(t, "p(sum Y) :- edge(X, Y).", db, "p", "(13)")
	expectRelation(t, "p(X, min Y) :- edge(X, Y).", db, "p", "(1, 2)", "(2, 4)")
	expectRelation(t, "p(max Y, X) :- edge(X, Y).", db, "p", "(4, 1)", "(4, 2)")
	// What an aggregate needs is complete before it is formed.
	expectRelation(t, "reach(X, count) :- path(X, Y). "+pathRules, chain(), "reach", "(1, 3)", "(2, 2)", "(3, 1)")
	expectRelation(t, "far(max D) :- d(X, D). d(1, 0). d(Y, D + 1) :- d(X, D), edge(X, Y).", chain(), "far", "(3)")
	expectRelation(t, "m(count) :- n(X). n(X) :- edge(X, _). n(X) :- edge(_, X). m(0).", chain(), "m", "(0)", "(4)")
	// A relation with an aggregate may be used by rules that depend on themselves.
	expectRelation(t, "top(max X) :- edge(_, X). r(X) :- top(X). r(X) :- r(Y), edge(X, Y). r(X + 10) :- top(X).", chain(), "r", "(1)", "(2)", "(3)", "(4)", "(14)")
}

func TestModelOfSeveralStrata(t *testing.T) {
	const src = "a(1). a(2). a(3). b(X) :- a(X), not none(X), X > 1. c(count) :- b(X). d(X) :- a(X), not c(X). e(X, Y) :- d(X), c(Y), not e2(X, Y). e2(1, 2)."
	expectStrata(t, src, "a e2 none | b | c | d e")
	expectModel(t, src, nil, 9, "a: (1) (2) (3); b: (2) (3); c: (2); d: (1) (3); e: (3, 2); e2: (1, 2); none:")
	expectRounds(t, src, nil, "a: (1) (2) (3); e2: (1, 2)", "", "b: (2) (3)", "", "c: (2)", "", "d: (1) (3)", "e: (3, 2)", "")
}

// Db has all relations of the program and of the database.
func TestRelationsOfTheModel(t *testing.T) {
	db := database(relation("empty"), relation("extra", "(1, 2, 3)"), relation("n", "(1)"))
	expectModel(t, "rel decl(int). rel n(any). p(X) :- n(X), not no(X), q(X).", db, 2, "decl:; empty:; extra: (1, 2, 3); n: (1); no:; p:; q:")
	expectModel(t, "rel decl(int).", nil, 1, "decl:")
	expectModel(t, "rel n(int).", db, 1, "empty:; extra: (1, 2, 3); n: (1)")
	expectModel(t, "p(X) :- empty(X).", db, 1, "empty:; extra: (1, 2, 3); n: (1); p:")
	expectModel(t, "empty(1, 2).", db, 2, "empty: (1, 2); extra: (1, 2, 3); n: (1)")
	expectModel(t, "n(X + 1) :- n(X), X < 3.", db, 3, "empty:; extra: (1, 2, 3); n: (1) (2) (3)")
}

func TestRowsOfADerivedRelation(t *testing.T) {
	db := append(chain(), relation("path", "(0, 1)", "(3, 4)"))
	expectRelation(t, pathRules, db, "path", "(0, 1)", "(0, 2)", "(0, 3)", "(0, 4)", "(1, 2)", "(1, 3)", "(1, 4)", "(2, 3)", "(2, 4)", "(3, 4)")
	// They stay, also if no rule derives them, and also beside an aggregate.
	expectModel(t, "p(count) :- q(X).", database(relation("p", "(7)", `("a")`)), 2, `p: (7) ("a"); q:`)
	expectModel(t, "p(1) :- q(1).", database(relation("p", "(?1)")), 1, "p: (?1); q:")
	expectModel(t, "rel p(int). p(1).", database(relation("p", `("a")`)), 2, `p: (1) ("a")`)
	expectRelation(t, "q(X) :- p(X), not r(X). r(1). p(2).", database(relation("p", "(1)"), relation("r", "(2)")), "q")
}

func TestNews(t *testing.T) {
	expectRounds(t, pathRules, chain(), "path: (1, 2) (2, 3) (3, 4)", "path: (1, 3) (2, 4)", "path: (1, 4)", "")
	expectRounds(t, "p(2). q(1). p(1). q(1).", nil, "p: (1) (2); q: (1)", "")
	// A stratum without rules has one round, and so has one that adds nothing.
	expectRounds(t, "rel a(). rel b().", nil, "")
	expectRounds(t, "p(X) :- q(X).", nil, "")
	expectRounds(t, "p(X) :- q(X), not r(X).", database(relation("r", "(1)")), "", "")
	expectRounds(t, "p(X) :- q(X), not r(X).", database(relation("q", "(1)")), "", "p: (1)", "")
	expectRounds(t, "p(1).", database(relation("p", "(1)")), "")
	expectRounds(t, pathRules, database(relation("edge", "(1, 2)"), relation("path", "(1, 2)")), "")
	// Rules with an aggregate are in a stratum of their own.
	expectRounds(t, "p(count) :- q(X).", database(relation("q", "(4)", "(5)")), "", "p: (2)", "")
	expectRounds(t, "q(1). p(count) :- q(X).", nil, "q: (1)", "", "p: (1)", "")
	// A row that several rules derive is added once, in the first such round.
	expectRounds(t, "p(1). p(X) :- q(X). q(1). q(2). p(X) :- p(X).", nil, "p: (1); q: (1) (2)", "p: (2)", "")
}

// What a round adds is seen by the next round only, whatever the order of the
// rules.
func TestRoundsAreComputedFromTheTablesBefore(t *testing.T) {
	rounds := []string{"a: (1)", "b: (1)", "c: (1)", ""}
	expectRounds(t, "a(1). b(X) :- a(X). c(X) :- b(X).", nil, rounds...)
	expectRounds(t, "c(X) :- b(X). b(X) :- a(X). a(1).", nil, rounds...)
	expectRounds(t, "path(X, Y) :- edge(X, Y). path(X, Z) :- path(X, Y), path(Y, Z).",
		database(relation("edge", "(1, 2)", "(2, 3)", "(3, 4)", "(4, 5)", "(5, 6)")),
		"path: (1, 2) (2, 3) (3, 4) (4, 5) (5, 6)", "path: (1, 3) (2, 4) (3, 5) (4, 6)", "path: (1, 4) (1, 5) (2, 5) (2, 6) (3, 6)", "path: (1, 6)", "")
	// Two new rows meet that are of different rounds, and of the same round.
	expectRounds(t, "a(1). b(1) :- a(1). c(1) :- b(1). d(X) :- a(X), c(X). e(X) :- b(X), d(X), a(X).", nil, "a: (1)", "b: (1)", "c: (1)", "d: (1)", "e: (1)", "")
	expectRounds(t, "even(0). even(X + 1) :- odd(X), X < 3. odd(X + 1) :- even(X).", nil, "even: (0)", "odd: (1)", "even: (2)", "odd: (3)", "")
	expectRounds(t, "a(1). a(2) :- a(1), not b(2). b(1). c(X) :- a(X), a(Y), X != Y.", nil, "b: (1)", "", "a: (1)", "a: (2)", "c: (1) (2)", "")
}

func TestHolds(t *testing.T) {
	expectHolds(t, pathRules, chain(), false)
	expectHolds(t, pathRules, append(chain(), relation("path", "(1, 2)", "(1, 3)", "(1, 4)", "(2, 3)", "(2, 4)")), false)
	expectHolds(t, pathRules, append(chain(), relation("path", "(1, 2)", "(1, 3)", "(1, 4)", "(2, 3)", "(2, 4)", "(3, 4)")), true)
	expectHolds(t, pathRules, append(chain(), relation("path", "(1, 2)", "(1, 3)", "(1, 4)", "(2, 3)", "(2, 4)", "(3, 4)", "(8, 9)")), true)
	expectHolds(t, pathRules, database(relation("path", "(1, 2)")), true)
	expectHolds(t, pathRules, nil, true)
	expectHolds(t, "p().", nil, false)
	expectHolds(t, "p().", database(relation("p")), false)
	expectHolds(t, "p().", database(relation("p", "()")), true)
	expectHolds(t, "p(1). p(2).", database(relation("p", "(1)")), false)
	expectHolds(t, "p(1). p(2).", database(relation("p", "(1)", "(2)")), true)
	expectHolds(t, "p(1000000000 + 1).", nil, true)
	expectHolds(t, "p(X) :- q(X), not r(X).", database(relation("q", "(1)"), relation("r", "(1)")), true)
	expectHolds(t, "p(X) :- q(X), not r(X).", database(relation("q", "(1)"), relation("r", "(2)")), false)
	expectHolds(t, "p(count) :- q(X).", database(relation("p", "(3)"), relation("q", "(1)", "(2)")), false)
	expectHolds(t, "p(count) :- q(X).", database(relation("p", "(2)", "(3)"), relation("q", "(1)", "(2)")), true)
	expectHolds(t, "p(max X) :- q(X).", nil, true)
	expectHolds(t, "rel p(int).", nil, true)
}

// relNames returns a program with n relations without rules.
func relNames(n int) impl.Program {
	var p impl.Program
	for len(p.Rules) < n {
		p.Rules = append(p.Rules, ruleOf(atomOf(fmt.Sprintf("p%03d", len(p.Rules)))))
	}
	return p
}

func TestMaxRelsOfTheModel(t *testing.T) {
	for _, ofProgram := range []int{0, 1, 30, impl.MaxRels} {
		p, db := relNames(ofProgram), namedRels(impl.MaxRels-ofProgram)
		if m := impl.Model(p, db); m.Code != impl.ModelOk || len(m.Db) != impl.MaxRels || !impl.DbOk(m.Db) {
			t.Errorf("%d relations of the program: %d, %d relations", ofProgram, m.Code, len(m.Db))
		}
		expectCode(t, fmt.Sprint("more than MaxRels relations, ", ofProgram+1, " of the program"), relNames(ofProgram+1), db, impl.ModelBig)
		if ofProgram == 0 {
			continue
		}
		more := append(db, impl.Rel{Name: "s"})
		expectCode(t, fmt.Sprint("more than MaxRels relations, ", ofProgram, " of the program"), p, more, impl.ModelBig)
	}
	// A relation of both counts once, and so does one that is only declared.
	p, db := relNames(1), namedRels(impl.MaxRels)
	p.Rules[0].Head.Name = "r010"
	if m := impl.Model(p, db); m.Code != impl.ModelOk || len(m.Db) != impl.MaxRels {
		t.Errorf("a relation of both: %d, %d relations", m.Code, len(m.Db))
	}
	p.Decls = []impl.Decl{{Name: "r010"}, {Name: "r020", Types: []string{"int"}}}
	if m := impl.Model(p, db); m.Code != impl.ModelOk || len(m.Db) != impl.MaxRels {
		t.Errorf("a declared relation of both: %d, %d relations", m.Code, len(m.Db))
	}
	p.Decls = append(p.Decls, impl.Decl{Name: "z"})
	expectCode(t, "a relation that is only declared", p, db, impl.ModelBig)
	expectCode(t, "a relation of a not", rules(ruleOf(atomOf("r001"), notLit(atomOf("z")))), db, impl.ModelBig)
	expectCode(t, "MaxRels of each", relNames(impl.MaxRels), db, impl.ModelBig)
	// The number of relations does not matter for Holds.
	if impl.Holds(relNames(1), db) || !impl.Holds(rules(ruleOf(atomOf("z"), atomLit(atomOf("y")))), db) {
		t.Error("Holds counts relations")
	}
}

func TestMaxRowsOfARelation(t *testing.T) {
	const most = impl.MaxRows
	db := database(impl.Rel{Name: "n", Rows: countTo(most)}, impl.Rel{Name: "p", Rows: countTo(most - 1)}, relation("two", "(1)", "(2)"))
	for _, src := range []string{
		fmt.Sprint("p(", most, ")."),
		fmt.Sprint("p(", most, "). p(0). p(1)."),
		"p(X) :- n(X).",
		"p(X) :- n(X). p(Y) :- n(X), Y = X * 1. p(X) :- p(X).",
		fmt.Sprint("p(X + 1) :- p(X), X < ", most-1, "."),
		fmt.Sprint("p(", most, ") :- p(X)."),
	} {
		p := programOf(t, src)
		if m := impl.Model(p, db); m.Code != impl.ModelOk || len(impl.RowsOf(m.Db, "p")) != most || !impl.Holds(p, m.Db) {
			t.Errorf("MaxRows rows by %s: the code is %d", src, m.Code)
		}
	}
	for _, src := range []string{
		fmt.Sprint("p(", most, "). p(", most+1, ")."),
		fmt.Sprint("p(X + ", most, ") :- two(X)."),
		"p(X + 1) :- n(X).",
		"p(X) :- n(X). p(-1).",
		"p(X) :- n(X). p(X - 1) :- p(X).",
		"p(0 - X) :- n(X), X > 0.",
		fmt.Sprint("n(", most, ")."),
		"n(X - 1) :- n(X).",
	} {
		expectCode(t, "MaxRows + 1 rows by "+src, programOf(t, src), db, impl.ModelBig)
	}
	// Many rules may derive the same rows.
	p := programOf(t, strings.Repeat("q(X) :- n(X). ", 20))
	if m := impl.Model(p, db); m.Code != impl.ModelOk || m.Rounds != 2 || !sameRows(impl.RowsOf(m.Db, "q"), countTo(most)) {
		t.Errorf("20 rules with MaxRows rows each: %d, %d rounds", m.Code, m.Rounds)
	}
	// The number of rows that a relation would have does not matter for Holds.
	expectHolds(t, "n(X) :- n(X).", db, true)
	expectHolds(t, "n(-1).", db, false)
}

func TestMostRounds(t *testing.T) {
	up := func(name string, last int) string {
		return fmt.Sprintf("%s(0). %s(X + 1) :- %s(X), X < %d. ", name, name, name, last)
	}
	const last = impl.MaxRounds - 2
	m := impl.Model(programOf(t, up("up", last)), nil)
	if m.Code != impl.ModelOk || m.Rounds != impl.MaxRounds || !sameRows(impl.RowsOf(m.Db, "up"), countTo(last+1)) {
		t.Errorf("MaxRounds rounds: %d, %d rounds", m.Code, m.Rounds)
	}
	if news := impl.News(programOf(t, up("up", last)), nil); len(news) != impl.MaxRounds || shownDb(news[last]) != fmt.Sprintf("up: (%d)", last) || len(news[last+1]) != 0 {
		t.Errorf("News of MaxRounds rounds: %v", news)
	}
	expectCode(t, "MaxRounds + 1 rounds", programOf(t, up("up", last+1)), nil, impl.ModelBig)
	expectCode(t, "rounds without an end", programOf(t, "up(0). up(X + 1) :- up(X)."), nil, impl.ModelBig)
	expectCode(t, "rounds without an end in the last stratum", programOf(t, "a(1). up(X) :- a(X), not b(X). up(X + 1) :- up(X)."), nil, impl.ModelBig)
	// Each stratum has as many rounds of its own.
	two := up("up", last) + up("high", last) + "down(X) :- up(X), not low(X), X > 197. down(X - 1) :- down(X), X > 0. best(max X) :- up(X)."
	if m := impl.Model(programOf(t, two), nil); m.Code != impl.ModelOk || m.Rounds != 2*impl.MaxRounds || len(m.Db) != 5 {
		t.Errorf("MaxRounds rounds of two strata: %d, %d rounds", m.Code, m.Rounds)
	}
	if impl.Holds(programOf(t, "up(0). up(X + 1) :- up(X)."), nil) {
		t.Error("rounds without an end hold")
	}
	full := make([]string, 0, impl.MaxRounds+2)
	for i := range cap(full) {
		full = append(full, fmt.Sprintf("(%d)", i))
	}
	expectHolds(t, up("up", len(full)-1), database(relation("up", full...)), true)
}

func TestMostVariablesOfARule(t *testing.T) {
	const nine = "a(A, B, C, D), b(E, F, G, H), c(I)"
	db := database(relation("a", "(1, 2, 3, 4)"), relation("b", "(5, 6, 7, 8)"), relation("c", "(9)"))
	expectRelation(t, "p(A, B, C, D, E, F, G, H) :- a(A, B, C, D), b(E, F, G, H).", db, "p", "(1, 2, 3, 4, 5, 6, 7, 8)")
	expectRelation(t, "p(A, H) :- a(A, B, C, D), b(E, F, G, H), not c(H), c(_).", db, "p", "(1, 8)")
	for _, src := range []string{
		"p() :- " + nine + ".",
		"p(1). p(count) :- " + nine + ".",
		"p(A) :- a(A, B, C, D), b(E, F, G, H), I = 1.",
		"q(X) :- c(X), not p(X). p(A) :- " + nine + ".",
		"p(A) :- c(X), not c(X), " + nine + ".",
	} {
		for _, db := range [][]impl.Rel{db, nil, append(slices.Clone(db), relation("p", "(1)"))} {
			p := programOf(t, src)
			if impl.Holds(p, db) {
				t.Errorf("%s holds", src)
			}
			if len(db) < 4 || len(p.Rules[0].Head.Args) == 1 {
				expectCode(t, "MaxWide + 1 variables in "+src, p, db, impl.ModelBig)
			}
		}
	}
}

// pairs has relations a and b, of which MaxRows pairs of rows agree in the
// first value 1, and one pair in the first value 2.
func pairs() []impl.Rel {
	return database(
		impl.Rel{Name: "a", Rows: rowsIn(slices.Concat(grid(1, 50), grid(2, 1)))},
		impl.Rel{Name: "b", Rows: rowsIn(slices.Concat(grid(1, impl.MaxRows/50), grid(2, 1)))},
		impl.Rel{Name: "full", Rows: countTo(impl.MaxRows)},
	)
}

func TestMostSolutionsOfARule(t *testing.T) {
	db := pairs()
	expectRelation(t, "p(X) :- n(X), a(X, Y), b(X, Z). n(1).", db, "p", "(1)")
	expectRelation(t, "p(X, count) :- n(X), a(X, Y), b(X, Z). n(1).", db, "p", "(1, 3000)")
	// The last solution is found in a later round than the others.
	expectRelation(t, "p(X) :- n(X), a(X, Y), b(X, Z). n(2). n(3) :- n(2). n(4) :- n(3). n(1) :- n(5).", db, "p", "(2)")
	for _, src := range []string{
		"p(X) :- n(X), a(X, Y), b(X, Z). n(1). n(2).",
		"p(X) :- n(X), a(X, Y), b(X, Z). n(1). n(3) :- n(1). n(2) :- n(3).",
		"p(X) :- n(X), a(X, Y), b(X, Z). n(2). n(3) :- n(2). n(1) :- n(3).",
		"p() :- n(X), a(X, Y), b(X, Z). n(2). n(3) :- n(2). n(1) :- n(3). p().",
		"p(1000000000 + X) :- n(X), a(X, Y), b(X, Z). n(1). n(2).",
		"p(count) :- n(X), a(X, Y), b(X, Z). n(2). n(3) :- n(2). n(1) :- n(3).",
		"p(X) :- a(X, Y), b(X, Z).", "p(X, sum Y) :- a(X, Y), b(X, Z).", "p(X) :- full(X), full(Y), full(Z), full(W).",
	} {
		p := programOf(t, src)
		expectCode(t, "MaxRows + 1 solutions of "+src, p, db, impl.ModelBig)
	}
	for _, n := range []string{"(1)", "(2)", "(3)"} {
		expectHolds(t, "p(1) :- n(X), a(X, Y), b(X, Z).", append(slices.Clone(db), relation("n", n), relation("p", "(1)")), true)
	}
	expectHolds(t, "p(1) :- n(X), a(X, Y), b(X, Z).", append(slices.Clone(db), relation("n", "(1)", "(2)"), relation("p", "(1)")), false)
	expectHolds(t, "p(count) :- a(X, Y), b(X, Z).", append(slices.Clone(db), relation("p", "(3001)")), false)
}

// A rule that depends on itself has its solutions over the tables of the last
// round, though each round finds only some of them.
func TestSolutionsOfAllRoundsCount(t *testing.T) {
	up := "n(0). n(X + 1) :- n(X), X < %d. p() :- n(X), n(Y). "
	for last, code := range map[int]int64{10: impl.ModelOk, 53: impl.ModelOk, 54: impl.ModelBig, 55: impl.ModelBig} {
		p := programOf(t, fmt.Sprintf(up, last))
		if m := impl.Model(p, nil); m.Code != code {
			t.Errorf("%d solutions: the code is %d", (last+1)*(last+1), m.Code)
		}
	}
}

// With `_` a new row may lead to a solution that is known already.
func TestSolutionsAreCountedOnce(t *testing.T) {
	db := pairs()
	grow := "n(0). n(X + 1) :- n(X), X < 5. "
	expectRelation(t, grow+"p(0) :- full(X), n(_).", db, "p", "(0)")
	expectRelation(t, grow+"p(0) :- n(_), full(X), n(_).", db, "p", "(0)")
	expectRelation(t, grow+"r(1, X) :- n(X). p(X) :- r(X, _), a(X, Y), b(X, Z).", db, "p", "(1)")
	expectRelation(t, grow+"p(0) :- full(X), n(Y), Y < 1.", db, "p", "(0)")
	expectCode(t, "two values of a variable", programOf(t, grow+"p(0) :- full(X), n(Y)."), db, impl.ModelBig)
}

func atomIn(t *testing.T, src string) impl.Atom {
	t.Helper()
	return onlyRule(t, "q() :- "+src+".").Body[0].Atom
}

func expectAnswer(t *testing.T, db []impl.Rel, src string, rows ...string) {
	t.Helper()
	expectTable(t, "Ask "+src, impl.Ask(db, atomIn(t, src)), relation("", rows...).Rows)
}

func TestAsk(t *testing.T) {
	db := database(
		relation("e", "(1, 1)", "(1, 2)", "(2, 1)", "(2, 2)", `(2, "a")`, `("a", "a")`, "(?1, ?1)", "(?1, ?2)"),
		relation("empty"),
		relation("flag", "()"),
		relation("w", "(1, 2, 1, 2)", "(1, 2, 2, 1)", "(1, 2, 3, 2)", "(2, 2, 2, 2)"),
	)
	expectAnswer(t, db, "e(X, Y)", "(1, 1)", "(1, 2)", "(2, 1)", "(2, 2)", `(2, "a")`, `("a", "a")`, "(?1, ?1)", "(?1, ?2)")
	expectAnswer(t, db, "e(_, _)", "(1, 1)", "(1, 2)", "(2, 1)", "(2, 2)", `(2, "a")`, `("a", "a")`, "(?1, ?1)", "(?1, ?2)")
	expectAnswer(t, db, "e(X, X)", "(1, 1)", "(2, 2)", `("a", "a")`, "(?1, ?1)")
	expectAnswer(t, db, "e(1, X)", "(1, 1)", "(1, 2)")
	expectAnswer(t, db, "e(1, _)", "(1, 1)", "(1, 2)")
	expectAnswer(t, db, "e(X, 1)", "(1, 1)", "(2, 1)")
	expectAnswer(t, db, `e(_, "a")`, `(2, "a")`, `("a", "a")`)
	expectAnswer(t, db, "e(2, 1)", "(2, 1)")
	expectAnswer(t, db, "e(3, 1)")
	expectAnswer(t, db, `e("1", 1)`)
	expectAnswer(t, db, "w(X, Y, X, Y)", "(1, 2, 1, 2)", "(2, 2, 2, 2)")
	expectAnswer(t, db, "w(X, Y, Y, X)", "(1, 2, 2, 1)", "(2, 2, 2, 2)")
	expectAnswer(t, db, "w(X, Y, Z, Y)", "(1, 2, 1, 2)", "(1, 2, 3, 2)", "(2, 2, 2, 2)")
	expectAnswer(t, db, "w(X, X, X, X)", "(2, 2, 2, 2)")
	expectAnswer(t, db, "w(_, _, _, _)", "(1, 2, 1, 2)", "(1, 2, 2, 1)", "(1, 2, 3, 2)", "(2, 2, 2, 2)")
	expectAnswer(t, db, "w(_, X, 2, X)", "(2, 2, 2, 2)")
	expectAnswer(t, db, "w(1, _, X, X)")
	expectAnswer(t, db, "flag()", "()")
	expectAnswer(t, db, "empty()")
	expectAnswer(t, db, "empty(X, 1, _)")
	expectAnswer(t, db, "absent()")
	expectAnswer(t, db, "absent(X)")
	expectAnswer(t, nil, "e(X, Y)")
	expectAnswer(t, database(impl.Rel{Name: "full", Rows: countTo(impl.MaxRows)}), "full(2999)", "(2999)")
	expectTable(t, "Ask full(X)", impl.Ask(database(impl.Rel{Name: "full", Rows: countTo(impl.MaxRows)}), atomIn(t, "full(X)")), countTo(impl.MaxRows))
	expectAnswer(t, database(impl.Rel{Name: "w", Rows: [][]impl.Value{upTo(8)}}), "w(X, _, Y, 3, Z, _, 6, W)", "(0, 1, 2, 3, 4, 5, 6, 7)")
}

// The relations have no rows with which these atoms could be answered in
// another way.
func TestAtomsThatCannotBeAsked(t *testing.T) {
	db := database(relation("e", "(1, 1)", "(1, 2)"), relation("flag", "()"))
	x, one := variableNode("X"), constantNode(number(1))
	sum := operationNodes(impl.NodeAdd, one, one)
	for name, a := range map[string]impl.Atom{
		"the zero Atom":            {},
		"no name":                  atomOf("", x, x),
		"a variable as name":       atomOf("E", x, x),
		"an excluded word":         atomOf("not", x, x),
		"fewer arguments":          atomOf("e", x),
		"no arguments":             atomOf("e"),
		"more arguments":           atomOf("e", x, x, x),
		"arguments of a flag":      atomOf("flag", x),
		"more than MaxWide":        atomOf("absent", slices.Repeat([][]impl.Node{x}, impl.MaxWide+1)...),
		"an argument with parts":   atomOf("e", one, sum),
		"a variable with parts":    atomOf("e", operationNodes(impl.NodeMul, x, one), one),
		"an argument of no nodes":  atomOf("e", x, nil),
		"two nodes":                atomOf("e", x, slices.Concat(one, one)),
		"a small variable":         atomOf("e", variableNode("x"), one),
		"an underscore variable":   atomOf("e", variableNode("_"), one),
		"a null":                   atomOf("e", x, constantNode(null(1))),
		"an integer too great":     atomOf("e", x, constantNode(number(impl.MaxInt+1))),
		"an unknown kind":          atomOf("e", x, []impl.Node{{Kind: 7}}),
		"the kind 0":               atomOf("e", x, []impl.Node{{}}),
		"a named any":              atomOf("e", x, []impl.Node{{Kind: impl.NodeAny, Name: "X"}}),
		"a variable with a value":  atomOf("e", x, []impl.Node{{Kind: impl.NodeVar, Name: "X", Value: number(1)}}),
		"a constant with a name":   atomOf("e", x, []impl.Node{{Kind: impl.NodeConst, Name: "X", Value: number(1)}}),
		"an operation alone":       atomOf("e", x, []impl.Node{{Kind: impl.NodeAdd}}),
		"a constant with a size":   atomOf("e", x, []impl.Node{{Kind: impl.NodeConst, Value: number(1), Size: 1}}),
		"parts, relation unknown":  atomOf("absent", sum),
		"parts, relation is empty": atomOf("none", sum),
	} {
		if got := impl.Ask(append(db, impl.Rel{Name: "none"}), a); got != nil {
			t.Errorf("%s: %s", name, shownRows(got))
		}
	}
	for name, db := range invalidDatabases() {
		for _, a := range []impl.Atom{atomOf("a", x), atomOf("b", x), atomOf("absent"), atomOf("a", one)} {
			if got := impl.Ask(db, a); got != nil {
				t.Errorf("%s: %s", name, shownRows(got))
			}
		}
	}
}

func TestProgramsWithFaultsHaveNoModel(t *testing.T) {
	db := append(chain(), relation("p", "(1)"))
	codes := map[int64]int{}
	for _, src := range []string{
		"p(1). p(1, 2).", "rel p(). p(1).", "q() :- edge(X), edge(X, X).", "q(X) :- edge(X, Y), not edge(X).",
		"p(X) :- edge(Y, _).", "p(_).", "p(X) :- edge(X, Y), not q(Z).", "p(1). p(X).",
		`rel p(int). p("a").`, "rel p(text). p(X + 1) :- edge(X, _).", `q(sum "a").`, "rel a(int). rel b(text). q(X) :- a(X), b(X).",
		"p(X) :- edge(X, _), not p(X).", "p(count) :- p(X).", "p(X) :- edge(X, _), not q(X). q(X) :- p(X).",
	} {
		p := programOf(t, src)
		codes[impl.Fault(p).Code]++
		expectNoArguments(t, src, p, db)
		expectNoArguments(t, src, p, nil)
	}
	for i, p := range invalidPrograms() {
		codes[impl.Fault(p).Code]++
		expectNoArguments(t, fmt.Sprint("invalid program ", i), p, db)
	}
	for code := int64(impl.CheckForm); code <= impl.CheckStrata; code++ {
		if codes[code] < 3 {
			t.Errorf("only %d programs with the code %d", codes[code], code)
		}
	}
	// The arguments are looked at before the limits.
	nine := "q(X) :- a(A, B, C, D, E, F, G, H), X = 1. "
	expectNoArguments(t, "nine variables and a fault", programOf(t, nine+"p(X)."), nil)
	expectNoArguments(t, "many relations and a fault", rules(append(relNames(impl.MaxRels).Rules, ruleOf(atomOf("z", variableNode("X"))))...), namedRels(impl.MaxRels))
	expectNoArguments(t, "nine variables and another width", programOf(t, nine), database(relation("a", "(1)")))
}

func TestListsThatAreNoDatabasesHaveNoModel(t *testing.T) {
	for name, db := range invalidDatabases() {
		for _, src := range []string{"", "p(1).", "rel a(int).", "p(X) :- a(X).", "a(X) :- p(X)."} {
			expectNoArguments(t, name+": "+src, programOf(t, src), db)
		}
	}
	for name, db := range validDatabases() {
		p := programOf(t, "")
		if m := impl.Model(p, db); m.Code != impl.ModelOk || shownDb(m.Db) != shownDb(db) || !impl.Holds(p, db) {
			t.Errorf("%s: %d, %s", name, m.Code, shownDb(m.Db))
		}
	}
}

func TestRowsOfAnotherWidthHaveNoModel(t *testing.T) {
	db := database(relation("n", "(1)"), relation("none"), relation("w", "(1, 2)"))
	for _, src := range []string{
		"rel w(int).", "rel w().", "rel w(any, any, any).", "w(1).", "w().", "w(1, 2, 3).", "p(X) :- w(X).", "p(X) :- n(X), not w(X).",
		"p(X) :- n(X), not w(_, _, _).", "p(count) :- w().", "w(X) :- n(X).", "p(1). q(X) :- p(X), w(X).", "n(X, Y) :- w(X, Y).", "w(X) :- w(X).",
	} {
		expectNoArguments(t, src, programOf(t, src), db)
	}
	for _, src := range []string{"rel none(int, text).", "none(1, 2, 3).", "p(X) :- none(X, X, X, X).", "p(X) :- n(X), not none().", "rel w(text, text).", "w(X, X) :- n(X)."} {
		if m := impl.Model(programOf(t, src), db); m.Code != impl.ModelOk {
			t.Errorf("%s: the code is %d", src, m.Code)
		}
	}
}

// A modeler makes random programs that have a model, if it is not too large,
// and databases for them.
type modeler struct {
	asker
}

func newModeler(seed int64) modeler { return modeler{newAsker(seed)} }

// chainRule makes relations of width 2 depend on each other.
func (g modeler) chainRule() impl.Rule {
	name := func() string { return plannedNames[g.source.Intn(3)] }
	link := func(from, to string) impl.Lit {
		return atomLit(atomOf(name(), variableNode(from), variableNode(to)))
	}
	head := atomOf(name(), variableNode("X"), variableNode("Y"))
	switch g.source.Intn(4) {
	case 0:
		return ruleOf(head, link("X", "Y"))
	case 1:
		return ruleOf(head, link("Y", "X"), link("X", "Y"))
	case 2:
		return ruleOf(head, link("X", "Z"), link("Z", "W1"), link("W1", "Y"))
	}
	return ruleOf(head, link("X", "Z"), link("Z", "Y"))
}

// valid returns a program without a fault, whose widths fit those of the
// database that the asker makes.
func (g modeler) valid() (impl.Program, []impl.Rel) {
	for _, name := range plannedNames {
		g.widths[name] = 2
		if g.chance(40) {
			g.widths[name] = g.source.Intn(3)
		}
	}
	var p impl.Program
	chains := 20 + 20*g.source.Intn(4)
	for most, tries := 1+g.source.Intn(8), 0; len(p.Rules) < most && tries < 60; tries++ {
		r := g.rule()
		if g.chance(chains) {
			r = g.chainRule()
		}
		longer := impl.Program{Rules: append(slices.Clone(p.Rules), r)}
		if impl.Fault(rules(r)).Code == impl.CheckOk && impl.Fault(longer).Code == impl.CheckOk && g.fits(r) && len(r.Head.Args) == g.widths[r.Head.Name] {
			p = longer
		}
	}
	if g.chance(30) {
		p.Decls = []impl.Decl{{Name: "bB", Types: slices.Repeat([]string{"any"}, g.widths["bB"])}, {Name: "extra"}}
	}
	return p, g.database()
}

// positive returns a program without nots and aggregates.
func (g modeler) positive() (impl.Program, []impl.Rel) {
	for {
		p, db := g.valid()
		p.Rules = slices.DeleteFunc(p.Rules, func(r impl.Rule) bool {
			isNot := func(l impl.Lit) bool { return l.Kind == impl.LitNot }
			return strings.Join(r.Aggs, "") != "" || slices.ContainsFunc(r.Body, isNot)
		})
		if len(p.Rules) > 1 {
			return p, db
		}
	}
}

// tooMany reports whether a rule has more combinations of rows than the
// definitions by enumeration should be tried on.
func tooMany(p impl.Program, tables []impl.Rel) bool {
	return slices.ContainsFunc(p.Rules, func(r impl.Rule) bool {
		ways := 1
		for _, l := range r.Body {
			if l.Kind == impl.LitAtom {
				ways *= len(tableIn(tables, l.Atom.Name))
			}
		}
		return ways > 1500
	})
}

// expectedRounds repeats the definition of Model: it returns the tables and
// what each round adds, or false if the program would take too long.
func expectedRounds(p impl.Program, db []impl.Rel) ([]impl.Rel, [][]impl.Rel, bool) {
	rows := map[string]map[string][]impl.Value{}
	for name := range expectedWidths(p) {
		rows[name] = map[string][]impl.Value{}
	}
	for _, r := range db {
		rows[r.Name] = map[string][]impl.Value{}
		for _, row := range r.Rows {
			rows[r.Name][impl.ShowRow(row)] = row
		}
	}
	tables := func() []impl.Rel {
		list := []impl.Rel{}
		for _, name := range slices.Sorted(maps.Keys(rows)) {
			list = append(list, impl.Rel{Name: name, Rows: sortedRows(rows[name])})
		}
		return list
	}
	rounds := [][]impl.Rel{}
	for _, stratum := range expectedStrata(p) {
		for more := true; more; {
			before, added := tables(), map[string]map[string][]impl.Value{}
			if tooMany(p, before) || len(rounds) > 60 {
				return nil, nil, false
			}
			for _, r := range p.Rules {
				if !slices.Contains(stratum, r.Head.Name) {
					continue
				}
				for _, row := range expectedHeads(r, expectedSolutions(r, before)) {
					shown := impl.ShowRow(row)
					if rows[r.Head.Name][shown] == nil {
						if added[r.Head.Name] == nil {
							added[r.Head.Name] = map[string][]impl.Value{}
						}
						added[r.Head.Name][shown] = row
					}
				}
			}
			round := []impl.Rel{}
			for _, name := range slices.Sorted(maps.Keys(added)) {
				round = append(round, impl.Rel{Name: name, Rows: sortedRows(added[name])})
				maps.Copy(rows[name], added[name])
			}
			rounds, more = append(rounds, round), len(round) > 0
		}
	}
	return tables(), rounds, true
}

func shownProgram(p impl.Program, db []impl.Rel) string {
	return impl.ShowProgram(p) + shownDb(db)
}

func shownRounds(rounds [][]impl.Rel) string {
	texts := []string{}
	for _, added := range rounds {
		texts = append(texts, shownDb(added))
	}
	return strings.Join(texts, " | ")
}

// rowCount returns the number of all rows.
func rowCount(db []impl.Rel) int {
	count := 0
	for _, r := range db {
		count += len(r.Rows)
	}
	return count
}

// Promise 6, by the definition of the model.
func TestRandomProgramsHaveTheModelThatIsDefined(t *testing.T) {
	g := newModeler(61)
	compared, deep, strata := 0, 0, 0
	for range 6000 {
		p, db := g.valid()
		tables, rounds, ok := expectedRounds(p, db)
		if !ok {
			continue
		}
		m := impl.Model(p, db)
		if m.Code != impl.ModelOk || m.Rounds != int64(len(rounds)) || shownDb(m.Db) != shownDb(tables) || !impl.DbOk(m.Db) {
			t.Fatalf("%s\nModel: %d, %d rounds, %s\nnot %d rounds, %s", shownProgram(p, db), m.Code, m.Rounds, shownDb(m.Db), len(rounds), shownDb(tables))
		}
		if got := shownRounds(impl.News(p, db)); got != shownRounds(rounds) {
			t.Fatalf("%s\nNews: %s\nnot %s", shownProgram(p, db), got, shownRounds(rounds))
		}
		// If the rules hold already, no stratum adds anything.
		if got, want := impl.Holds(p, db), rowCount(tables) == rowCount(db); got != want {
			t.Fatalf("%s\nHolds: %v", shownProgram(p, db), got)
		}
		compared++
		if len(rounds) > len(expectedStrata(p))+2 {
			deep++
		}
		if len(expectedStrata(p)) > 2 {
			strata++
		}
	}
	if compared < 5000 || deep < 400 || strata < 500 {
		t.Errorf("only %d programs compared, %d with many rounds, %d with many strata", compared, deep, strata)
	}
}

// Holds is compared rule by rule with Heads.
func TestRandomProgramsHoldAsDefined(t *testing.T) {
	g := newModeler(62)
	seen := map[bool]int{}
	for range 3000 {
		p, db := g.valid()
		if g.chance(50) {
			if m := impl.Model(p, db); m.Code == impl.ModelOk {
				db = m.Db
			}
		}
		want := true
		for _, r := range p.Rules {
			for _, row := range impl.Heads(r, db) {
				want = want && impl.HasRow(impl.RowsOf(db, r.Head.Name), row)
			}
		}
		seen[want]++
		if got := impl.Holds(p, db); got != want {
			t.Fatalf("%s\nHolds: %v", shownProgram(p, db), got)
		}
	}
	if seen[true] < 500 || seen[false] < 500 {
		t.Errorf("Holds: %v", seen)
	}
}

// Promise 6, as the chapter's property says it: the rules hold in the model,
// and the model contains the database.
func TestAllRulesHoldInTheModel(t *testing.T) {
	g := newModeler(63)
	for range 3000 {
		p, db := g.valid()
		m := impl.Model(p, db)
		if m.Code != impl.ModelOk {
			continue
		}
		if !impl.Holds(p, m.Db) {
			t.Fatalf("%s\ndoes not hold in %s", shownProgram(p, db), shownDb(m.Db))
		}
		for _, r := range db {
			for _, row := range r.Rows {
				if !impl.HasRow(impl.RowsOf(m.Db, r.Name), row) {
					t.Fatalf("%s\n%s%s is not in the model", shownProgram(p, db), r.Name, impl.ShowRow(row))
				}
			}
		}
		again := impl.Model(p, m.Db)
		if again.Code != impl.ModelOk || shownDb(again.Db) != shownDb(m.Db) || again.Rounds != int64(len(impl.Strata(p))) {
			t.Fatalf("%s\nthe model of the model has %d rounds: %s", shownProgram(p, db), again.Rounds, shownDb(again.Db))
		}
	}
}

// Promise 6, the least model: without some of the derived rows, a rule does
// not hold.
func TestNoSmallerDatabaseSatisfiesTheRules(t *testing.T) {
	g := newModeler(64)
	smaller := 0
	for range 1500 {
		p, db := g.positive()
		m := impl.Model(p, db)
		if m.Code != impl.ModelOk {
			continue
		}
		// First one derived row after the other is left out, alone, and then
		// some at random; at is the number of a derived row.
		alone := min(rowCount(m.Db)-rowCount(db), 60)
		for try := range alone + 5 {
			at, left := -1, 0
			less := []impl.Rel{}
			for _, r := range m.Db {
				rows := slices.DeleteFunc(slices.Clone(r.Rows), func(row []impl.Value) bool {
					if impl.HasRow(impl.RowsOf(db, r.Name), row) {
						return false
					}
					at++
					leave := at == try || try >= alone && g.chance(40)
					if leave {
						left++
					}
					return leave
				})
				less = append(less, impl.Rel{Name: r.Name, Rows: rows})
			}
			if left > 0 && impl.Holds(p, less) {
				t.Fatalf("%s\nholds in %s\nwhich is less than %s", shownProgram(p, db), shownDb(less), shownDb(m.Db))
			}
			smaller += left
		}
	}
	if smaller < 5000 {
		t.Errorf("only %d rows left out", smaller)
	}
}

// Promise 6: the order of the rules makes no difference, and neither does a
// rule that is repeated.
func TestTheOrderOfTheRulesDoesNotMatter(t *testing.T) {
	g := newModeler(65)
	for range 1500 {
		p, db := g.valid()
		m, news := impl.Model(p, db), impl.News(p, db)
		for range 3 {
			other := impl.Program{Decls: p.Decls, Rules: slices.Clone(p.Rules)}
			for range g.source.Intn(4) {
				if len(p.Rules) > 0 {
					other.Rules = append(other.Rules, p.Rules[g.source.Intn(len(p.Rules))])
				}
			}
			g.source.Shuffle(len(other.Rules), func(i, j int) {
				other.Rules[i], other.Rules[j] = other.Rules[j], other.Rules[i]
			})
			if got := impl.Model(other, db); !reflect.DeepEqual(got, m) {
				t.Fatalf("%s\nModel: %v, but in another order %v", shownProgram(other, db), got, m)
			}
			if got := impl.News(other, db); !reflect.DeepEqual(got, news) {
				t.Fatalf("%s\nNews: %v, but in another order %v", shownProgram(other, db), got, news)
			}
		}
	}
}

// Promise 6, written out: the rules in every order.
func TestOrdersOfAProgram(t *testing.T) {
	p := programOf(t, "path(X, Z) :- path(X, Y), path(Y, Z). path(X, Y) :- edge(X, Y). far(X, count) :- path(X, _), path(X, Y). end(X) :- path(_, X), not path(X, _).")
	const want = "edge: (1, 2) (2, 3) (3, 4); end: (4); far: (1, 3) (2, 2) (3, 1); path: (1, 2) (1, 3) (1, 4) (2, 3) (2, 4) (3, 4)"
	var extend func(start, rest []impl.Rule)
	extend = func(start, rest []impl.Rule) {
		if len(rest) == 0 {
			m := impl.Model(rules(start...), chain())
			if m.Rounds != 6 || shownDb(m.Db) != want {
				t.Errorf("%s\n%d rounds: %s", impl.ShowProgram(rules(start...)), m.Rounds, shownDb(m.Db))
			}
		}
		for i := range rest {
			extend(append(slices.Clone(start), rest[i]), slices.Delete(slices.Clone(rest), i, i+1))
		}
	}
	extend(nil, p.Rules)
}

// The rows of News are those that the model has beside db, each once.
func TestNewsAreTheDerivedRows(t *testing.T) {
	g := newModeler(66)
	for range 2000 {
		p, db := g.valid()
		m, news := impl.Model(p, db), impl.News(p, db)
		if m.Code != impl.ModelOk {
			if news != nil {
				t.Fatalf("%s\nthe code is %d, but News = %v", shownProgram(p, db), m.Code, news)
			}
			continue
		}
		last := 0
		tables := map[string][][]impl.Value{}
		for _, r := range db {
			tables[r.Name] = r.Rows
		}
		for _, added := range news {
			if len(added) == 0 {
				last++
			}
			if !impl.DbOk(added) {
				t.Fatalf("%s\nNews: %s is no database", shownProgram(p, db), shownDb(added))
			}
			for _, r := range added {
				all := impl.MakeTable(slices.Concat(tables[r.Name], r.Rows))
				if len(r.Rows) == 0 || len(all) != len(tables[r.Name])+len(r.Rows) {
					t.Fatalf("%s\nNews: %s adds nothing or a row that is there", shownProgram(p, db), shownDb(added))
				}
				tables[r.Name] = all
			}
		}
		if m.Rounds != int64(len(news)) || last != len(impl.Strata(p)) {
			t.Fatalf("%s\n%d rounds, News has %d with %d last ones", shownProgram(p, db), m.Rounds, len(news), last)
		}
		for _, r := range m.Db {
			if !sameRows(r.Rows, tables[r.Name]) {
				t.Fatalf("%s\n%s in the model: %s, but by News %s", shownProgram(p, db), r.Name, shownRows(r.Rows), shownRows(tables[r.Name]))
			}
		}
	}
}

func TestRandomAtomsAreAskedAsDefined(t *testing.T) {
	g := newModeler(67)
	found := 0
	for range 20000 {
		for _, name := range plannedNames {
			g.widths[name] = g.source.Intn(4)
		}
		db, a := g.database(), g.atom()
		want := [][]impl.Value{}
		isSingle := !slices.ContainsFunc(a.Args, func(es []impl.Node) bool { return len(es) > 1 })
		for _, row := range tableIn(db, a.Name) {
			ok := isSingle && len(row) == len(a.Args)
			for i := 0; ok && i < len(row); i++ {
				n := a.Args[i][0]
				ok = n.Kind != impl.NodeConst || n.Value == row[i]
				for j := range i {
					ok = ok && (n.Kind != impl.NodeVar || a.Args[j][0].Name != n.Name || row[i] == row[j])
				}
			}
			if ok {
				want = append(want, row)
			}
		}
		found += len(want)
		if got := impl.Ask(db, a); !sameRows(got, want) {
			t.Fatalf("Ask %v of %s: %s, not %s", a, shownDb(db), shownRows(got), shownRows(want))
		}
	}
	if found < 5000 {
		t.Errorf("only %d rows found", found)
	}
}

// Promise 19: no argument makes a function panic.
func TestModelsReturnForEveryArgument(t *testing.T) {
	dbs := [][]impl.Rel{}
	for _, list := range []map[string][]impl.Rel{validDatabases(), invalidDatabases()} {
		for _, name := range slices.Sorted(maps.Keys(list)) {
			dbs = append(dbs, list[name])
		}
	}
	for i, p := range slices.Concat(wildPrograms(6000), plannedPrograms(3000), invalidPrograms(), []impl.Program{{}}) {
		db := dbs[i%len(dbs)]
		m, news, holds := impl.Model(p, db), impl.News(p, db), impl.Holds(p, db)
		bad := impl.Fault(p).Code != impl.CheckOk || !impl.DbOk(db)
		if bad && (m.Code != impl.ModelArgs || m.Db != nil || m.Rounds != 0 || news != nil || holds) {
			t.Fatalf("%v over %v: %v, %v, %v", p, db, m, news, holds)
		}
		for _, r := range p.Rules {
			impl.Ask(db, r.Head)
			for _, l := range r.Body {
				impl.Ask(db, l.Atom)
			}
		}
	}
}

// Promise 19: arguments stay as they are, results are new memory, and each
// call has the same result.
func TestModelsLeaveTheirArgumentsAlone(t *testing.T) {
	g := newModeler(68)
	for i := range 500 {
		p, db := g.valid()
		if i%4 == 0 {
			p = programOf(t, `long(X, "some text") :- label(X, Y). long(Y, Y) :- long(_, Y), extra(Y). most(max Y) :- label(_, Y). extra(Y) :- label(1, Y).`)
			db = database(relation("label", `(1, "a long text")`, `(1, "another text")`, `(2, "b b b")`), relation("long", `(1, "a third text")`), relation("other", `("a fourth text")`))
		}
		p, db = spacious(p), spareDb(db)
		atom := atomOf("a", variableNode(strings.Clone("X")), constantNode(text(strings.Clone("a"))))
		if i%4 == 0 {
			atom = atomOf("label", variableNode("X"), variableNode("Y"))
		}
		arguments := []any{p, db, atom}
		before := contents(arguments...)
		call := func() []any {
			return []any{impl.Model(p, db), impl.News(p, db), impl.Holds(p, db), impl.Ask(db, atom)}
		}
		results := call()
		for _, result := range results {
			for _, x := range arguments {
				expectOwnMemory(t, result, x)
			}
		}
		if after := contents(arguments...); before != after {
			t.Fatalf("%s became %s", before, after)
		}
		if again := call(); !reflect.DeepEqual(again, results) {
			t.Fatalf("%v, then %v", results, again)
		}
	}
}
