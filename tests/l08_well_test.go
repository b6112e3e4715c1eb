package tests

import (
	"fmt"
	"maps"
	"reflect"
	"slices"
	"strings"
	"testing"

	"loop.example/g00030/impl"
)

func expectUnder(t *testing.T, src string, db, other []impl.Rel, rounds int64, want string) {
	t.Helper()
	m := impl.Under(programOf(t, src), db, other)
	if m.Code != impl.ModelOk || m.Rounds != rounds || shownDb(m.Db) != want || !impl.DbOk(m.Db) {
		t.Errorf("Under of %s over %s with %s has the code %d and %d rounds: %s\nnot %d rounds: %s", src, shownDb(db), shownDb(other), m.Code, m.Rounds, shownDb(m.Db), rounds, want)
	}
}

// expectUnderRows checks one relation of the result of Under.
func expectUnderRows(t *testing.T, src string, db, other []impl.Rel, name string, rows ...string) {
	t.Helper()
	m := impl.Under(programOf(t, src), db, other)
	if m.Code != impl.ModelOk {
		t.Errorf("Under of %s has the code %d", src, m.Code)
	}
	expectTable(t, fmt.Sprintf("%s by Under of %s with %s", name, src, shownDb(other)), impl.RowsOf(m.Db, name), relation("", rows...).Rows)
}

func expectWell(t *testing.T, src string, db []impl.Rel, turns int64, true, unknown string) {
	t.Helper()
	p := programOf(t, src)
	w := impl.Well(p, db)
	if w.Code != impl.ModelOk || w.Turns != turns || shownDb(w.True) != true || shownDb(w.Unknown) != unknown || !impl.DbOk(w.True) || !impl.DbOk(w.Unknown) {
		t.Errorf("Well of %s over %s has the code %d and %d turns\ntrue: %s\nunknown: %s\nnot %d turns\ntrue: %s\nunknown: %s",
			src, shownDb(db), w.Code, w.Turns, shownDb(w.True), shownDb(w.Unknown), turns, true, unknown)
	}
	if got := impl.Total(p, db); got != (rowCount(w.Unknown) == 0) {
		t.Errorf("Total of %s over %s = %v", src, shownDb(db), got)
	}
}

// expectFate checks one relation: its rows that are true, and those that are
// unknown.
func expectFate(t *testing.T, src string, db []impl.Rel, turns int64, name, true, unknown string) {
	t.Helper()
	p := programOf(t, src)
	w := impl.Well(p, db)
	both := shownDb(database(impl.Rel{Name: "true", Rows: tableIn(w.True, name)}, impl.Rel{Name: "unknown", Rows: tableIn(w.Unknown, name)}))
	if want := strings.TrimSpace("true: "+true) + strings.TrimRight("; unknown: "+unknown, " "); w.Code != impl.ModelOk || w.Turns != turns || both != want {
		t.Errorf("%s in the well-founded model of %s over %s (code %d): %d turns, %s\nnot %d turns, %s", name, src, shownDb(db), w.Code, w.Turns, both, turns, want)
	}
	if got := impl.Total(p, db); got != (unknown == "") {
		t.Errorf("Total of %s over %s = %v", src, shownDb(db), got)
	}
}

// expectUnderCode checks a code with which there is no result.
func expectUnderCode(t *testing.T, name string, p impl.Program, db, other []impl.Rel, code int64) {
	t.Helper()
	if m := impl.Under(p, db, other); m.Code != code || m.Db != nil || m.Rounds != 0 {
		t.Errorf("%s: Under = %d, %d rounds, %s", name, m.Code, m.Rounds, shownDb(m.Db))
	}
}

func expectWellCode(t *testing.T, name string, p impl.Program, db []impl.Rel, code int64) {
	t.Helper()
	if w := impl.Well(p, db); w.Code != code || w.True != nil || w.Unknown != nil || w.Turns != 0 {
		t.Errorf("%s: Well = %d, %d turns, %s, %s", name, w.Code, w.Turns, shownDb(w.True), shownDb(w.Unknown))
	}
	if impl.Total(p, db) {
		t.Errorf("%s: Total = true", name)
	}
}

// expectNoWell checks that the arguments are refused, whatever other is.
func expectNoWell(t *testing.T, name string, p impl.Program, db []impl.Rel) {
	t.Helper()
	expectWellCode(t, name, p, db, impl.ModelArgs)
	for _, other := range [][]impl.Rel{nil, db, database(relation("other", "(1)"))} {
		expectUnderCode(t, name, p, db, other, impl.ModelArgs)
	}
}

const game = "win(X) :- move(X, Y), not win(Y)."

// moves returns a graph: `1-2 2-3` has the moves from 1 to 2 and from 2 to 3.
func moves(text string) []impl.Rel {
	rows := [][]impl.Value{}
	for _, move := range strings.Fields(text) {
		var from, to int64
		fmt.Sscanf(move, "%d-%d", &from, &to)
		rows = append(rows, numbers(from, to))
	}
	return database(impl.Rel{Name: "move", Rows: impl.MakeTable(rows)})
}

func TestUnderAsksOtherTables(t *testing.T) {
	db := moves("1-2 2-3 3-4")
	const edges = "move: (1, 2) (2, 3) (3, 4); "
	expectUnder(t, game, db, nil, 2, edges+"win: (1) (2) (3)")
	expectUnder(t, game, db, db, 2, edges+"win: (1) (2) (3)")
	expectUnder(t, game, db, database(relation("win")), 2, edges+"win: (1) (2) (3)")
	expectUnder(t, game, db, database(relation("win", "(3)")), 2, edges+"win: (1) (3)")
	// The tables have no win(4) and no win(2), but other has.
	expectUnder(t, game, db, database(relation("win", "(2)", "(4)", "(9)")), 2, edges+"win: (2)")
	expectUnder(t, game, db, database(relation("win", "(2)", "(3)", "(4)")), 1, edges+"win:")
	// The tables have win(2) from the beginning, but other has not.
	with := append(moves("1-2 2-3 3-4"), relation("win", "(2)"))
	expectUnder(t, game, with, nil, 2, edges+"win: (1) (2) (3)")
	expectUnder(t, game, with, with, 2, edges+"win: (2) (3)")
	// Other has no rows of the database unless it is that database.
	expectUnder(t, "p(X) :- n(X), not q(X).", database(relation("n", "(1)", "(2)"), relation("q", "(1)")), nil, 2, "n: (1) (2); p: (1) (2); q: (1)")
	expectUnder(t, "p(X) :- n(X), not q(X).", database(relation("n", "(1)", "(2)"), relation("q", "(1)")), database(relation("q", "(2)")), 2, "n: (1) (2); p: (1); q: (1)")
	expectUnder(t, "p(X) :- n(X), not q(X).", database(relation("n", "(1)", "(2)")), database(relation("n", "(3)"), relation("q", "(2)")), 2, "n: (1) (2); p: (1); q:")
}

// What other has never gets into the tables, and what it has beside the
// relations of the nots makes no difference.
func TestRelationsOfOther(t *testing.T) {
	db := moves("1-2 2-3")
	other := database(relation("a", "(1, 2, 3)"), relation("move", "(5, 6)"), relation("new", "(2)"), relation("other", "()"), relation("win", "(3)"))
	expectUnder(t, game, db, other, 2, "move: (1, 2) (2, 3); win: (1)")
	expectUnder(t, "p() :- not q().", nil, database(relation("q", "()"), relation("r", "(1)")), 1, "p:; q:")
	expectUnder(t, "", nil, other, 1, "")
	expectUnder(t, "", db, other, 1, "move: (1, 2) (2, 3)")
	for name, other := range validDatabases() {
		expectUnder(t, "z(X) :- y(X), not x(X). y(1).", nil, other, 3, "x:; y: (1); z: (1)")
		if m := impl.Under(programOf(t, ""), other, other); m.Code != impl.ModelOk || m.Rounds != 1 || shownDb(m.Db) != shownDb(other) {
			t.Errorf("%s: %d, %s", name, m.Code, shownDb(m.Db))
		}
	}
	// These names are those of ordinary relations too.
	expectUnder(t, "new(X) :- other(X), not new(X). other(X + 1) :- new(X), not other(X), X < 5.", database(relation("other", "(1)")), database(relation("new", "(2)")), 3, "new: (1); other: (1) (2)")
	expectUnder(t, "p() :- not q(), otherq(), not newq(). otherq(). newq() :- other(). newp() :- p(), not otherp().", nil, nil, 4, "newp: (); newq:; other:; otherp:; otherq: (); p: (); q:")
}

// All relations are in one stratum.
func TestRoundsOfUnder(t *testing.T) {
	expectUnder(t, "", nil, nil, 1, "")
	expectUnder(t, "rel a(int). rel b().", nil, nil, 1, "a:; b:")
	expectUnder(t, "p(X) :- q(X), not r(X).", nil, nil, 1, "p:; q:; r:")
	expectUnder(t, "p(1). p(2).", nil, nil, 2, "p: (1) (2)")
	expectUnder(t, "p(1).", database(relation("p", "(1)")), nil, 1, "p: (1)")
	expectUnder(t, pathRules, chain(), nil, 4, "edge: (1, 2) (2, 3) (3, 4); path: (1, 2) (1, 3) (1, 4) (2, 3) (2, 4) (3, 4)")
	expectUnder(t, "sink(X) :- edge(_, X), not edge(X, _).", chain(), chain(), 2, "edge: (1, 2) (2, 3) (3, 4); sink: (4)")
	// The second relation would be in a stratum of its own.
	expectUnder(t, "a(1). a(2). b(X) :- a(X), not c(X). d(X) :- b(X), not b(2).", nil, nil, 4, "a: (1) (2); b: (1) (2); c:; d: (1) (2)")
	expectUnder(t, "d(X) :- b(X), not b(2). b(X) :- a(X), not c(X). a(1). a(2).", nil, database(relation("b", "(2)"), relation("c", "(1)")), 3, "a: (1) (2); b: (2); c:; d:")
	// Each round sees the rows of the rounds before it only.
	expectUnder(t, "a(1). b(X) :- a(X), not z(X). c(X) :- b(X), not b(2). d(X) :- c(X), a(X).", nil, nil, 5, "a: (1); b: (1); c: (1); d: (1); z:")
	expectUnder(t, "even(0). even(X + 1) :- odd(X), not stop(X). odd(X + 1) :- even(X), not stop(X).", nil, database(relation("stop", "(3)")), 5, "even: (0) (2); odd: (1) (3); stop:")
}

func TestRelationsAndRowsOfUnder(t *testing.T) {
	db := database(relation("empty"), relation("extra", "(1, 2, 3)"), relation("n", "(1)"), relation("p", "(7)", `("a")`))
	expectUnder(t, "rel decl(int). p(X) :- n(X), not no(X), not empty(X, X).", db, nil, 2, `decl:; empty:; extra: (1, 2, 3); n: (1); no:; p: (1) (7) ("a")`)
	// Rows that the database has stay, and rules use them.
	expectUnder(t, "p(X - 1) :- p(X), X > 5, not n(X).", db, nil, 3, `empty:; extra: (1, 2, 3); n: (1); p: (5) (6) (7) ("a")`)
	expectUnder(t, "p(X - 1) :- p(X), X > 5, not n(X).", db, database(relation("n", "(6)"), relation("p", "(7)")), 2, `empty:; extra: (1, 2, 3); n: (1); p: (6) (7) ("a")`)
	expectUnder(t, "empty(1, 2) :- not empty(1, 2).", db, nil, 2, `empty: (1, 2); extra: (1, 2, 3); n: (1); p: (7) ("a")`)
	expectUnder(t, "p() :- not p(). q() :- p().", nil, nil, 3, "p: (); q: ()")
	expectUnder(t, "p() :- not p(). q() :- p().", nil, database(relation("p", "()")), 1, "p:; q:")
}

func TestArgumentsOfNots(t *testing.T) {
	db := database(relation("n", "(1)", "(2)", "(3)", `("a")`, "(?1)"))
	other := database(relation("e", "(1, 2)", "(2, 2)", `("a", 3)`, "(?1, ?2)"), relation("flag", "()"), relation("m", "(2)", "(4)", `("a")`, "(?1)"))
	for src, rows := range map[string][]string{
		"p(X) :- n(X), not m(X).":                {"(1)", "(3)"},
		"p(X) :- n(X), not m(X + 1).":            {"(2)", `("a")`, "(?1)"},
		"p(X) :- n(X), not m(X * 2), X < 3.":     {},
		"p(X) :- n(X), not e(X, _).":             {"(3)"},
		"p(X) :- n(X), not e(_, X).":             {"(1)", `("a")`, "(?1)"},
		"p(X) :- n(X), not e(X, X).":             {"(1)", "(3)", `("a")`, "(?1)"},
		"p(X) :- n(X), not e(X, 2).":             {"(3)", `("a")`, "(?1)"},
		`p(X) :- n(X), not e("a", X).`:           {"(1)", "(2)", `("a")`, "(?1)"},
		"p(X) :- n(X), not e(X, Y), n(Y).":       {"(1)", "(2)", "(3)", `("a")`, "(?1)"},
		"p(X) :- n(X), not e(_, _).":             {},
		"p(X) :- n(X), not m(_).":                {},
		"p(X) :- n(X), not m(2).":                {},
		"p(X) :- n(X), not m(1).":                {"(1)", "(2)", "(3)", `("a")`, "(?1)"},
		`p(X) :- n(X), not m("b"), not flag().`:  {},
		"p(X) :- n(X), not gone(X), not m(X).":   {"(1)", "(3)"},
		"p(X) :- n(X), not gone().":              {"(1)", "(2)", "(3)", `("a")`, "(?1)"},
		"p(Y) :- n(X), Y = X + 1, not m(Y).":     {"(3)"},
		"p(X) :- n(X), not n(X).":                {"(1)", "(2)", "(3)", `("a")`, "(?1)"},
		"p(X) :- not m(X), X = 3.":               {"(3)"},
		"p(X) :- not m(X), X = 4.":               {},
		"p(X + 1) :- n(X), not m(X), not p(X).":  {"(2)", "(4)"},
		"p(X) :- n(X), not m(1000000000 + X).":   {"(1)", "(2)", "(3)", `("a")`, "(?1)"},
		"p(X) :- not flag(), n(X).":              {},
		"p(X) :- not flag(), not flag(), X = 1.": {},
	} {
		expectUnderRows(t, src, db, other, "p", rows...)
	}
	// Without rows in other, the rules above have no conditions by a not.
	expectUnderRows(t, "p(X) :- n(X), not e(_, _), not m(X), not flag(), not n(X), not p(X).", db, nil, "p", "(1)", "(2)", "(3)", `("a")`, "(?1)")
}

// A new row may lead to several solutions with one not, also in later rounds.
func TestNotsOfRulesThatDependOnThemselves(t *testing.T) {
	db := append(moves("1-2 2-3 3-4 4-5 2-5 5-6"), relation("start", "(1)"))
	const reach = "r(X) :- start(X), not r(2). r(Y) :- r(X), move(X, Y), not bad(Y). far(Y) :- r(X), r(Y), not move(X, Y), X != Y, X < 2."
	expectUnderRows(t, reach, db, nil, "r", "(1)", "(2)", "(3)", "(4)", "(5)", "(6)")
	expectUnderRows(t, reach, db, database(relation("bad", "(3)", "(6)")), "r", "(1)", "(2)", "(5)")
	expectUnderRows(t, reach, db, database(relation("bad", "(2)")), "r", "(1)")
	expectUnderRows(t, reach, db, database(relation("r", "(2)")), "r")
	expectUnderRows(t, reach, db, db, "far", "(3)", "(4)", "(5)", "(6)")
	expectUnderRows(t, reach, db, nil, "far", "(2)", "(3)", "(4)", "(5)", "(6)")
}

func TestGames(t *testing.T) {
	expectFate(t, game, moves(""), 1, "win", "", "")
	expectFate(t, game, moves("1-2"), 2, "win", "(1)", "")
	expectFate(t, game, moves("1-2 2-3"), 2, "win", "(2)", "")
	expectFate(t, game, moves("1-2 2-3 3-4"), 3, "win", "(1) (3)", "")
	expectFate(t, game, moves("1-2 2-3 3-4 4-5"), 3, "win", "(2) (4)", "")
	expectFate(t, game, moves("1-2 2-3 3-4 4-5 5-6 6-7 7-8"), 5, "win", "(1) (3) (5) (7)", "")
	// Cycles of even and of odd length.
	expectFate(t, game, moves("1-1"), 1, "win", "", "(1)")
	expectFate(t, game, moves("1-2 2-1"), 1, "win", "", "(1) (2)")
	expectFate(t, game, moves("1-2 2-3 3-1"), 1, "win", "", "(1) (2) (3)")
	expectFate(t, game, moves("1-2 2-3 3-4 4-1"), 1, "win", "", "(1) (2) (3) (4)")
	// A line beside a cycle, and lines to and from cycles.
	expectFate(t, game, moves("1-2 2-3 4-5 5-4"), 2, "win", "(2)", "(4) (5)")
	expectFate(t, game, moves("1-2 2-1 2-3"), 2, "win", "(2)", "")
	expectFate(t, game, moves("1-2 2-3 3-1 3-4"), 3, "win", "(1) (3)", "")
	expectFate(t, game, moves("1-2 2-1 2-3 3-4"), 2, "win", "(3)", "(1) (2)")
	expectFate(t, game, moves("0-1 1-2 2-1 5-0 5-6"), 2, "win", "(5)", "(0) (1) (2)")
	expectFate(t, game, moves("1-2 2-3 3-1 3-4 4-5 2-2"), 2, "win", "(4)", "(1) (2) (3)")
	expectFate(t, game, moves("1-1 1-2"), 2, "win", "(1)", "")
	// A move that is there for several reasons, and a row of the database.
	expectFate(t, game, append(moves("1-2 2-1"), relation("win", "(1)")), 1, "win", "(1)", "")
	expectFate(t, game, append(moves("1-2 2-3"), relation("win", "(3)")), 2, "win", "(1) (3)", "")
	expectFate(t, game+"win(7). win(X) :- move(X, X).", moves("1-1 2-1 3-2 7-8"), 3, "win", "(1) (3) (7)", "")
	expectWell(t, game, moves("1-2 2-3 4-5 5-4"), 2, "move: (1, 2) (2, 3) (4, 5) (5, 4); win: (2)", "move:; win: (4) (5)")
	expectWell(t, game, nil, 1, "move:; win:", "move:; win:")
}

func TestRelationsThatDenyEachOther(t *testing.T) {
	expectWell(t, "p() :- not q(). q() :- not p().", nil, 1, "p:; q:", "p: (); q: ()")
	expectWell(t, "p() :- not p().", nil, 1, "p:", "p: ()")
	expectWell(t, "p() :- not p().", database(relation("p", "()")), 1, "p: ()", "p:")
	expectWell(t, "p() :- not q(). q() :- not p(). q().", nil, 2, "p:; q: ()", "p:; q:")
	expectWell(t, "p() :- not q(). q() :- not p(). r() :- p(). r() :- q(). s() :- not r().", nil, 1, "p:; q:; r:; s:", "p: (); q: (); r: (); s: ()")
	expectWell(t, "p() :- not q(), not r(). q() :- not p(). r() :- not s().", nil, 3, "p:; q: (); r: (); s:", "p:; q:; r:; s:")
	expectWell(t, "a(X) :- n(X), not b(X). b(X) :- n(X), not a(X). b(X) :- m(X). c(X) :- n(X), not b(X).",
		database(relation("m", "(2)", "(4)"), relation("n", "(1)", "(2)", "(3)")), 2,
		"a:; b: (2) (4); c:; m: (2) (4); n: (1) (2) (3)", "a: (1) (3); b: (1) (3); c: (1) (3); m:; n:")
	// Three relations that each ask for the absence of the next one.
	expectWell(t, "p() :- not q(). q() :- not r(). r() :- not p().", nil, 1, "p:; q:; r:", "p: (); q: (); r: ()")
	expectWell(t, "p() :- not q(). q() :- not r(). r() :- not s().", nil, 3, "p: (); q:; r: (); s:", "p:; q:; r:; s:")
	// What only supports itself is false, so that its absence is true.
	expectWell(t, "p() :- p(). q() :- not p(). r() :- not q().", nil, 2, "p:; q: (); r:", "p:; q:; r:")
	expectWell(t, "p() :- q(), not r(). q() :- p(). r() :- not s(). s() :- not r(), p().", nil, 2, "p:; q:; r: (); s:", "p:; q:; r:; s:")
	// The unknown rows of a rule with several conditions.
	expectWell(t, "p() :- not p(). q() :- p(), r(). s() :- p(), not r(). t() :- p(), not p(). u() :- not q().", nil, 2,
		"p:; q:; r:; s:; t:; u: ()", "p: (); q:; r:; s: (); t: (); u:")
}

// The turns are those by which low is computed. A relation that the database
// does not have is equal to one without rows.
func TestTurns(t *testing.T) {
	expectWell(t, "", nil, 1, "", "")
	expectWell(t, "", chain(), 1, "edge: (1, 2) (2, 3) (3, 4)", "edge:")
	expectWell(t, "rel a(). rel b(int).", database(relation("c", "(1)")), 1, "a:; b:; c: (1)", "a:; b:; c:")
	expectWell(t, "p(X) :- q(X), not r(X).", nil, 1, "p:; q:; r:", "p:; q:; r:")
	expectWell(t, "p(X) :- q(X), not r(X).", database(relation("q", "(1)"), relation("r", "(1)")), 1, "p:; q: (1); r: (1)", "p:; q:; r:")
	expectWell(t, "p(X) :- q(X), not r(X).", database(relation("q", "(1)")), 2, "p: (1); q: (1); r:", "p:; q:; r:")
	expectWell(t, "p(X) :- q(X), not r(X).", database(relation("p", "(1)"), relation("q", "(1)")), 1, "p: (1); q: (1); r:", "p:; q:; r:")
	expectWell(t, "p(1). p(2).", nil, 2, "p: (1) (2)", "p:")
	expectWell(t, pathRules, chain(), 2, "edge: (1, 2) (2, 3) (3, 4); path: (1, 2) (1, 3) (1, 4) (2, 3) (2, 4) (3, 4)", "edge:; path:")
	expectWell(t, "p(1). q(X) :- p(X), not r(X). r(X) :- p(X), not s(X). s(X) :- p(X), not q(X).", nil, 2, "p: (1); q:; r:; s:", "p:; q: (1); r: (1); s: (1)")
	for n, turns := range map[int64]int64{1: 2, 2: 2, 9: 6, 10: 6, 61: 32, 150: 76} {
		w := impl.Well(programOf(t, game), database(impl.Rel{Name: "move", Rows: rowsTo(n)}))
		if w.Code != impl.ModelOk || w.Turns != turns || rowCount(w.Unknown) != 0 || int64(len(tableIn(w.True, "win"))) != (n+1)/2 {
			t.Errorf("a line of %d moves: %d, %d turns", n, w.Code, w.Turns)
		}
	}
}

func TestStratifiedProgramsAreTotal(t *testing.T) {
	const src = "apart(X, Y) :- node(X), node(Y), not path(X, Y). node(X) :- edge(X, _). node(X) :- edge(_, X). lone(X) :- node(X), not near(X). near(X) :- apart(Y, X), not apart(X, Y). " + pathRules
	m, w := impl.Model(programOf(t, src), chain()), impl.Well(programOf(t, src), chain())
	if w.Code != impl.ModelOk || shownDb(w.True) != shownDb(m.Db) || rowCount(w.Unknown) != 0 || w.Turns != 3 {
		t.Errorf("%d turns, true: %s; unknown: %s; not %s", w.Turns, shownDb(w.True), shownDb(w.Unknown), shownDb(m.Db))
	}
	expectFate(t, "sink(X) :- edge(_, X), not edge(X, _). inner(X) :- edge(_, X), not sink(X).", chain(), 2, "inner", "(2) (3)", "")
	expectFate(t, "p(X) :- n(X), not q(X). q(X) :- n(X), not r(X), X < 3. r(X) :- n(X), n(X + 1), X != 2.", database(relation("n", "(1)", "(2)", "(3)", `("a")`)), 3, "p", `(1) (3) ("a")`, "")
}

// Tests and expressions in rules that depend on their own negation.
func TestWellWithTestsAndExpressions(t *testing.T) {
	n := database(relation("n", "(0)", "(1)", "(2)", "(3)", "(4)", "(5)", "(6)", "(7)"))
	// Take one or two stones; who takes the last one wins.
	expectFate(t, "win(X) :- n(X), X > 0, not win(X - 1). win(X) :- n(X), X > 1, not win(X - 2).", n, 4, "win", "(1) (2) (4) (5) (7)", "")
	expectFate(t, "win(X) :- n(X), Y = X - 1, Y >= 0, not win(Y). win(X) :- n(X), Y = 7 - X, not win(Y), X != 0.", n, 2, "win", "(1) (7)", "(2) (3) (4) (5) (6)")
	expectFate(t, "p(X) :- n(X), not p(7 - X).", n, 1, "p", "", "(0) (1) (2) (3) (4) (5) (6) (7)")
	expectFate(t, "p(X) :- n(X), not p(7 - X), X < 4.", n, 2, "p", "(0) (1) (2) (3)", "")
	expectFate(t, "p(X) :- n(X), not p(_).", n, 1, "p", "", "(0) (1) (2) (3) (4) (5) (6) (7)")
	expectFate(t, "p(X) :- n(X), not p(3).", n, 1, "p", "", "(0) (1) (2) (3) (4) (5) (6) (7)")
	expectFate(t, "p(X) :- n(X), X != 3, not p(3).", n, 2, "p", "(0) (1) (2) (4) (5) (6) (7)", "")
	expectFate(t, "p(X + 1) :- p(X), not q(X), X < 9. p(0). q(X) :- p(X), X = 4. q(6).", n, 2, "p", "(0) (1) (2) (3) (4)", "")
	// A not over an expression without a value holds.
	mixed := database(relation("n", "(1)", "(2)", `("a")`, "(?1)"))
	expectFate(t, "p(X) :- n(X), not p(X + 1).", mixed, 2, "p", `(2) ("a") (?1)`, "")
	expectFate(t, `p(X, "on") :- n(X), not p(X, "off"). p(X, "off") :- n(X), not p(X, "on"), X > 1.`, mixed, 2, "p", `(1, "on")`, `(2, "off") (2, "on") ("a", "off") ("a", "on") (?1, "off") (?1, "on")`)
}

func TestProgramsWithFaultsHaveNoWellFoundedModel(t *testing.T) {
	db := append(chain(), relation("p", "(1)"))
	codes := map[int64]int{}
	for _, src := range []string{
		"p(1). p(1, 2).", "rel p(). p(1).", "q() :- edge(X), edge(X, X).", "q(X) :- edge(X, Y), not edge(X).",
		"p(X) :- edge(Y, _).", "p(_).", "p(X) :- edge(X, Y), not q(Z).", "p(1). p(X).", "p(X) :- not p(X).", "p(X) :- edge(X, Y), not p(_ + 1).",
		`rel p(int). p("a").`, "rel p(text). p(X + 1) :- edge(X, _), not p(X).", "rel a(int). rel b(text). q(X) :- a(X), b(X).", `rel p(int). p(X) :- edge(X, _), not p("a").`,
	} {
		p := programOf(t, src)
		codes[impl.Fault(p).Code]++
		expectNoWell(t, src, p, db)
		expectNoWell(t, src, p, nil)
	}
	for i, p := range invalidPrograms() {
		codes[impl.Fault(p).Code]++
		expectNoWell(t, fmt.Sprint("invalid program ", i), p, db)
		expectNoWell(t, fmt.Sprint("invalid program ", i), p, nil)
	}
	for code := int64(impl.CheckForm); code <= impl.CheckType; code++ {
		if codes[code] < 4 {
			t.Errorf("only %d programs with the code %d", codes[code], code)
		}
	}
	if codes[impl.CheckOk] != 0 || codes[impl.CheckStrata] != 0 {
		t.Errorf("programs without a fault, or with one that is allowed: %v", codes)
	}
}

func TestAggregatesHaveNoWellFoundedModel(t *testing.T) {
	for _, src := range []string{
		"p(count) :- n(X).", "p(sum X) :- n(X).", "p(min X) :- n(X).", "p(max X) :- n(X).", "p(1). q(2, max X) :- n(X).", "p(max 1).",
		"p(count) :- p(X).", "p(max X) :- p(X).", "p(sum X) :- n(X), not p(X).", "q(X) :- n(X), not q(X). p(count) :- n(X).", "p(count) :- n(X). q(X) :- n(X), not q(X).",
	} {
		p := programOf(t, src)
		if code := impl.Fault(p).Code; code != impl.CheckOk && code != impl.CheckStrata {
			t.Errorf("%s has the code %d", src, code)
		}
		expectNoWell(t, src, p, nil)
		expectNoWell(t, src, p, database(relation("n", "(1)")))
	}
}

func TestListsThatAreNoDatabasesHaveNoWellFoundedModel(t *testing.T) {
	for name, list := range invalidDatabases() {
		for _, src := range []string{"", "p(1).", "rel a(int).", "p(X) :- a(X).", "p(X) :- n(X), not a(X).", "a(X) :- p(X), not a(X)."} {
			p := programOf(t, src)
			expectNoWell(t, name+": "+src, p, list)
			expectUnderCode(t, name+" as other: "+src, p, nil, list, impl.ModelArgs)
			expectUnderCode(t, name+" as other: "+src, p, database(relation("n", "(1)")), list, impl.ModelArgs)
		}
	}
	for name, db := range validDatabases() {
		w := impl.Well(programOf(t, ""), db)
		if w.Code != impl.ModelOk || w.Turns != 1 || shownDb(w.True) != shownDb(db) || len(w.Unknown) != len(db) || rowCount(w.Unknown) != 0 || !impl.Total(programOf(t, ""), db) {
			t.Errorf("%s: %d, %d turns, %s, %s", name, w.Code, w.Turns, shownDb(w.True), shownDb(w.Unknown))
		}
	}
}

func TestRowsOfAnotherWidthHaveNoWellFoundedModel(t *testing.T) {
	n, w := relation("n", "(1)"), relation("w", "(1, 2)")
	for _, src := range []string{
		"rel w(int).", "rel w().", "rel w(any, any, any).", "w(1).", "w().", "w(1, 2, 3).", "p(X) :- w(X).", "p(X) :- n(X), not w(X).",
		"p(X) :- n(X), not w(_, _, _).", "p() :- w().", "w(X) :- n(X), not w(X).", "p(1). q(X) :- p(X), w(X).", "w(X) :- w(X).",
	} {
		p := programOf(t, src)
		expectNoWell(t, src, p, database(n, w))
		expectUnderCode(t, "other: "+src, p, nil, database(w), impl.ModelArgs)
		expectUnderCode(t, "other: "+src, p, database(n), database(n, w), impl.ModelArgs)
		expectUnderCode(t, "db: "+src, p, database(w), database(n), impl.ModelArgs)
	}
	none := relation("none")
	for _, src := range []string{"rel none(int, text).", "none(1, 2, 3).", "p(X) :- none(X, X, X, X).", "p(X) :- n(X), not none().", "rel w(text, text).", "w(X, X) :- n(X), not w(X, X).", "p(X) :- n(X), not p(X).", ""} {
		p, db := programOf(t, src), database(n, none, w)
		for _, other := range [][]impl.Rel{nil, db, database(none), database(w), database(relation("z", "(1, 2)"))} {
			if m := impl.Under(p, db, other); m.Code != impl.ModelOk {
				t.Errorf("%s with %s: the code is %d", src, shownDb(other), m.Code)
			}
		}
		if w := impl.Well(p, db); w.Code != impl.ModelOk {
			t.Errorf("%s: the code is %d", src, w.Code)
		}
	}
}

// The arguments are looked at before the limits.
func TestWellArgumentsBeforeLimits(t *testing.T) {
	nine := "q(X) :- a(A, B, C, D, E, F, G, H), X = 1. "
	expectNoWell(t, "nine variables and a fault", programOf(t, nine+"p(X)."), nil)
	expectNoWell(t, "nine variables and an aggregate", programOf(t, nine+"p(max 1)."), nil)
	expectNoWell(t, "nine variables and another width", programOf(t, nine), database(relation("a", "(1)")))
	expectUnderCode(t, "nine variables and another width in other", programOf(t, nine), nil, database(relation("a", "(1)")), impl.ModelArgs)
	expectUnderCode(t, "nine variables and an invalid other", programOf(t, nine), nil, database(relation("a"), relation("a")), impl.ModelArgs)
	expectNoWell(t, "many relations and a fault", rules(append(relNames(impl.MaxRels).Rules, ruleOf(atomOf("z", variableNode("X"))))...), namedRels(impl.MaxRels))
	expectUnderCode(t, "many relations and an invalid other", relNames(impl.MaxRels), namedRels(impl.MaxRels), database(relation("z"), relation("a")), impl.ModelArgs)
}

// expectBig checks that there are too many for Well, and for Under with each
// of the others.
func expectBig(t *testing.T, src string, db []impl.Rel, others ...[]impl.Rel) {
	t.Helper()
	p := programOf(t, src)
	expectWellCode(t, src, p, db, impl.ModelBig)
	for _, other := range append(others, db) {
		expectUnderCode(t, src+" with "+shownDb(other), p, db, other, impl.ModelBig)
	}
}

func TestMaxRelsOfTheWellFoundedModel(t *testing.T) {
	others := append(namedRels(impl.MaxRels-1), relation("z", "(1)"))
	for _, ofProgram := range []int{0, 1, 30, impl.MaxRels} {
		p, db := relNames(ofProgram), namedRels(impl.MaxRels-ofProgram)
		if m := impl.Under(p, db, others); m.Code != impl.ModelOk || len(m.Db) != impl.MaxRels || !impl.DbOk(m.Db) {
			t.Errorf("%d relations of the program: %d, %d relations", ofProgram, m.Code, len(m.Db))
		}
		if w := impl.Well(p, db); w.Code != impl.ModelOk || len(w.True) != impl.MaxRels || len(w.Unknown) != impl.MaxRels || !impl.Total(p, db) {
			t.Errorf("%d relations of the program: %d, %d and %d relations", ofProgram, w.Code, len(w.True), len(w.Unknown))
		}
		more := relNames(ofProgram + 1)
		expectUnderCode(t, fmt.Sprint("MaxRels + 1 relations, ", ofProgram+1, " of the program"), more, db, nil, impl.ModelBig)
		expectWellCode(t, fmt.Sprint("MaxRels + 1 relations, ", ofProgram+1, " of the program"), more, db, impl.ModelBig)
	}
	// Relations of a not and those that are only declared count too.
	db := namedRels(impl.MaxRels)
	expectBig(t, "r001() :- not z().", db, nil)
	expectBig(t, "rel z(int).", db, nil, others)
	expectBig(t, "r001() :- z().", db, nil)
	p := programOf(t, "rel r010(). r001() :- not r002(). r002() :- r003(), not r001().")
	if w := impl.Well(p, db); w.Code != impl.ModelOk || len(w.True) != impl.MaxRels || w.Turns != 2 {
		t.Errorf("relations of both: %d, %d relations", w.Code, len(w.True))
	}
}

func TestMaxRowsOfTheWellFoundedModel(t *testing.T) {
	const most = impl.MaxRows
	db := database(impl.Rel{Name: "n", Rows: countTo(most)}, impl.Rel{Name: "p", Rows: countTo(most - 1)})
	for _, src := range []string{
		"p(X) :- n(X), not gone(X).",
		fmt.Sprint("p(", most, ") :- not gone()."),
		fmt.Sprint("p(X + 1) :- p(X), X < ", most-1, ", not gone(X)."),
	} {
		p := programOf(t, src)
		if m := impl.Under(p, db, nil); m.Code != impl.ModelOk || len(impl.RowsOf(m.Db, "p")) != most {
			t.Errorf("MaxRows rows by %s: the code is %d", src, m.Code)
		}
		if w := impl.Well(p, db); w.Code != impl.ModelOk || len(impl.RowsOf(w.True, "p")) != most || w.Turns != 2 {
			t.Errorf("MaxRows rows by %s: the code of Well is %d", src, w.Code)
		}
	}
	for _, src := range []string{
		"p(X) :- n(X), not gone(X). p(-1).",
		"p(X + 1) :- n(X), not gone(X).",
		fmt.Sprint("n(", most, ") :- not gone()."),
		"p(X) :- n(X). p(X - 1) :- p(X), not gone(X).",
	} {
		expectBig(t, src, db, nil)
	}
	// Whether there are too many rows depends on other.
	p := programOf(t, "p(X + 1) :- n(X), not q(X).")
	expectUnderCode(t, "no other", p, db, nil, impl.ModelBig)
	if m := impl.Under(p, db, database(impl.Rel{Name: "q", Rows: lastTwo(most - 1)})); m.Code != impl.ModelOk || len(impl.RowsOf(m.Db, "p")) != most-1 {
		t.Errorf("the last one is in other: the code is %d", m.Code)
	}
	// The rows of high may be too many, even if those of the model are not.
	expectWellCode(t, "too many rows of high", programOf(t, "p(X + 1) :- n(X), not q(X). q(X) :- n(X)."), db, impl.ModelBig)
}

// lastTwo returns rows of the two numbers up to last.
func lastTwo(last int64) [][]impl.Value {
	return [][]impl.Value{numbers(last - 1), numbers(last)}
}

func TestMostRoundsOfTheWellFoundedModel(t *testing.T) {
	up := func(last int) string {
		return fmt.Sprintf("up(0). up(X + 1) :- up(X), X < %d, not gone(X). ", last)
	}
	const last = impl.MaxRounds - 2
	p := programOf(t, up(last))
	if m := impl.Under(p, nil, nil); m.Code != impl.ModelOk || m.Rounds != impl.MaxRounds {
		t.Errorf("MaxRounds rounds: %d, %d rounds", m.Code, m.Rounds)
	}
	if w := impl.Well(p, nil); w.Code != impl.ModelOk || len(impl.RowsOf(w.True, "up")) != last+1 || w.Turns != 2 || !impl.Total(p, nil) {
		t.Errorf("MaxRounds rounds: the code of Well is %d", w.Code)
	}
	expectBig(t, up(last+1), nil, database(relation("up", "(1)")))
	expectBig(t, "up(0). up(X + 1) :- up(X), not gone(X).", nil, database(relation("gone", "(201)")))
	if m := impl.Under(programOf(t, up(last+1)), nil, database(relation("gone", fmt.Sprintf("(%d)", last)))); m.Code != impl.ModelOk || m.Rounds != impl.MaxRounds {
		t.Errorf("other ends the rounds: %d, %d rounds", m.Code, m.Rounds)
	}
	// The rounds of all relations count, as they are in one stratum.
	two := up(last-1) + fmt.Sprintf("top(X) :- up(X), X = %d, not up(-1). ", last-1)
	if m := impl.Under(programOf(t, two), nil, nil); m.Code != impl.ModelOk || m.Rounds != impl.MaxRounds || len(impl.RowsOf(m.Db, "top")) != 1 {
		t.Errorf("MaxRounds rounds of two relations: %d, %d rounds", m.Code, m.Rounds)
	}
	if m := impl.Model(programOf(t, two+"last(X) :- top(X), not up(-1)."), nil); m.Code != impl.ModelOk {
		t.Errorf("two strata: %d", m.Code)
	}
	expectBig(t, two+"last(X) :- top(X), not up(-1).", nil)
	// Low needs many rounds, high only two.
	steps := "up(0). up(X + 1) :- up(X), X < %d. up(X) :- n(X), not slow(X). slow(X) :- n(X)."
	n := func(count int) []impl.Rel { return database(impl.Rel{Name: "n", Rows: countTo(count)}) }
	if w := impl.Well(programOf(t, fmt.Sprintf(steps, last)), n(last+1)); w.Code != impl.ModelOk || len(impl.RowsOf(w.True, "up")) != last+1 || w.Turns != 2 {
		t.Errorf("MaxRounds rounds of low: %d", w.Code)
	}
	slow := programOf(t, fmt.Sprintf(steps, last+1))
	if m := impl.Under(slow, n(last+2), n(last+2)); m.Code != impl.ModelOk || m.Rounds != 2 {
		t.Errorf("rounds of high: %d, %d rounds", m.Code, m.Rounds)
	}
	expectWellCode(t, "MaxRounds + 1 rounds of low", slow, n(last+2), impl.ModelBig)
	expectWellCode(t, "MaxRounds + 1 rounds of high", slow, append(n(last+2), impl.Rel{Name: "slow", Rows: countTo(last + 2)}), impl.ModelBig)
}

// Under always begins with the database, also if an earlier low has some of the
// rows already: up to 100, as high has gate(100) in the first turn.
func TestRoundsOfLaterTurns(t *testing.T) {
	const steps = "up(0). up(X + 1) :- up(X), X < %d, not gate(X). up(X) :- n(X), not slow(). "
	for name, rest := range map[string]string{
		"high": "slow(). gate(100) :- not gate(100).",
		"low":  "slow() :- not slow(). gate(100) :- not shut(). shut().",
	} {
		n := database(impl.Rel{Name: "n", Rows: countTo(251)})
		p := programOf(t, fmt.Sprintf(steps, impl.MaxRounds-2)+rest)
		if w := impl.Well(p, n); w.Code != impl.ModelOk || len(tableIn(w.True, "up")) < 100 {
			t.Errorf("MaxRounds rounds of the second %s: %d, %s", name, w.Code, shownDb(w.True))
		}
		p = programOf(t, fmt.Sprintf(steps, impl.MaxRounds-1)+rest)
		expectWellCode(t, "MaxRounds + 1 rounds of the second "+name, p, n, impl.ModelBig)
	}
}

func TestMostVariablesOfTheWellFoundedModel(t *testing.T) {
	db := database(relation("a", "(1, 2, 3, 4)"), relation("b", "(5, 6, 7, 8)"), relation("c", "(9)"))
	expectFate(t, "p(A, H) :- a(A, B, C, D), b(E, F, G, H), not p(H, A), c(_).", db, 2, "p", "(1, 8)", "")
	const nine = "a(A, B, C, D), b(E, F, G, H), c(I)"
	for _, src := range []string{
		"p() :- " + nine + ".",
		"p() :- not p(), " + nine + ".",
		"p(A) :- a(A, B, C, D), b(E, F, G, H), I = 1, not p(A).",
		"q() :- not q(). p(A) :- not c(I), " + nine + ".",
	} {
		expectBig(t, src, db, nil)
		expectBig(t, src, nil, db)
	}
}

func TestMostSolutionsOfTheWellFoundedModel(t *testing.T) {
	db := pairs()
	const grow = "p(X) :- n(X), a(X, Y), b(X, Z), not off(X, Y). "
	for src, want := range map[string]string{
		"n(1).": "(1)", "n(2).": "(2)", "n(2). n(3) :- n(2). n(1) :- n(4).": "(2)", "n(1). n(2) :- n(3), not n(1).": "(1)",
	} {
		expectFate(t, grow+src, db, 2, "p", want, "")
	}
	for _, src := range []string{"n(1). n(2).", "n(1). n(3) :- n(1). n(2) :- n(3).", "n(2). n(3) :- n(2). n(1) :- n(3)."} {
		expectBig(t, grow+src, db, nil, database(relation("off", "(3, 0)")))
		expectUnderRows(t, grow+src, db, database(relation("off", "(1, 49)")), "p", "(1)", "(2)")
	}
	expectBig(t, "p() :- full(X), full(Y), not full(-1).", db, nil)
	// Solutions that a not excludes do not count.
	expectUnderRows(t, "p() :- full(X), full(Y), not q(X).", db, database(impl.Rel{Name: "q", Rows: countTo(impl.MaxRows)[1:]}), "p", "()")
	expectUnderCode(t, "one more solution", programOf(t, "p() :- full(X), full(Y), not q(X)."), db, database(impl.Rel{Name: "q", Rows: countTo(impl.MaxRows)[2:]}), impl.ModelBig)
	expectWellCode(t, "too many solutions of high", programOf(t, "p() :- full(X), full(Y), not q(X). q(X) :- full(X)."), db, impl.ModelBig)
}

// A program with MaxRules rules, each of which asks for the absence of the
// next one's row.
func TestMaxRulesOfTheWellFoundedModel(t *testing.T) {
	var p, named impl.Program
	for i := range impl.MaxRules {
		at := func(n int) impl.Atom { return atomOf("p", constantNode(number(int64(n)))) }
		p.Rules = append(p.Rules, ruleOf(at(i), notLit(at(i+1))))
		name := func(n int) impl.Atom { return atomOf(fmt.Sprintf("p%02d", min(n, impl.MaxRels-1))) }
		named.Rules = append(named.Rules, ruleOf(name(i), notLit(name(i+1))))
	}
	w := impl.Well(p, nil)
	if w.Code != impl.ModelOk || w.Turns != impl.MaxRules/2+1 || len(w.True[0].Rows) != impl.MaxRules/2 || rowCount(w.Unknown) != 0 {
		t.Errorf("one relation: %d, %d turns, %s", w.Code, w.Turns, shownDb(w.True))
	}
	// The last relation denies itself, and so none is known.
	w = impl.Well(named, nil)
	if w.Code != impl.ModelOk || w.Turns != 1 || rowCount(w.True) != 0 || rowCount(w.Unknown) != impl.MaxRels || impl.Total(named, nil) {
		t.Errorf("MaxRels relations: %d, %d turns, %s", w.Code, w.Turns, shownDb(w.True))
	}
	named.Rules = named.Rules[:impl.MaxRels-1]
	w = impl.Well(named, nil)
	if w.Code != impl.ModelOk || w.Turns != impl.MaxRels/2+1 || rowCount(w.True) != impl.MaxRels/2 || rowCount(w.Unknown) != 0 || !impl.Total(named, nil) {
		t.Errorf("MaxRels - 1 rules: %d, %d turns, %s", w.Code, w.Turns, shownDb(w.True))
	}
	one := p.Rules[0]
	p.Rules = append(p.Rules, one)
	expectNoWell(t, "MaxRules + 1 rules", p, nil)
	body := slices.Repeat([]impl.Lit{notLit(atomOf("p", constantNode(number(7))))}, impl.MaxBody)
	if w := impl.Well(rules(ruleOf(atomOf("q"), body...)), nil); w.Code != impl.ModelOk || shownDb(w.True) != "p:; q: ()" {
		t.Errorf("MaxBody nots: %d, %s", w.Code, shownDb(w.True))
	}
}

// The following functions repeat the definitions of the chapter, to be
// compared with the program's results.

// expectedUnder finds the solutions without the nots, and asks these then. It
// returns false if the program would take too long.
func expectedUnder(p impl.Program, db, other []impl.Rel) ([]impl.Rel, int64, bool) {
	rows := map[string]map[string][]impl.Value{}
	for name := range expectedWidths(p) {
		rows[name] = map[string][]impl.Value{}
	}
	for _, r := range db {
		rows[r.Name] = map[string][]impl.Value{}
		for _, row := range r.Rows {
			rows[r.Name][impl.ShowRow(row)] = row
		}
	}
	tables := func() []impl.Rel {
		list := []impl.Rel{}
		for _, name := range slices.Sorted(maps.Keys(rows)) {
			list = append(list, impl.Rel{Name: name, Rows: sortedRows(rows[name])})
		}
		return list
	}
	for rounds := int64(1); rounds < 40; rounds++ {
		before := tables()
		if tooMany(p, before) {
			return nil, 0, false
		}
		for _, r := range p.Rules {
			for _, row := range underHeads(r, before, other) {
				rows[r.Head.Name][impl.ShowRow(row)] = row
			}
		}
		if after := tables(); rowCount(after) == rowCount(before) {
			return after, rounds, true
		}
	}
	return nil, 0, false
}

func underHeads(r impl.Rule, tables, other []impl.Rel) [][]impl.Value {
	isNot := func(l impl.Lit) bool { return l.Kind == impl.LitNot }
	without := r
	without.Body = slices.DeleteFunc(slices.Clone(r.Body), isNot)
	found := slices.DeleteFunc(expectedSolutions(without, tables), func(values []impl.Value) bool {
		a := assignment{}
		for i, name := range impl.VarsOf(without) {
			a[name] = values[i]
		}
		return slices.ContainsFunc(r.Body, func(l impl.Lit) bool { return isNot(l) && hasMatch(l.Atom, other, a) })
	})
	return expectedHeads(without, found)
}

// expectedWell writes out the definition of Well.
func expectedWell(p impl.Program, db []impl.Rel) (impl.Wellness, bool) {
	low := db
	for turns := int64(1); ; turns++ {
		high, _, ok := expectedUnder(p, db, low)
		if !ok {
			return impl.Wellness{}, false
		}
		next, _, ok := expectedUnder(p, db, high)
		if !ok {
			return impl.Wellness{}, false
		}
		same := true
		unknown := []impl.Rel{}
		for i, r := range next {
			same = same && shownRows(r.Rows) == shownRows(tableIn(low, r.Name))
			rest := slices.DeleteFunc(slices.Clone(high[i].Rows), func(row []impl.Value) bool { return impl.HasRow(r.Rows, row) })
			unknown = append(unknown, impl.Rel{Name: r.Name, Rows: rest})
		}
		if same {
			return impl.Wellness{True: next, Unknown: unknown, Turns: turns}, true
		}
		low = next
	}
}

// A denier makes random programs without aggregates, most of which depend on
// their own negation.
type denier struct {
	modeler
}

func newDenier(seed int64) denier { return denier{newModeler(seed)} }

// denial makes relations of width 2 depend on each other's absence, mostly
// as the positions of a game do.
func (g denier) denial() impl.Rule {
	r := g.chainRule()
	if g.chance(70) {
		r.Body = []impl.Lit{atomLit(atomOf("c", variableNode("X"), variableNode("Y")))}
	}
	args := [][][]impl.Node{
		{variableNode("Y"), anyNode()}, {variableNode("Y"), anyNode()}, {variableNode("Y"), variableNode("X")},
		{variableNode("X"), variableNode("Y")}, {variableNode("Y"), constantNode(number(1))}, {anyNode(), variableNode("X")},
	}[g.source.Intn(6)]
	not := notLit(atomOf(plannedNames[g.source.Intn(3)], args...))
	return ruleOf(r.Head, slices.Insert(r.Body, g.source.Intn(len(r.Body)+1), not)...)
}

func (g denier) program() (impl.Program, []impl.Rel) {
	for _, name := range plannedNames {
		g.widths[name] = 2
		if g.chance(30) && name != "c" {
			g.widths[name] = g.source.Intn(3)
		}
	}
	var p impl.Program
	denials := 20 + 20*g.source.Intn(4)
	for most, tries := 1+g.source.Intn(7), 0; len(p.Rules) < most && tries < 60; tries++ {
		r := g.rule()
		if g.chance(denials) {
			r = g.denial()
		}
		code := impl.Fault(rules(r)).Code
		if (code == impl.CheckOk || code == impl.CheckStrata) && strings.Join(r.Aggs, "") == "" && g.fits(r) && len(r.Head.Args) == g.widths[r.Head.Name] {
			p.Rules = append(p.Rules, r)
		}
	}
	if g.chance(30) {
		p.Decls = []impl.Decl{{Name: "bB", Types: slices.Repeat([]string{"any"}, g.widths["bB"])}, {Name: "extra"}}
	}
	return p, g.database()
}

func (g denier) stratified() (impl.Program, []impl.Rel) {
	for {
		p, db := g.program()
		if impl.Fault(p).Code == impl.CheckOk {
			return p, db
		}
	}
}

// merged returns the relations of both lists with the rows of both.
func merged(a, b []impl.Rel) []impl.Rel {
	rows := map[string][][]impl.Value{}
	for _, r := range slices.Concat(a, b) {
		rows[r.Name] = slices.Concat(rows[r.Name], r.Rows)
	}
	list := []impl.Rel{}
	for _, name := range slices.Sorted(maps.Keys(rows)) {
		list = append(list, impl.Rel{Name: name, Rows: impl.MakeTable(rows[name])})
	}
	return list
}

// contains reports whether every row of b is one of a.
func contains(a, b []impl.Rel) bool {
	for _, r := range b {
		for _, row := range r.Rows {
			if !impl.HasRow(tableIn(a, r.Name), row) {
				return false
			}
		}
	}
	return true
}

func TestRandomProgramsAreAppliedAsDefined(t *testing.T) {
	g := newDenier(81)
	compared, deep, excluded := 0, 0, 0
	for range 3000 {
		p, db := g.program()
		other := g.database()
		if g.chance(30) {
			other = merged(db, other)
		}
		tables, rounds, ok := expectedUnder(p, db, other)
		if !ok {
			continue
		}
		m := impl.Under(p, db, other)
		if m.Code != impl.ModelOk || m.Rounds != rounds || shownDb(m.Db) != shownDb(tables) || !impl.DbOk(m.Db) {
			t.Fatalf("%s\nwith %s\nUnder: %d, %d rounds, %s\nnot %d rounds, %s", shownProgram(p, db), shownDb(other), m.Code, m.Rounds, shownDb(m.Db), rounds, shownDb(tables))
		}
		compared++
		if rounds > 3 {
			deep++
		}
		if free := impl.Under(p, db, nil); rowCount(free.Db) > rowCount(m.Db) {
			excluded++
		}
	}
	if compared < 2500 || deep < 50 || excluded < 400 {
		t.Errorf("only %d programs compared, %d with many rounds, %d with nots that do not hold", compared, deep, excluded)
	}
}

func TestMoreRowsOfOtherDeriveFewerRows(t *testing.T) {
	g := newDenier(82)
	fewer := 0
	for range 2000 {
		p, db := g.program()
		small := g.database()
		great := merged(small, g.database())
		m, less := impl.Under(p, db, small), impl.Under(p, db, great)
		if m.Code != impl.ModelOk || less.Code != impl.ModelOk {
			continue
		}
		if !contains(m.Db, less.Db) || !contains(less.Db, db) {
			t.Fatalf("%s\nwith %s: %s\nwith %s: %s", shownProgram(p, db), shownDb(small), shownDb(m.Db), shownDb(great), shownDb(less.Db))
		}
		if rowCount(less.Db) < rowCount(m.Db) {
			fewer++
		}
	}
	if fewer < 200 {
		t.Errorf("only %d with fewer rows", fewer)
	}
}

// Promise 8, by the definition of the well-founded model.
func TestRandomProgramsHaveTheWellFoundedModelThatIsDefined(t *testing.T) {
	g := newDenier(83)
	compared, unknown, both, turns := 0, 0, 0, 0
	for range 2500 {
		p, db := g.program()
		want, ok := expectedWell(p, db)
		if !ok {
			continue
		}
		w := impl.Well(p, db)
		if w.Code != impl.ModelOk || w.Turns != want.Turns || shownDb(w.True) != shownDb(want.True) || shownDb(w.Unknown) != shownDb(want.Unknown) {
			t.Fatalf("%s\nWell: %d, %d turns\n%s\nunknown %s\nnot %d turns\n%s\nunknown %s",
				shownProgram(p, db), w.Code, w.Turns, shownDb(w.True), shownDb(w.Unknown), want.Turns, shownDb(want.True), shownDb(want.Unknown))
		}
		if got := impl.Total(p, db); got != (rowCount(w.Unknown) == 0) {
			t.Fatalf("%s\nTotal: %v", shownProgram(p, db), got)
		}
		compared++
		if rowCount(w.Unknown) > 0 {
			unknown++
		}
		if rowCount(w.Unknown) > 0 && rowCount(w.True) > rowCount(db) {
			both++
		}
		if w.Turns > 2 {
			turns++
		}
	}
	if compared < 2000 || unknown < 250 || both < 200 || turns < 20 {
		t.Errorf("only %d programs compared, %d with unknown rows, %d also with derived ones, %d with many turns", compared, unknown, both, turns)
	}
}

// Promise 8, the first half: the well-founded model of a stratified program is
// its model.
func TestStratifiedProgramsHaveTheirModel(t *testing.T) {
	g := newDenier(84)
	compared, nots := 0, 0
	for range 1500 {
		p, db := g.stratified()
		m, w := impl.Model(p, db), impl.Well(p, db)
		if m.Code != impl.ModelOk || w.Code != impl.ModelOk {
			continue
		}
		if shownDb(w.True) != shownDb(m.Db) || rowCount(w.Unknown) != 0 || len(w.Unknown) != len(m.Db) || !impl.Total(p, db) {
			t.Fatalf("%s\nWell: %s\nunknown %s\nnot %s", shownProgram(p, db), shownDb(w.True), shownDb(w.Unknown), shownDb(m.Db))
		}
		compared++
		if len(impl.Strata(p)) > 1 && rowCount(m.Db) > rowCount(db) {
			nots++
		}
	}
	if compared < 1200 || nots < 300 {
		t.Errorf("only %d programs compared, %d with several strata", compared, nots)
	}
}

// Promise 8, the second half, and the rest of the chapter's property.
func TestNothingIsBothTrueAndUnknown(t *testing.T) {
	g := newDenier(85)
	unknown := 0
	for range 2000 {
		p, db := g.program()
		w := impl.Well(p, db)
		if w.Code != impl.ModelOk {
			continue
		}
		for i, r := range w.Unknown {
			if r.Name != w.True[i].Name || len(w.Unknown) != len(w.True) {
				t.Fatalf("%s\nthe relations of Well: %s and %s", shownProgram(p, db), shownDb(w.True), shownDb(w.Unknown))
			}
			for _, row := range r.Rows {
				if impl.HasRow(w.True[i].Rows, row) {
					t.Fatalf("%s\n%s%s is both true and unknown", shownProgram(p, db), r.Name, impl.ShowRow(row))
				}
			}
		}
		all := merged(w.True, w.Unknown)
		if m := impl.Under(p, db, all); m.Code != impl.ModelOk || shownDb(m.Db) != shownDb(w.True) {
			t.Fatalf("%s\ntrue: %s\nbut Under of true and unknown: %s", shownProgram(p, db), shownDb(w.True), shownDb(m.Db))
		}
		if m := impl.Under(p, db, w.True); m.Code != impl.ModelOk || shownDb(m.Db) != shownDb(all) {
			t.Fatalf("%s\ntrue and unknown: %s\nbut Under of true: %s", shownProgram(p, db), shownDb(all), shownDb(m.Db))
		}
		if !contains(w.True, db) {
			t.Fatalf("%s\nthe model is %s", shownProgram(p, db), shownDb(w.True))
		}
		unknown += rowCount(w.Unknown)
	}
	if unknown < 500 {
		t.Errorf("only %d unknown rows", unknown)
	}
}

// The positions of a game, valued from its ends: one is lost if all moves lead
// to positions that are won, and won if a move leads to one that is lost.
func TestPositionsThatAreWonAndDrawn(t *testing.T) {
	g := newDenier(86)
	won, drawn := 0, 0
	for range 1500 {
		rows := [][]impl.Value{}
		positions := 3 + g.source.Int63n(9)
		for range 1 + g.source.Intn(15) {
			rows = append(rows, numbers(g.source.Int63n(positions), g.source.Int63n(positions)))
		}
		rows = impl.MakeTable(rows)
		value := map[int64]int{}
		for range 2 * positions {
			for at := range positions {
				toLost, allWon := false, true
				for _, row := range rows {
					if row[0].N == at {
						toLost = toLost || value[row[1].N] == -1
						allWon = allWon && value[row[1].N] == 1
					}
				}
				if toLost {
					value[at] = 1
				} else if allWon {
					value[at] = -1
				}
			}
		}
		wins, draws := [][]impl.Value{}, [][]impl.Value{}
		for at := range positions {
			switch value[at] {
			case 1:
				wins = append(wins, numbers(at))
			case 0:
				draws = append(draws, numbers(at))
			}
		}
		w := impl.Well(programOf(t, game), database(impl.Rel{Name: "move", Rows: rows}))
		if w.Code != impl.ModelOk || !sameRows(tableIn(w.True, "win"), wins) || !sameRows(tableIn(w.Unknown, "win"), draws) {
			t.Fatalf("moves %s: won %s, drawn %s\nnot %s and %s", shownRows(rows), shownRows(tableIn(w.True, "win")), shownRows(tableIn(w.Unknown, "win")), shownRows(wins), shownRows(draws))
		}
		won, drawn = won+len(wins), drawn+len(draws)
	}
	if won < 1000 || drawn < 1000 {
		t.Errorf("only %d positions won, %d drawn", won, drawn)
	}
}

func TestTheOrderOfTheRulesDoesNotMatterForWell(t *testing.T) {
	g := newDenier(87)
	for range 1000 {
		p, db := g.program()
		other := g.database()
		w, m := impl.Well(p, db), impl.Under(p, db, other)
		changed := impl.Program{Decls: p.Decls, Rules: slices.Clone(p.Rules)}
		if len(p.Rules) > 0 && g.chance(50) {
			changed.Rules = append(changed.Rules, p.Rules[g.source.Intn(len(p.Rules))])
		}
		g.source.Shuffle(len(changed.Rules), func(i, j int) {
			changed.Rules[i], changed.Rules[j] = changed.Rules[j], changed.Rules[i]
		})
		if got := impl.Well(changed, db); !reflect.DeepEqual(got, w) {
			t.Fatalf("%s\nWell: %v, but in another order %v", shownProgram(changed, db), got, w)
		}
		if got := impl.Under(changed, db, other); !reflect.DeepEqual(got, m) {
			t.Fatalf("%s\nUnder: %v, but in another order %v", shownProgram(changed, db), got, m)
		}
	}
}

// Promise 19: no argument makes a function panic.
func TestWellReturnsForEveryArgument(t *testing.T) {
	dbs := [][]impl.Rel{}
	for _, list := range []map[string][]impl.Rel{validDatabases(), invalidDatabases()} {
		for _, name := range slices.Sorted(maps.Keys(list)) {
			dbs = append(dbs, list[name])
		}
	}
	for i, p := range slices.Concat(wildPrograms(4000), plannedPrograms(3000), invalidPrograms(), []impl.Program{{}}) {
		db, other := dbs[i%len(dbs)], dbs[i/3%len(dbs)]
		w, m, total := impl.Well(p, db), impl.Under(p, db, other), impl.Total(p, db)
		code := impl.Fault(p).Code
		bad := code != impl.CheckOk && code != impl.CheckStrata || !impl.DbOk(db)
		if w.Code == impl.ModelOk && (bad || w.Turns < 1 || len(w.True) != len(w.Unknown)) || w.Code != impl.ModelOk && (total || w.Turns != 0 || w.True != nil || w.Unknown != nil) {
			t.Fatalf("%v over %v: Well = %v, Total = %v", p, db, w, total)
		}
		if bad = bad || !impl.DbOk(other); bad && m.Code != impl.ModelArgs || m.Code != impl.ModelOk && (m.Db != nil || m.Rounds != 0) {
			t.Fatalf("%v over %v with %v: Under = %v", p, db, other, m)
		}
	}
}

// Promise 19: arguments stay as they are, results are new memory, and each
// call has the same result.
func TestWellLeavesItsArgumentsAlone(t *testing.T) {
	g := newDenier(88)
	for i := range 150 {
		p, db := g.program()
		other := g.database()
		if i%4 == 0 {
			p = programOf(t, `long(X, "some text") :- label(X, Y), not long(Y, X). long(Y, Y) :- long(_, Y), not extra("other text"). extra(Y) :- label(1, Y), not extra(Y).`)
			db = database(relation("label", `(1, "a long text")`, `(1, "another text")`, `(2, "b b b")`), relation("long", `(1, "a third text")`), relation("other", `("a fourth text")`))
			other = database(relation("extra", `("a fifth text")`, `("other text")`), relation("unused", `("a text that is not used")`))
		}
		p, db, other = spacious(p), spareDb(db), spareDb(other)
		arguments := []any{p, db, other}
		before := contents(arguments...)
		call := func() []any {
			return []any{impl.Under(p, db, other), impl.Well(p, db), impl.Total(p, db), impl.Under(p, db, db)}
		}
		results := call()
		for _, result := range results {
			for _, x := range arguments {
				expectOwnMemory(t, result, x)
			}
		}
		if after := contents(arguments...); before != after {
			t.Fatalf("%s became %s", before, after)
		}
		if again := call(); !reflect.DeepEqual(again, results) {
			t.Fatalf("%v, then %v", results, again)
		}
		if t.Failed() {
			t.FailNow()
		}
	}
}
