package tests

import (
	"fmt"
	"reflect"
	"slices"
	"strings"
	"testing"

	"loop.example/g00030/impl"
)

// expectMagic checks the transformed program, rule by rule, and what the chapter
// says of each: it has no declarations and no fault.
func expectMagic(t *testing.T, src string, query string, want ...string) {
	t.Helper()
	p, ok := impl.Magic(programOf(t, src), atomIn(t, query))
	got := strings.Split(strings.TrimSuffix(impl.ShowProgram(p), "\n"), "\n")
	if !ok || !slices.Equal(got, want) || len(p.Decls) > 0 || impl.Fault(p) != (impl.Trouble{}) {
		t.Errorf("Magic of %s for %s = %v\n%s\nnot\n%s", src, query, ok, strings.Join(got, "\n"), strings.Join(want, "\n"))
	}
}

// expectUnmagic checks that there is no transformed program, and that this does
// not keep the model from answering.
func expectUnmagic(t *testing.T, name string, p impl.Program, q impl.Atom) {
	t.Helper()
	if got, ok := impl.Magic(p, q); ok || !isZero(got) {
		t.Errorf("%s: Magic = %v\n%s", name, ok, impl.ShowProgram(got))
	}
	for _, db := range [][]impl.Rel{nil, chain()} {
		if rows := impl.AnswerAlone(p, db, q); rows != nil {
			t.Errorf("%s: AnswerAlone = %s", name, shownRows(rows))
		}
		if got, want := impl.Answer(p, db, q), impl.Ask(impl.Model(p, db).Db, q); !sameRows(got, want) {
			t.Errorf("%s: Answer = %s, not %s", name, shownRows(got), shownRows(want))
		}
	}
}

// expectNoMagic is for programs without a fault.
func expectNoMagic(t *testing.T, src string, query string) {
	t.Helper()
	expectNoFault(t, src)
	expectUnmagic(t, src+" for "+query, programOf(t, src), atomIn(t, query))
}

// expectBoth checks both answers.
func expectBoth(t *testing.T, src string, db []impl.Rel, query string, rows ...string) {
	t.Helper()
	p, q := programOf(t, src), atomIn(t, query)
	expectTable(t, "Answer "+query+" of "+src, impl.Answer(p, db, q), relation("", rows...).Rows)
	expectTable(t, "AnswerAlone "+query+" of "+src, impl.AnswerAlone(p, db, q), relation("", rows...).Rows)
}

func expectWork(t *testing.T, src string, db []impl.Rel, want int64) {
	t.Helper()
	if got := impl.Work(programOf(t, src), db); got != want {
		t.Errorf("Work of %s over %s = %d, not %d", src, shownDb(db), got, want)
	}
}

const (
	rightPath = "path(X, Y) :- edge(X, Y). path(X, Z) :- edge(X, Y), path(Y, Z). "
	bothPath  = "path(X, Y) :- edge(X, Y). path(X, Z) :- path(X, Y), path(Y, Z). "
)

// The relation depends on itself from the left, with each pattern.
func TestMagicFromTheLeft(t *testing.T) {
	expectMagic(t, pathRules, "path(1, X)",
		"m_path_bf(1).",
		"path_bf(M1, M2) :- m_path_bf(M1), path(M1, M2).",
		"path_bf(X, Y) :- m_path_bf(X), edge(X, Y).",
		"m_path_bf(X) :- m_path_bf(X).",
		"path_bf(X, Z) :- m_path_bf(X), path_bf(X, Y), edge(Y, Z).")
	expectMagic(t, pathRules, `path(1, "a")`,
		`m_path_bb(1, "a").`,
		"path_bb(M1, M2) :- m_path_bb(M1, M2), path(M1, M2).",
		"path_bb(X, Y) :- m_path_bb(X, Y), edge(X, Y).",
		"m_path_bf(X) :- m_path_bb(X, Z).",
		"path_bb(X, Z) :- m_path_bb(X, Z), path_bf(X, Y), edge(Y, Z).",
		"path_bf(M1, M2) :- m_path_bf(M1), path(M1, M2).",
		"path_bf(X, Y) :- m_path_bf(X), edge(X, Y).",
		"m_path_bf(X) :- m_path_bf(X).",
		"path_bf(X, Z) :- m_path_bf(X), path_bf(X, Y), edge(Y, Z).")
	expectMagic(t, pathRules, "path(X, -3)",
		"m_path_fb(-3).",
		"path_fb(M1, M2) :- m_path_fb(M2), path(M1, M2).",
		"path_fb(X, Y) :- m_path_fb(Y), edge(X, Y).",
		"m_path_ff() :- m_path_fb(Z).",
		"path_fb(X, Z) :- m_path_fb(Z), path_ff(X, Y), edge(Y, Z).",
		"path_ff(M1, M2) :- m_path_ff(), path(M1, M2).",
		"path_ff(X, Y) :- m_path_ff(), edge(X, Y).",
		"m_path_ff() :- m_path_ff().",
		"path_ff(X, Z) :- m_path_ff(), path_ff(X, Y), edge(Y, Z).")
	free := []string{
		"m_path_ff().",
		"path_ff(M1, M2) :- m_path_ff(), path(M1, M2).",
		"path_ff(X, Y) :- m_path_ff(), edge(X, Y).",
		"m_path_ff() :- m_path_ff().",
		"path_ff(X, Z) :- m_path_ff(), path_ff(X, Y), edge(Y, Z)."}
	// Whichever variables the query has, they are free.
	for _, query := range []string{"path(X, Y)", "path(_, _)", "path(X, X)", "path(Z, _)", "path(M1, M2)"} {
		expectMagic(t, pathRules, query, free...)
	}
}

func TestMagicFromTheRight(t *testing.T) {
	expectMagic(t, rightPath, "path(1, X)",
		"m_path_bf(1).",
		"path_bf(M1, M2) :- m_path_bf(M1), path(M1, M2).",
		"path_bf(X, Y) :- m_path_bf(X), edge(X, Y).",
		"m_path_bf(Y) :- m_path_bf(X), edge(X, Y).",
		"path_bf(X, Z) :- m_path_bf(X), edge(X, Y), path_bf(Y, Z).")
	expectMagic(t, rightPath, "path(_, 3)",
		"m_path_fb(3).",
		"path_fb(M1, M2) :- m_path_fb(M2), path(M1, M2).",
		"path_fb(X, Y) :- m_path_fb(Y), edge(X, Y).",
		"m_path_bb(Y, Z) :- m_path_fb(Z), edge(X, Y).",
		"path_fb(X, Z) :- m_path_fb(Z), edge(X, Y), path_bb(Y, Z).",
		"path_bb(M1, M2) :- m_path_bb(M1, M2), path(M1, M2).",
		"path_bb(X, Y) :- m_path_bb(X, Y), edge(X, Y).",
		"m_path_bb(Y, Z) :- m_path_bb(X, Z), edge(X, Y).",
		"path_bb(X, Z) :- m_path_bb(X, Z), edge(X, Y), path_bb(Y, Z).")
	expectMagic(t, rightPath, "path(X, Y)",
		"m_path_ff().",
		"path_ff(M1, M2) :- m_path_ff(), path(M1, M2).",
		"path_ff(X, Y) :- m_path_ff(), edge(X, Y).",
		"m_path_bf(Y) :- m_path_ff(), edge(X, Y).",
		"path_ff(X, Z) :- m_path_ff(), edge(X, Y), path_bf(Y, Z).",
		"path_bf(M1, M2) :- m_path_bf(M1), path(M1, M2).",
		"path_bf(X, Y) :- m_path_bf(X), edge(X, Y).",
		"m_path_bf(Y) :- m_path_bf(X), edge(X, Y).",
		"path_bf(X, Z) :- m_path_bf(X), edge(X, Y), path_bf(Y, Z).")
}

// In a rule with two requests, the second one is guarded by the first literal in
// its transformed form.
func TestMagicFromBothSides(t *testing.T) {
	expectMagic(t, bothPath, "path(1, X)",
		"m_path_bf(1).",
		"path_bf(M1, M2) :- m_path_bf(M1), path(M1, M2).",
		"path_bf(X, Y) :- m_path_bf(X), edge(X, Y).",
		"m_path_bf(X) :- m_path_bf(X).",
		"m_path_bf(Y) :- m_path_bf(X), path_bf(X, Y).",
		"path_bf(X, Z) :- m_path_bf(X), path_bf(X, Y), path_bf(Y, Z).")
	expectMagic(t, bothPath, "path(X, 4)",
		"m_path_fb(4).",
		"path_fb(M1, M2) :- m_path_fb(M2), path(M1, M2).",
		"path_fb(X, Y) :- m_path_fb(Y), edge(X, Y).",
		"m_path_ff() :- m_path_fb(Z).",
		"m_path_bb(Y, Z) :- m_path_fb(Z), path_ff(X, Y).",
		"path_fb(X, Z) :- m_path_fb(Z), path_ff(X, Y), path_bb(Y, Z).",
		"path_ff(M1, M2) :- m_path_ff(), path(M1, M2).",
		"path_ff(X, Y) :- m_path_ff(), edge(X, Y).",
		"m_path_ff() :- m_path_ff().",
		"m_path_bf(Y) :- m_path_ff(), path_ff(X, Y).",
		"path_ff(X, Z) :- m_path_ff(), path_ff(X, Y), path_bf(Y, Z).",
		"path_bb(M1, M2) :- m_path_bb(M1, M2), path(M1, M2).",
		"path_bb(X, Y) :- m_path_bb(X, Y), edge(X, Y).",
		"m_path_bf(X) :- m_path_bb(X, Z).",
		"m_path_bb(Y, Z) :- m_path_bb(X, Z), path_bf(X, Y).",
		"path_bb(X, Z) :- m_path_bb(X, Z), path_bf(X, Y), path_bb(Y, Z).",
		"path_bf(M1, M2) :- m_path_bf(M1), path(M1, M2).",
		"path_bf(X, Y) :- m_path_bf(X), edge(X, Y).",
		"m_path_bf(X) :- m_path_bf(X).",
		"m_path_bf(Y) :- m_path_bf(X), path_bf(X, Y).",
		"path_bf(X, Z) :- m_path_bf(X), path_bf(X, Y), path_bf(Y, Z).")
}

func TestMagicOfRelationsThatDependOnEachOther(t *testing.T) {
	expectMagic(t, "even(0). even(Y) :- odd(X), Y = X + 1, Y < 6. odd(Y) :- next(X, Y), even(X).", "odd(3)",
		"m_odd_b(3).",
		"odd_b(M1) :- m_odd_b(M1), odd(M1).",
		"m_even_b(X) :- m_odd_b(Y), next(X, Y).",
		"odd_b(Y) :- m_odd_b(Y), next(X, Y), even_b(X).",
		"even_b(M1) :- m_even_b(M1), even(M1).",
		"even_b(0) :- m_even_b(0).",
		"m_odd_f() :- m_even_b(Y).",
		"even_b(Y) :- m_even_b(Y), odd_f(X), Y = X + 1, Y < 6.",
		"odd_f(M1) :- m_odd_f(), odd(M1).",
		"m_even_b(X) :- m_odd_f(), next(X, Y).",
		"odd_f(Y) :- m_odd_f(), next(X, Y), even_b(X).")
}

// A pair has its rules where it first occurs, whatever the order of the rules of
// the program and of the names and patterns.
func TestTheOrderOfThePairs(t *testing.T) {
	expectMagic(t, "b(X) :- e(X). z(X) :- e(X). a(X) :- z(Y), b(X), a(1), z(X), c(X). c(X) :- b(X), d(X).", "a(X)",
		"m_a_f().",
		"a_f(M1) :- m_a_f(), a(M1).",
		"m_z_f() :- m_a_f().",
		"m_b_f() :- m_a_f(), z_f(Y).",
		"m_a_b(1) :- m_a_f(), z_f(Y), b_f(X).",
		"m_z_b(X) :- m_a_f(), z_f(Y), b_f(X), a_b(1).",
		"m_c_b(X) :- m_a_f(), z_f(Y), b_f(X), a_b(1), z_b(X).",
		"a_f(X) :- m_a_f(), z_f(Y), b_f(X), a_b(1), z_b(X), c_b(X).",
		"z_f(M1) :- m_z_f(), z(M1).",
		"z_f(X) :- m_z_f(), e(X).",
		"b_f(M1) :- m_b_f(), b(M1).",
		"b_f(X) :- m_b_f(), e(X).",
		"a_b(M1) :- m_a_b(M1), a(M1).",
		"m_z_f() :- m_a_b(X).",
		"m_b_b(X) :- m_a_b(X), z_f(Y).",
		"m_a_b(1) :- m_a_b(X), z_f(Y), b_b(X).",
		"m_z_b(X) :- m_a_b(X), z_f(Y), b_b(X), a_b(1).",
		"m_c_b(X) :- m_a_b(X), z_f(Y), b_b(X), a_b(1), z_b(X).",
		"a_b(X) :- m_a_b(X), z_f(Y), b_b(X), a_b(1), z_b(X), c_b(X).",
		"z_b(M1) :- m_z_b(M1), z(M1).",
		"z_b(X) :- m_z_b(X), e(X).",
		"c_b(M1) :- m_c_b(M1), c(M1).",
		"m_b_b(X) :- m_c_b(X).",
		"c_b(X) :- m_c_b(X), b_b(X), d(X).",
		"b_b(M1) :- m_b_b(M1), b(M1).",
		"b_b(X) :- m_b_b(X), e(X).")
	// The rules of a relation keep their order, also if others are between them.
	expectMagic(t, "p(2). q(1). p(X) :- e(X). r(1). p(1).", "p(X)",
		"m_p_f().", "p_f(M1) :- m_p_f(), p(M1).", "p_f(2) :- m_p_f().", "p_f(X) :- m_p_f(), e(X).", "p_f(1) :- m_p_f().")
	// A rule that is repeated is transformed as often.
	expectMagic(t, "p(1). p(1).", "p(1)",
		"m_p_b(1).", "p_b(M1) :- m_p_b(M1), p(M1).", "p_b(1) :- m_p_b(1).", "p_b(1) :- m_p_b(1).")
}

func TestMagicWithoutArguments(t *testing.T) {
	expectMagic(t, "on().", "on()", "m_on_().", "on_() :- m_on_(), on().", "on_() :- m_on_().")
	expectMagic(t, "on() :- switch(X), off(). off() :- on(). p(X) :- on(), e(X), off().", "p(7)",
		"m_p_b(7).",
		"p_b(M1) :- m_p_b(M1), p(M1).",
		"m_on_() :- m_p_b(X).",
		"m_off_() :- m_p_b(X), on_(), e(X).",
		"p_b(X) :- m_p_b(X), on_(), e(X), off_().",
		"on_() :- m_on_(), on().",
		"m_off_() :- m_on_(), switch(X).",
		"on_() :- m_on_(), switch(X), off_().",
		"off_() :- m_off_(), off().",
		"m_on_() :- m_off_().",
		"off_() :- m_off_(), on_().")
}

// Constants and equal variables of a head are asked for as they are, and so are
// an expression at a free position and the variable M.. for one at a bound one.
func TestMagicOfHeads(t *testing.T) {
	expectMagic(t, `p(1, "a", X) :- e(X).`, "p(1, 2, X)",
		"m_p_bbf(1, 2).",
		"p_bbf(M1, M2, M3) :- m_p_bbf(M1, M2), p(M1, M2, M3).",
		`p_bbf(1, "a", X) :- m_p_bbf(1, "a"), e(X).`)
	expectMagic(t, "p(X, X, Y, Y) :- e(X, Y), p(X, Y, X, Y).", "p(1, 1, 2, A)",
		"m_p_bbbf(1, 1, 2).",
		"p_bbbf(M1, M2, M3, M4) :- m_p_bbbf(M1, M2, M3), p(M1, M2, M3, M4).",
		"m_p_bbbb(X, Y, X, Y) :- m_p_bbbf(X, X, Y), e(X, Y).",
		"p_bbbf(X, X, Y, Y) :- m_p_bbbf(X, X, Y), e(X, Y), p_bbbb(X, Y, X, Y).",
		"p_bbbb(M1, M2, M3, M4) :- m_p_bbbb(M1, M2, M3, M4), p(M1, M2, M3, M4).",
		"m_p_bbbb(X, Y, X, Y) :- m_p_bbbb(X, X, Y, Y), e(X, Y).",
		"p_bbbb(X, X, Y, Y) :- m_p_bbbb(X, X, Y, Y), e(X, Y), p_bbbb(X, Y, X, Y).")
	expectMagic(t, "up(X + 1, Y * 2, 3 - 1) :- up(X, Y, Z), X < 9.", "up(A, B, C)",
		"m_up_fff().",
		"up_fff(M1, M2, M3) :- m_up_fff(), up(M1, M2, M3).",
		"m_up_fff() :- m_up_fff().",
		"up_fff(X + 1, Y * 2, 3 - 1) :- m_up_fff(), up_fff(X, Y, Z), X < 9.")
	// The variables of the expressions are not known; the tests come last.
	expectMagic(t, "up(X + 1, Y, Y * 2, 3 - 1) :- X < 9, e(X), up(X, Y, _, _), Y > X.", "up(4, X, 5, 6)",
		"m_up_bfbb(4, 5, 6).",
		"up_bfbb(M1, M2, M3, M4) :- m_up_bfbb(M1, M3, M4), up(M1, M2, M3, M4).",
		"m_up_bfff(X) :- m_up_bfbb(M1, M3, M4), e(X).",
		"up_bfbb(X + 1, Y, Y * 2, 3 - 1) :- m_up_bfbb(M1, M3, M4), X < 9, e(X), up_bfff(X, Y, _, _), Y > X, M1 = X + 1, M3 = Y * 2, M4 = 3 - 1.",
		"up_bfff(M1, M2, M3, M4) :- m_up_bfff(M1), up(M1, M2, M3, M4).",
		"m_up_bfff(X) :- m_up_bfff(M1), e(X).",
		"up_bfff(X + 1, Y, Y * 2, 3 - 1) :- m_up_bfff(M1), X < 9, e(X), up_bfff(X, Y, _, _), Y > X, M1 = X + 1.")
	// A variable that also stands alone at a bound position is known.
	expectMagic(t, "p(X, X + 1) :- q(X). q(X) :- e(X).", "p(1, 2)",
		"m_p_bb(1, 2).",
		"p_bb(M1, M2) :- m_p_bb(M1, M2), p(M1, M2).",
		"m_q_b(X) :- m_p_bb(X, M2).",
		"p_bb(X, X + 1) :- m_p_bb(X, M2), q_b(X), M2 = X + 1.",
		"q_b(M1) :- m_q_b(M1), q(M1).",
		"q_b(X) :- m_q_b(X), e(X).")
	expectMagic(t, "p(X, X + 1) :- q(X). q(X) :- e(X).", "p(A, 2)",
		"m_p_fb(2).",
		"p_fb(M1, M2) :- m_p_fb(M2), p(M1, M2).",
		"m_q_f() :- m_p_fb(M2).",
		"p_fb(X, X + 1) :- m_p_fb(M2), q_f(X), M2 = X + 1.",
		"q_f(M1) :- m_q_f(), q(M1).",
		"q_f(X) :- m_q_f(), e(X).")
	expectMagic(t, "w(A, B, C, D, E, F, G, H * 2) :- e(A, B, C, D, E, F, G, H).", "w(A, B, C, D, E, F, G, 8)",
		"m_w_fffffffb(8).",
		"w_fffffffb(M1, M2, M3, M4, M5, M6, M7, M8) :- m_w_fffffffb(M8), w(M1, M2, M3, M4, M5, M6, M7, M8).",
		"w_fffffffb(A, B, C, D, E, F, G, H * 2) :- m_w_fffffffb(M8), e(A, B, C, D, E, F, G, H), M8 = H * 2.")
}

// Tests stay where they are, but say nothing of what is known.
func TestMagicOfTests(t *testing.T) {
	expectMagic(t, "p(X) :- X > 0, q(X, Y), Y != X, Z = Y, q(Z, X), 1 < 2. q(X, Y) :- e(X, Y).", "p(5)",
		"m_p_b(5).",
		"p_b(M1) :- m_p_b(M1), p(M1).",
		"m_q_bf(X) :- m_p_b(X).",
		"m_q_fb(X) :- m_p_b(X), q_bf(X, Y).",
		"p_b(X) :- m_p_b(X), X > 0, q_bf(X, Y), Y != X, Z = Y, q_fb(Z, X), 1 < 2.",
		"q_bf(M1, M2) :- m_q_bf(M1), q(M1, M2).",
		"q_bf(X, Y) :- m_q_bf(X), e(X, Y).",
		"q_fb(M1, M2) :- m_q_fb(M2), q(M1, M2).",
		"q_fb(X, Y) :- m_q_fb(Y), e(X, Y).")
	expectMagic(t, "p(X) :- Y = 1, q(Y, X). q(1, 2).", "p(X)",
		"m_p_f().",
		"p_f(M1) :- m_p_f(), p(M1).",
		"m_q_ff() :- m_p_f().",
		"p_f(X) :- m_p_f(), Y = 1, q_ff(Y, X).",
		"q_ff(M1, M2) :- m_q_ff(), q(M1, M2).",
		"q_ff(1, 2) :- m_q_ff().")
}

// An argument is bound if all its variables are known: it may have none, and it
// may have parts. The others are free, a NodeAny among them.
func TestMagicOfArguments(t *testing.T) {
	expectMagic(t, `p(X) :- e(X, Y), q(X + Y, 1, "a", _, 2 * 3, Z, Z, Y). q(A, B, C, D, E, F, G, H) :- e(A, H), q(_, _, _, _, _, H * A, _, _), e(B, C), e(D, E), e(F, G).`, "p(1)",
		"m_p_b(1).",
		"p_b(M1) :- m_p_b(M1), p(M1).",
		`m_q_bbbfbffb(X + Y, 1, "a", 2 * 3, Y) :- m_p_b(X), e(X, Y).`,
		`p_b(X) :- m_p_b(X), e(X, Y), q_bbbfbffb(X + Y, 1, "a", _, 2 * 3, Z, Z, Y).`,
		"q_bbbfbffb(M1, M2, M3, M4, M5, M6, M7, M8) :- m_q_bbbfbffb(M1, M2, M3, M5, M8), q(M1, M2, M3, M4, M5, M6, M7, M8).",
		"m_q_fffffbff(H * A) :- m_q_bbbfbffb(A, B, C, E, H), e(A, H).",
		"q_bbbfbffb(A, B, C, D, E, F, G, H) :- m_q_bbbfbffb(A, B, C, E, H), e(A, H), q_fffffbff(_, _, _, _, _, H * A, _, _), e(B, C), e(D, E), e(F, G).",
		"q_fffffbff(M1, M2, M3, M4, M5, M6, M7, M8) :- m_q_fffffbff(M6), q(M1, M2, M3, M4, M5, M6, M7, M8).",
		"m_q_fffffbff(H * A) :- m_q_fffffbff(F), e(A, H).",
		"q_fffffbff(A, B, C, D, E, F, G, H) :- m_q_fffffbff(F), e(A, H), q_fffffbff(_, _, _, _, _, H * A, _, _), e(B, C), e(D, E), e(F, G).")
	// Only some variables of an expression are known.
	expectMagic(t, "p(X) :- q(X + Y, X), e(X, Y). q(X, Y) :- e(X, Y).", "p(1)",
		"m_p_b(1).",
		"p_b(M1) :- m_p_b(M1), p(M1).",
		"m_q_fb(X) :- m_p_b(X).",
		"p_b(X) :- m_p_b(X), q_fb(X + Y, X), e(X, Y).",
		"q_fb(M1, M2) :- m_q_fb(M2), q(M1, M2).",
		"q_fb(X, Y) :- m_q_fb(Y), e(X, Y).")
	// What stands alone in an atom is known after it, though the order of
	// evaluation is another one: first e, then d.
	expectMagic(t, "p(X) :- d(Y + 1, X), e(Y), q(X, Y + X). q(X, Y) :- d(X, Y).", "p(_)",
		"m_p_f().",
		"p_f(M1) :- m_p_f(), p(M1).",
		"m_q_bb(X, Y + X) :- m_p_f(), d(Y + 1, X), e(Y).",
		"p_f(X) :- m_p_f(), d(Y + 1, X), e(Y), q_bb(X, Y + X).",
		"q_bb(M1, M2) :- m_q_bb(M1, M2), q(M1, M2).",
		"q_bb(X, Y) :- m_q_bb(X, Y), d(X, Y).")
}

// Names such as those of the transformed program are no others than these.
func TestMagicOfShortNames(t *testing.T) {
	expectMagic(t, "m(X) :- b(X), f(1, X). b(X) :- m(X). f(X, Y) :- bf(X, Y). bf(X, Y) :- e(X, Y).", "m(1)",
		"m_m_b(1).",
		"m_b(M1) :- m_m_b(M1), m(M1).",
		"m_b_b(X) :- m_m_b(X).",
		"m_f_bb(1, X) :- m_m_b(X), b_b(X).",
		"m_b(X) :- m_m_b(X), b_b(X), f_bb(1, X).",
		"b_b(M1) :- m_b_b(M1), b(M1).",
		"m_m_b(X) :- m_b_b(X).",
		"b_b(X) :- m_b_b(X), m_b(X).",
		"f_bb(M1, M2) :- m_f_bb(M1, M2), f(M1, M2).",
		"m_bf_bb(X, Y) :- m_f_bb(X, Y).",
		"f_bb(X, Y) :- m_f_bb(X, Y), bf_bb(X, Y).",
		"bf_bb(M1, M2) :- m_bf_bb(M1, M2), bf(M1, M2).",
		"bf_bb(X, Y) :- m_bf_bb(X, Y), e(X, Y).")
}

// Declarations and the rules of relations that are not needed leave no trace, and
// neither do aggregates, nots and variables with M in such rules.
func TestMagicTakesNoticeOfNeededRelationsOnly(t *testing.T) {
	want := []string{
		"m_p_b(1).",
		"p_b(M1) :- m_p_b(M1), p(M1).",
		"m_q_b(X) :- m_p_b(X).",
		"p_b(X) :- m_p_b(X), q_b(X).",
		"q_b(M1) :- m_q_b(M1), q(M1).",
		"q_b(X) :- m_q_b(X), e(X)."}
	const src = "p(X) :- q(X). q(X) :- e(X). "
	expectMagic(t, src, "p(1)", want...)
	for _, more := range []string{
		"rel p(int). rel e(any). rel z(text).",
		"z(count) :- e(X).", "z(max X) :- p(X).", "z(X) :- e(X), not p(X).", "z() :- not e(1).",
		"z(M) :- e(M).", "z(M1) :- e(M1), p(M1).", "z(X) :- e(X), q(M2).", "z(X) :- p(X), Max = X.",
		"z(X) :- p(X). z(X) :- z(X), q(X).",
		"aNameOfMaxWordBytes0(X) :- p(X).",
	} {
		expectMagic(t, src+more, "p(1)", want...)
		expectMagic(t, more+src, "p(1)", want...)
	}
}

// Each reason alone; the first query of each test has none.
func TestQueriesWithoutMagic(t *testing.T) {
	p := programOf(t, "rel only(int). path(X, Y) :- edge(X, Y). on() :- edge(_, _), not off().")
	x, one := variableNode("X"), constantNode(number(1))
	if _, ok := impl.Magic(p, atomOf("path", x, one)); !ok {
		t.Error("path(X, 1)")
	}
	for name, q := range map[string]impl.Atom{
		"the zero Atom":           {},
		"no name":                 atomOf("", x, x),
		"a variable as name":      atomOf("Path", x, x),
		"an excluded word":        atomOf("max", x, x),
		"more than MaxWide":       atomOf("path", slices.Repeat([][]impl.Node{x}, impl.MaxWide+1)...),
		"no nodes":                atomOf("path", x, nil),
		"two nodes":               atomOf("path", x, slices.Concat(one, one)),
		"a null":                  atomOf("path", x, constantNode(null(1))),
		"a great integer":         atomOf("path", constantNode(number(impl.MaxInt+1)), x),
		"a small variable":        atomOf("path", variableNode("x"), x),
		"an unknown kind":         atomOf("path", x, []impl.Node{{Kind: 7}}),
		"a named any":             atomOf("path", x, []impl.Node{{Kind: impl.NodeAny, Name: "X"}}),
		"a constant with a name":  atomOf("path", x, []impl.Node{{Kind: impl.NodeConst, Name: "X", Value: number(1)}}),
		"a sum of constants":      atomOf("path", x, operationNodes(impl.NodeAdd, one, one)),
		"a variable with parts":   atomOf("path", operationNodes(impl.NodeMul, x, one), one),
		"fewer arguments":         atomOf("path", x),
		"no arguments":            atomOf("path"),
		"more arguments":          atomOf("path", x, x, x),
		"not derived":             atomOf("edge", one, x),
		"only declared":           atomOf("only", x),
		"only in a not":           atomOf("off"),
		"not of the program":      atomOf("other", one, x),
		"the transformed name":    atomOf("path_bf", one, x),
		"not of the program, ()":  atomOf("other"),
		"only the first argument": atomOf("edge", one),
	} {
		expectUnmagic(t, name, p, q)
	}
}

func TestProgramsWithFaultsHaveNoMagic(t *testing.T) {
	expectMagic(t, "p(1).", "p(1)", "m_p_b(1).", "p_b(M1) :- m_p_b(M1), p(M1).", "p_b(1) :- m_p_b(1).")
	codes := map[int64]bool{}
	for _, src := range []string{
		"z(1). z(1, 2).", "rel z(). z(1).", "z(X).", "z(X) :- e(X), X < Y.", "z(_).",
		`rel z(int). z("a").`, "rel z(text). z(X + 1) :- e(X).", "z(X) :- e(X), not z(X).", "z(count) :- z(X).",
	} {
		faulty := programOf(t, "p(1). "+src)
		codes[impl.Fault(faulty).Code] = true
		expectUnmagic(t, src, faulty, atomIn(t, "p(1)"))
		expectUnmagic(t, src, faulty, atomIn(t, "z(1)"))
	}
	for i, p := range invalidPrograms() {
		codes[impl.Fault(p).Code] = true
		expectUnmagic(t, fmt.Sprint("invalid program ", i), p, atomIn(t, "p(1)"))
	}
	p := programOf(t, "p(1).")
	p.Decls = []impl.Decl{{Name: "b"}, {Name: "a"}}
	expectUnmagic(t, "declarations that descend", p, atomIn(t, "p(1)"))
	if len(codes) != impl.CheckStrata {
		t.Errorf("not every code: %v", codes)
	}
}

func TestNeededRulesWithoutMagic(t *testing.T) {
	const src = "p(X) :- q(X). q(X) :- r(X), e(X). "
	if _, ok := impl.Magic(programOf(t, src+"r(X) :- e(X), 1 = X."), atomIn(t, "p(1)")); !ok {
		t.Error(src)
	}
	for _, r := range []string{
		"r(count) :- e(X).", "r(min X) :- e(X).", "r(max X) :- e(X).", "r(sum X) :- e(X).", "r(max 1).",
		"r(X) :- e(X), not d(X).", "r(1) :- not d(_).", "r(X) :- e(X), not z(X). z(X) :- e(X), d(X).",
		"r(M) :- e(M).", "r(M1) :- e(M1).", "r(X) :- e(X), d(M2).", "r(X) :- e(X), d(X + M9), d(M9).", "r(X) :- e(X), Mx = X.", "r(X) :- e(X), X + 1 = M_.", "r(X + Max) :- e(X), d(Max).",
	} {
		for _, src := range []string{src + r, r + src, src + "r(1). " + r, src + "e(1). r(X) :- e(X). " + r} {
			expectNoMagic(t, src, "p(1)")
			expectNoMagic(t, src, "q(X)")
			expectNoMagic(t, src, "r(1)")
		}
	}
	// Any other letter, also before an M, is left to the program.
	expectMagic(t, "p(XM) :- e(XM, N1, L).", "p(M1)", "m_p_f().", "p_f(M1) :- m_p_f(), p(M1).", "p_f(XM) :- m_p_f(), e(XM, N1, L).")
}

func TestUnderscoresInNamesOfRelations(t *testing.T) {
	for _, src := range []string{
		"rel a_b(int). p(1).", "p(1). a_() :- e(X).", "p(1). z(X) :- e_(X).", "p(1). z(1) :- not e_e(X, 1), X = 1.",
		"p(X) :- e_f(X).", "p(X) :- q_(X). q_(1).", "p(1). p_b(1).", "p(1). m_p_b(1).", "p(1). z(count) :- a__(_).",
	} {
		expectNoMagic(t, src, "p(1)")
	}
	expectNoMagic(t, "p_(1).", "p_(1)")
	expectNoMagic(t, "p_q(1).", "p_q(1)")
	// Variables may have one.
	expectMagic(t, "p(X_) :- e(X_).", "p(1)", "m_p_b(1).", "p_b(M1) :- m_p_b(M1), p(M1).", "p_b(X_) :- m_p_b(X_), e(X_).")
}

// The name m_R_P is longer than R by the pattern and three more bytes.
func TestMagicWithLongNames(t *testing.T) {
	for wide := range impl.MaxWide + 1 {
		args := strings.Join(slices.Repeat([]string{"X"}, wide), ", ")
		name := func(n int) string { return strings.Repeat("w", n) }
		body := " :- e(X). "
		most := impl.MaxWord - wide - 3
		for _, src := range []string{"%s(%s)%s", "p() :- %[1]s(%[2]s). %[1]s(%[2]s)%[3]s"} {
			query := "p()"
			if !strings.HasPrefix(src, "p") {
				query = name(most) + "(" + strings.ReplaceAll(args, "X", "_") + ")"
			}
			p := programOf(t, fmt.Sprintf(src, name(most), args, body))
			if _, ok := impl.Magic(p, atomIn(t, query)); !ok {
				t.Errorf("%s for %s", impl.ShowProgram(p), query)
			}
			if query != "p()" {
				query = "w" + query
			}
			expectNoMagic(t, fmt.Sprintf(src, name(most+1), args, body), query)
		}
		// A name that the transformed program does not lengthen may have MaxWord bytes.
		p := programOf(t, fmt.Sprintf("p(1). p(X) :- %s(%s), e(X). rel %s().", name(impl.MaxWord), args, name(impl.MaxWord-1)))
		if _, ok := impl.Magic(p, atomIn(t, "p(1)")); !ok {
			t.Errorf("%s has no transformed program", impl.ShowProgram(p))
		}
	}
}

// A body gets the guard, and a test for each bound expression of the head.
func TestMagicWithLongBodies(t *testing.T) {
	src := func(head string, literals int) string {
		return "p(" + head + ") :- e(X, Y)" + strings.Repeat(", X < Y", literals-1) + ". "
	}
	for _, c := range []struct {
		head, query string
		most        int
	}{
		{"X, Y", "p(1, 2)", impl.MaxBody - 1},
		{"X, Y", "p(_, _)", impl.MaxBody - 1},
		{"X + 1, Y + 1", "p(_, _)", impl.MaxBody - 1},
		{"X + 1, Y + 1", "p(1, _)", impl.MaxBody - 2},
		{"X + 1, Y + 1", "p(1, 2)", impl.MaxBody - 3},
	} {
		got, ok := impl.Magic(programOf(t, src(c.head, c.most)), atomIn(t, c.query))
		if !ok || len(got.Rules) != 3 || len(got.Rules[2].Body) != impl.MaxBody {
			t.Errorf("%d literals of p(%s) for %s: %v\n%s", c.most, c.head, c.query, ok, impl.ShowProgram(got))
		}
		expectNoMagic(t, src(c.head, c.most+1), c.query)
		expectNoMagic(t, src(c.head, impl.MaxBody), c.query)
		// The limit is for needed rules only.
		if _, ok := impl.Magic(programOf(t, src(c.head, impl.MaxBody)+"q(1)."), atomIn(t, "q(1)")); !ok {
			t.Errorf("%d literals of a rule that is not needed", impl.MaxBody)
		}
	}
}

func TestMagicWithManyRules(t *testing.T) {
	facts := func(n int) string {
		src := ""
		for i := range n {
			src += fmt.Sprintf("p(%d). ", i)
		}
		return src
	}
	got, ok := impl.Magic(programOf(t, facts(impl.MaxRules-2)), atomIn(t, "p(X)"))
	if !ok || len(got.Rules) != impl.MaxRules {
		t.Errorf("MaxRules rules: %v, %d rules", ok, len(got.Rules))
	}
	expectNoMagic(t, facts(impl.MaxRules-1), "p(X)")
	expectNoMagic(t, facts(impl.MaxRules), "p(X)")
	if _, ok := impl.Magic(programOf(t, facts(impl.MaxRules-1)+"q(1)."), atomIn(t, "q(1)")); !ok {
		t.Error("rules that are not needed are counted")
	}
	// Each pattern has the rules again, and each request one of its own.
	const two = "q(X) :- p(X), p(X). "
	got, ok = impl.Magic(programOf(t, two+facts(46)), atomIn(t, "q(X)"))
	if !ok || len(got.Rules) != 99 {
		t.Errorf("two patterns: %v, %d rules", ok, len(got.Rules))
	}
	expectNoMagic(t, two+facts(47), "q(X)")
	// 256 patterns, of which each has as many rules.
	p := programOf(t, strings.Repeat("p(A, B, C, D, E, F, G, H) :- p(_, A, B, C, D, E, F, G), p(B, C, D, E, F, G, H, 1), p(B, A, C, 0, E, F, H, 0), e(A, B, C, D, E, F, G, H). ", impl.MaxRules/2))
	expectUnmagic(t, "too many patterns", p, atomIn(t, "p(1, A, A, A, A, A, A, A)"))
}

// A rule that says what is needed has not all literals that bind the variables
// of the atoms before it.
func TestMagicWithUnboundVariables(t *testing.T) {
	for _, src := range []string{
		"p(X) :- Y = 1, e(Y + 1, X), q(X). q(1).",
		"p(X) :- e(Y + 1, X), q(Y). q(1).",
		"p(X) :- e(Y + 1, X), q(X), e(Y, Y). q(1).",
		"p(X) :- q(X + Y), q(Y), q(X). q(1).",
	} {
		expectNoMagic(t, src, "p(1)")
		expectNoMagic(t, src, "p(X)")
		if _, ok := impl.Magic(programOf(t, src), atomIn(t, "q(1)")); !ok {
			t.Errorf("%s has no transformed program for q(1)", src)
		}
	}
	// In another order they are bound.
	for _, src := range []string{
		"p(X) :- q(X), Y = 1, e(Y + 1, X). q(1).",
		"p(X) :- q(Y), e(Y + 1, X). q(1).",
		"p(X) :- e(Y, Y), e(Y + 1, X), q(X). q(1).",
		"p(X) :- q(X), q(Y), q(X + Y). q(1).",
	} {
		if _, ok := impl.Magic(programOf(t, src), atomIn(t, "p(1)")); !ok {
			t.Errorf("%s has no transformed program", src)
		}
	}
}

func TestAnswers(t *testing.T) {
	for _, src := range []string{pathRules, rightPath, bothPath} {
		expectBoth(t, src, chain(), "path(1, X)", "(1, 2)", "(1, 3)", "(1, 4)")
		expectBoth(t, src, chain(), "path(2, _)", "(2, 3)", "(2, 4)")
		expectBoth(t, src, chain(), "path(X, 3)", "(1, 3)", "(2, 3)")
		expectBoth(t, src, chain(), "path(1, 3)", "(1, 3)")
		expectBoth(t, src, chain(), "path(3, 1)")
		expectBoth(t, src, chain(), "path(X, X)")
		expectBoth(t, src, chain(), "path(X, Y)", "(1, 2)", "(1, 3)", "(1, 4)", "(2, 3)", "(2, 4)", "(3, 4)")
		loop := database(relation("edge", "(1, 2)", "(2, 1)", "(3, 1)"))
		expectBoth(t, src, loop, "path(X, X)", "(1, 1)", "(2, 2)")
		expectBoth(t, src, loop, "path(3, X)", "(3, 1)", "(3, 2)")
		expectBoth(t, src, nil, "path(1, X)")
		// The rows that db has in the derived relation count too.
		expectBoth(t, src, append(chain(), relation("path", "(4, 0)")), "path(4, X)", "(4, 0)")
	}
	more := append(chain(), relation("path", "(0, 2)", "(4, 5)"))
	expectBoth(t, pathRules, more, "path(0, X)", "(0, 2)", "(0, 3)", "(0, 4)")
	expectBoth(t, pathRules, more, "path(3, X)", "(3, 4)")
	expectBoth(t, rightPath, more, "path(0, X)", "(0, 2)")
	expectBoth(t, rightPath, more, "path(3, X)", "(3, 4)", "(3, 5)")
	expectBoth(t, bothPath, more, "path(0, X)", "(0, 2)", "(0, 3)", "(0, 4)", "(0, 5)")
	expectBoth(t, bothPath, more, "path(X, 5)", "(0, 5)", "(1, 5)", "(2, 5)", "(3, 5)", "(4, 5)")
	const parity = "even(0). even(Y) :- odd(X), next(X, Y). odd(Y) :- even(X), next(X, Y)."
	next := database(relation("next", "(0, 1)", "(1, 2)", "(2, 3)", "(3, 4)"))
	expectBoth(t, parity, next, "even(4)", "(4)")
	expectBoth(t, parity, next, "odd(4)")
	expectBoth(t, parity, next, "even(X)", "(0)", "(2)", "(4)")
	const cousins = "same(X, X) :- person(X). same(X, Y) :- parent(X, A), same(A, B), parent(Y, B)."
	family := database(relation("parent", `("ann", "eve")`, `("bob", "eve")`, `("cid", "ann")`, `("dan", "bob")`, `("zoe", "yan")`),
		relation("person", `("ann")`, `("bob")`, `("cid")`, `("dan")`, `("eve")`, `("yan")`, `("zoe")`))
	expectBoth(t, cousins, family, `same("cid", X)`, `("cid", "cid")`, `("cid", "dan")`)
	expectBoth(t, cousins, family, `same(X, "zoe")`, `("zoe", "zoe")`)
	expectBoth(t, cousins, family, `same("ann", "bob")`, `("ann", "bob")`)
	expectBoth(t, "on() :- e(_). p(X) :- on(), e(X).", database(relation("e", "(1)", "(?3)")), "p(X)", "(1)", "(?3)")
	expectBoth(t, "on() :- e(_).", database(relation("e", "(1)")), "on()", "()")
	expectBoth(t, "on() :- e(_).", nil, "on()")
}

func TestAnswersOfHeadsAndArguments(t *testing.T) {
	e := database(relation("d", "(1, 2)", "(2, 4)", "(4, 8)", `(5, "a")`, "(?1, ?2)"), relation("e", "(1)", "(2)", "(4)", `("a")`, "(?1)"))
	expectBoth(t, `p(1, X) :- e(X). p("a", 9).`, e, "p(1, 2)", "(1, 2)")
	expectBoth(t, `p(1, X) :- e(X). p("a", 9).`, e, `p("a", X)`, `("a", 9)`)
	expectBoth(t, "p(X, X) :- e(X).", e, "p(1, X)", "(1, 1)")
	expectBoth(t, "p(X, X) :- e(X).", e, "p(1, 2)")
	// An expression in a head, and a variable whose value has none.
	expectBoth(t, "p(X + 1, X) :- e(X).", e, "p(3, X)", "(3, 2)")
	expectBoth(t, "p(X + 1, X) :- e(X).", e, "p(Y, 2)", "(3, 2)")
	expectBoth(t, "p(X + 1, X) :- e(X).", e, "p(Y, X)", "(2, 1)", "(3, 2)", "(5, 4)")
	expectBoth(t, "p(X + 1, X) :- e(X).", e, `p(_, "a")`)
	expectBoth(t, "p(X * 1000000000) :- e(X).", e, "p(1000000000)", "(1000000000)")
	expectBoth(t, "up(0). up(X + 1) :- up(X), X < 50.", nil, "up(50)", "(50)")
	expectBoth(t, "up(0). up(X + 1) :- up(X), X < 50.", nil, "up(51)")
	// An expression is asked for, also if it has no value for some rows.
	const double = "twice(X, Y) :- d(X, Y). p(X) :- e(X), twice(X * 2, _)."
	expectBoth(t, double, e, "p(X)", "(1)", "(2)")
	expectBoth(t, double, e, "p(2)", "(2)")
	expectBoth(t, double, e, `p("a")`)
	expectBoth(t, "fib(0, 0). fib(1, 1). fib(N, A + B) :- n(N), N > 1, fib(N - 1, A), fib(N - 2, B).", database(relation("n", "(2)", "(3)", "(4)", "(5)", "(6)")), "fib(6, X)", "(6, 8)")
	expectBoth(t, "p(X) :- e(X), q(_, X). q(X, Y) :- d(X, Y).", e, "p(X)", "(2)", "(4)", `("a")`)
	expectBoth(t, "rel p(text). rel q(any). p(X) :- q(X). q(X) :- e(X).", e, "p(1)", "(1)")
	expectBoth(t, "p(X, Y) :- d(X, Y), Y = X + X. q(Y) :- p(1, X), p(X, Y), Y != X.", e, "q(X)", "(4)")
}

// The model of the transformed program has only what the query needs.
func TestMagicSavesWork(t *testing.T) {
	db := database(relation("edge", "(1, 2)", "(2, 3)", "(3, 4)", "(11, 12)", "(12, 13)", "(13, 14)"))
	p := programOf(t, rightPath)
	expectWork(t, rightPath, db, 12)
	for query, want := range map[string]int64{
		"path(3, X)":  3,  // m_path_bf 3 and 4, path_bf 3-4
		"path(1, X)":  10, // m_path_bf 1 to 4, path_bf from 1, 2 and 3
		"path(99, X)": 1,  // m_path_bf 99
		"path(3, 4)":  3,  // m_path_bb 3-4 and 4-4, path_bb 3-4
	} {
		m, ok := impl.Magic(p, atomIn(t, query))
		if got := impl.Work(m, db); !ok || got != want {
			t.Errorf("Work for %s = %d, not %d", query, got, want)
		}
	}
	// A relation that no request reaches has no rows, and no rule over it fails.
	endless := "up(0). up(X + 1) :- up(X). p(X) :- e(X), q(X). q(X) :- none(X), up(X)."
	if rows := impl.Answer(programOf(t, endless), database(relation("e", "(1)")), atomIn(t, "p(X)")); rows != nil {
		t.Errorf("Answer = %s", shownRows(rows))
	}
	m, _ := impl.Magic(programOf(t, endless), atomIn(t, "p(X)"))
	if got := impl.Work(m, database(relation("e", "(1)"))); got != 2 { // m_p_f() and m_q_b(1)
		t.Errorf("Work without up = %d", got)
	}
}

func TestWork(t *testing.T) {
	expectWork(t, "", nil, 0)
	expectWork(t, "", chain(), 0)
	expectWork(t, "rel edge(int, int). rel other().", chain(), 0)
	expectWork(t, "p(1). p(2). p(1). q().", nil, 3)
	expectWork(t, pathRules, chain(), 6)
	expectWork(t, pathRules, nil, 0)
	expectWork(t, pathRules, append(chain(), relation("path", "(1, 2)", "(1, 4)")), 4)
	expectWork(t, pathRules, append(chain(), relation("path", "(0, 1)")), 9)
	expectWork(t, "edge(1, 2). edge(4, 5).", chain(), 1)
	expectWork(t, "far(X, count) :- path(X, Y). end(X) :- edge(_, X), not edge(X, _). "+pathRules, chain(), 10)
	expectWork(t, "p(X) :- q(X).", nil, 0)
	expectWork(t, "p_f(1). m_p_f() :- p_f(1).", database(relation("a_b", "(1)")), 2)
	const most = impl.MaxRows
	full := database(impl.Rel{Name: "n", Rows: countTo(most)})
	expectWork(t, "p(X) :- n(X). q(X) :- n(X).", full, 2*most)
	expectWork(t, "p(X) :- n(X). p(-1).", full, -1)
	expectWork(t, "up(0). up(X + 1) :- up(X).", nil, -1)
	expectWork(t, "p(1). p(X) :- a(A, B, C, D, E, F, G, H), X = 1.", nil, -1)
	expectWork(t, "p(X).", nil, -1)
	expectWork(t, "p(1). p(1, 2).", nil, -1)
	expectWork(t, "p(X) :- edge(X, _), not p(X).", chain(), -1)
	expectWork(t, "p(X) :- edge(X).", chain(), -1)
	if got := impl.Work(programOf(t, "r() :- r000()."), namedRels(impl.MaxRels)); got != -1 {
		t.Errorf("Work with MaxRels + 1 relations = %d", got)
	}
	for name, db := range invalidDatabases() {
		if got := impl.Work(programOf(t, "p(1)."), db); got != -1 {
			t.Errorf("%s: Work = %d", name, got)
		}
	}
	for i, p := range invalidPrograms() {
		if got := impl.Work(p, nil); got != -1 {
			t.Errorf("invalid program %d: Work = %d", i, got)
		}
	}
}

// Answer needs the model of p only, and AnswerAlone that of the transformed
// program only.
func TestOneOfTheModelsDoesNotExist(t *testing.T) {
	answers := func(name, src string, db []impl.Rel, query string, of, alone [][]impl.Value) {
		t.Helper()
		p, q := programOf(t, src), atomIn(t, query)
		if got := impl.Answer(p, db, q); !sameRows(got, of) || (got == nil) != (of == nil) {
			t.Errorf("%s: Answer = %s", name, shownRows(got))
		}
		if got := impl.AnswerAlone(p, db, q); !sameRows(got, alone) || (got == nil) != (alone == nil) {
			t.Errorf("%s: AnswerAlone = %s", name, shownRows(got))
		}
	}
	one := [][]impl.Value{numbers(1)}
	answers("too many rounds of a relation that is not needed", "up(0). up(X + 1) :- up(X). p(1).", nil, "p(X)", nil, one)
	answers("too many rounds of the query", "up(0). up(X + 1) :- up(X).", nil, "up(1)", nil, nil)
	const along = "up(0). up(X) :- up(Y), next(Y, X)."
	for last, alone := range map[int64][][]impl.Value{196: {numbers(196)}, 197: nil, 198: nil} {
		answers("too many rounds of the transformed program", along, database(impl.Rel{Name: "next", Rows: rowsTo(last)}), fmt.Sprintf("up(%d)", last), [][]impl.Value{numbers(last)}, alone)
	}
	nine := "p(A * 1) :- a(A, B, C, D), b(E, F, G, H)."
	db := database(relation("a", "(1, 2, 3, 4)"), relation("b", "(5, 6, 7, 8)"))
	answers("the variable M1 is one too many", nine, db, "p(1)", one, nil)
	answers("there is no variable M1", nine, db, "p(X)", one, one)
	answers("more variables that are not needed", "z(X) :- a(A, B, C, D), b(E, F, G, H), e(X). p(1).", nil, "p(1)", nil, one)
	full := append(namedRels(impl.MaxRels-2), relation("s", "(1)"), relation("t", "(1)"))
	answers("MaxRels relations", "s(X) :- t(X).", full, "s(X)", one, nil)
	full = append(namedRels(impl.MaxRels-4), relation("s", "(1)"), relation("t", "(1)"))
	answers("MaxRels - 2 relations", "s(X) :- t(X).", full, "s(X)", one, one)
	wide := database(relation("e", "(1)"), relation("z", "(1, 2)"))
	answers("another width of a relation that is not needed", "p(X) :- e(X). z(X) :- e(X).", wide, "p(X)", nil, one)
	answers("another width of a relation that is only declared", "p(X) :- e(X). rel z(int).", wide, "p(X)", nil, one)
	answers("another width of a relation that is needed", "p(X) :- e(X), z(X).", wide, "p(X)", nil, nil)
	answers("another width of the query", "z(X) :- e(X).", wide, "z(X)", nil, nil)
	answers("another width of a relation that no rule reaches", "p(X) :- e(X). p(X) :- q(X). q(X) :- e(X), z(X).", wide, "p(X)", nil, nil)
	many := database(impl.Rel{Name: "n", Rows: countTo(impl.MaxRows)})
	answers("too many rows", "p(X) :- n(X). p(-1).", many, "p(X)", nil, nil)
	answers("too many rows that are not needed", "p(X) :- n(X). p(-1).", many, "p(-1)", nil, [][]impl.Value{numbers(-1)})
	for name, db := range invalidDatabases() {
		answers(name, "p(1).", db, "p(1)", nil, nil)
	}
}

// rowsTo returns the rows (0, 1) to (n - 1, n).
func rowsTo(n int64) [][]impl.Value {
	rows := [][]impl.Value{}
	for i := range n {
		rows = append(rows, numbers(i, i+1))
	}
	return rows
}

// The database may have relations with an underscore in their names. Only those
// that the transformed program has too make a difference.
func TestUnderscoresInNamesOfTheDatabase(t *testing.T) {
	const src = "p(X) :- e(X)."
	e := relation("e", "(1)", "(2)")
	expectBoth(t, src, database(relation("a_", "(7)"), e, relation("p_f", "(8)"), relation("x_y_z")), "p(1)", "(1)")
	expectBoth(t, src, database(e, relation("m_p_b", "(2)")), "p(1)", "(1)")
	alone := func(db []impl.Rel, query string, rows ...string) {
		t.Helper()
		expectTable(t, "AnswerAlone "+query, impl.AnswerAlone(programOf(t, src), db, atomIn(t, query)), relation("", rows...).Rows)
	}
	alone(database(e, relation("p_b", "(1)", "(2)", "(3)")), "p(3)", "(3)")
	alone(database(e, relation("p_f", "(3)")), "p(X)", "(1)", "(2)", "(3)")
	alone(database(e, relation("p_b", "(1, 2)")), "p(1)")
	alone(database(e, relation("m_p_b", "()")), "p(1)")
	alone(database(e, relation("m_p_f", "()")), "p(X)", "(1)", "(2)")
	if rows := impl.AnswerAlone(programOf(t, src), database(e, relation("p_b", "(1, 2)")), atomIn(t, "p(1)")); rows != nil {
		t.Errorf("rows of another width: %s", shownRows(rows))
	}
	expectTable(t, "Answer", impl.Answer(programOf(t, src), database(e, relation("p_b", "(1)", "(3)")), atomIn(t, "p(3)")), nil)
	// The answer is also that of a query with an underscore.
	expectTable(t, "Answer p_b", impl.Answer(programOf(t, src), database(e, relation("p_b", "(1)", "(3)")), atomIn(t, "p_b(3)")), [][]impl.Value{numbers(3)})
	expectTable(t, "Answer p_", impl.Answer(programOf(t, "p_(X) :- e(X)."), database(e), atomIn(t, "p_(1)")), [][]impl.Value{numbers(1)})
}

// Answer is Ask: it also has the rows of relations that are not derived, and of
// those that only db has.
func TestAnswersOfOtherRelations(t *testing.T) {
	p, db := programOf(t, pathRules), append(chain(), relation("other", "(1)", "(2)"))
	for _, query := range []string{"edge(1, X)", "edge(X, X)", "other(2)", "other(X)", "absent(X)", "path(X)", "edge(X)", "path(X, 1 + 2)"} {
		q := atomIn(t, query)
		expectTable(t, "Answer "+query, impl.Answer(p, db, q), impl.Ask(impl.Model(p, db).Db, q))
		expectTable(t, "AnswerAlone "+query, impl.AnswerAlone(p, db, q), nil)
	}
	expectTable(t, "Answer edge(1, X)", impl.Answer(p, db, atomIn(t, "edge(1, X)")), [][]impl.Value{numbers(1, 2)})
}

// A querier makes random programs, mostly ones that can be transformed, and
// queries.
type querier struct {
	modeler
}

func newQuerier(seed int64) querier { return querier{newModeler(seed)} }

func (g querier) query() impl.Atom {
	a := impl.Atom{Name: plannedNames[g.source.Intn(len(plannedNames))]}
	for range g.widths[a.Name] {
		switch n := g.source.Intn(100); {
		case n < 45:
			a.Args = append(a.Args, constantNode(number(g.source.Int63n(4))))
		case n < 50:
			a.Args = append(a.Args, constantNode(text("a")))
		case n < 60:
			a.Args = append(a.Args, anyNode())
		default:
			a.Args = append(a.Args, variableNode([]string{"X", "Y"}[g.source.Intn(2)]))
		}
	}
	return a
}

// derivedQuery asks for a relation of p that is derived.
func (g querier) derivedQuery(p impl.Program) impl.Atom {
	for {
		q := g.query()
		if slices.ContainsFunc(p.Rules, func(r impl.Rule) bool { return r.Head.Name == q.Name }) {
			return q
		}
	}
}

// renamed returns p with another name for every X, or for one of the relations.
func (g querier) renamed(p impl.Program) impl.Program {
	name := map[string]string{plannedNames[g.source.Intn(6)]: []string{"a_b", "longName", "a2345678901234567"}[g.source.Intn(3)]}
	if g.chance(50) {
		name = map[string]string{"X": []string{"M", "M1", "Mm", "N1", "XM"}[g.source.Intn(5)]}
	}
	p = spacious(p)
	rename := func(s *string) {
		if name[*s] != "" {
			*s = name[*s]
		}
	}
	expr := func(es []impl.Node) {
		for i := range es {
			rename(&es[i].Name)
		}
	}
	atom := func(a *impl.Atom) {
		rename(&a.Name)
		for _, es := range a.Args {
			expr(es)
		}
	}
	for i := range p.Rules {
		atom(&p.Rules[i].Head)
		for j := range p.Rules[i].Body {
			l := &p.Rules[i].Body[j]
			atom(&l.Atom)
			expr(l.Left)
			expr(l.Right)
		}
	}
	for i := range p.Decls {
		rename(&p.Decls[i].Name)
	}
	slices.SortFunc(p.Decls, func(a, b impl.Decl) int { return strings.Compare(a.Name, b.Name) })
	return p
}

// isVariableIn reports whether name is a variable of es.
func isVariableIn(es []impl.Node, name string) bool {
	return slices.ContainsFunc(es, func(n impl.Node) bool { return n.Kind == impl.NodeVar && n.Name == name })
}

// mayBeTransformed repeats the conditions of Magic but the last one.
func mayBeTransformed(p impl.Program, q impl.Atom) bool {
	if expectedFault(p).Code != impl.CheckOk || !impl.ProgramOk(rules(ruleOf(q))) {
		return false
	}
	for _, es := range q.Args {
		if len(es) != 1 {
			return false
		}
	}
	isAsked := false
	for _, r := range expectedRelations(p) {
		if strings.ContainsRune(r.Name, '_') {
			return false
		}
		isAsked = isAsked || r.Name == q.Name && r.Derived && r.Wide == int64(len(q.Args))
	}
	needed := expectedNeeds(p, []string{q.Name})
	for _, r := range p.Rules {
		if !slices.Contains(needed, r.Head.Name) {
			continue
		}
		if strings.Join(r.Aggs, "") != "" || slices.ContainsFunc(impl.VarsOf(r), func(name string) bool { return name[0] == 'M' }) {
			return false
		}
		for _, l := range r.Body {
			if l.Kind == impl.LitNot {
				return false
			}
		}
	}
	return isAsked
}

// expectedMagic repeats the definition of the transformed program as a text: the
// rules of one pair after the other, each found again in the text so far.
func expectedMagic(p impl.Program, q impl.Atom) []string {
	shown := func(r impl.Rule) string { return strings.TrimSuffix(impl.ShowProgram(rules(r)), "\n") }
	// pattern has a b for each argument all variables of which are known by the
	// b arguments of the head and the atoms before.
	pattern := func(args [][]impl.Node, isKnown func(string) bool) string {
		letters := ""
		for _, es := range args {
			isBound := es[0].Kind != impl.NodeAny
			for _, n := range es {
				isBound = isBound && (n.Kind != impl.NodeVar || isKnown(n.Name))
			}
			letters += map[bool]string{true: "b", false: "f"}[isBound]
		}
		return letters
	}
	at := func(letters string, args [][]impl.Node) [][]impl.Node {
		list := [][]impl.Node{}
		for i, letter := range letters {
			if letter == 'b' {
				list = append(list, args[i])
			}
		}
		return list
	}
	none := func(string) bool { return false }
	first := pattern(q.Args, none)
	lines := []string{shown(ruleOf(atomOf("m_"+q.Name+"_"+first, at(first, q.Args)...)))}
	pairs := [][2]string{{q.Name, first}}
	for next := 0; next < len(pairs) && len(lines) < 500; next++ {
		name, letters := pairs[next][0], pairs[next][1]
		ms := [][]impl.Node{}
		for i := range letters {
			ms = append(ms, variableNode(fmt.Sprint("M", i+1)))
		}
		lines = append(lines, shown(ruleOf(atomOf(name+"_"+letters, ms...), atomLit(atomOf("m_"+name+"_"+letters, at(letters, ms)...)), atomLit(atomOf(name, ms...)))))
		for _, r := range p.Rules {
			if r.Head.Name != name {
				continue
			}
			asked, tests := slices.Clone(ms), []impl.Lit{}
			for i, es := range r.Head.Args {
				if len(es) == 1 {
					asked[i] = es
				} else if letters[i] == 'b' {
					tests = append(tests, testLit(ms[i], "=", es))
				}
			}
			guard := atomLit(atomOf("m_"+name+"_"+letters, at(letters, asked)...))
			transformed := []impl.Lit{guard}
			for i, l := range r.Body {
				isKnown := func(name string) bool {
					alone := at(letters, r.Head.Args)
					for _, l := range r.Body[:i] {
						alone = append(alone, l.Atom.Args...)
					}
					return slices.ContainsFunc(alone, func(es []impl.Node) bool { return len(es) == 1 && isVariableIn(es, name) })
				}
				isDerived := slices.ContainsFunc(p.Rules, func(r impl.Rule) bool { return r.Head.Name == l.Atom.Name })
				if l.Kind == impl.LitAtom && isDerived {
					pair := [2]string{l.Atom.Name, pattern(l.Atom.Args, isKnown)}
					atoms := slices.DeleteFunc(slices.Clone(transformed), func(l impl.Lit) bool { return l.Kind != impl.LitAtom })
					lines = append(lines, shown(ruleOf(atomOf("m_"+pair[0]+"_"+pair[1], at(pair[1], l.Atom.Args)...), atoms...)))
					if !slices.Contains(pairs, pair) {
						pairs = append(pairs, pair)
					}
					l = atomLit(atomOf(pair[0]+"_"+pair[1], l.Atom.Args...))
				}
				transformed = append(transformed, l)
			}
			r.Head.Name += "_" + letters
			r.Body = append(transformed, tests...)
			lines = append(lines, shown(r))
		}
	}
	return lines
}

func TestRandomProgramsAreTransformedAsDefined(t *testing.T) {
	g := newQuerier(71)
	transformed, faults, refused, long := 0, 0, 0, 0
	for i := range 6000 {
		p, _ := g.valid()
		if i%2 == 0 {
			p, _ = g.positive()
		}
		if i%3 == 0 {
			p = g.renamed(p)
		}
		q := g.query()
		if i%8 == 0 {
			q = g.atom()
		}
		got, ok := impl.Magic(p, q)
		if !mayBeTransformed(p, q) {
			if ok || !isZero(got) {
				t.Fatalf("%sMagic for %v is\n%s", impl.ShowProgram(p), q, impl.ShowProgram(got))
			}
			refused++
			continue
		}
		lines := expectedMagic(p, q)
		want := strings.Join(lines, "\n") + "\n"
		if !ok {
			// ShowProgram shows a rule that is not valid as nothing.
			read, at := impl.ReadProgram(want)
			if !isZero(got) || len(lines) <= impl.MaxRules && !slices.Contains(lines, "") && at == -1 && expectedFault(read).Code == impl.CheckOk {
				t.Fatalf("%sMagic for %v does not exist", impl.ShowProgram(p), q)
			}
			faults++
			continue
		}
		transformed++
		if len(lines) > 20 {
			long++
		}
		if impl.ShowProgram(got) != want || len(got.Decls) != 0 {
			t.Fatalf("%sMagic for %v is\n%snot\n%s", impl.ShowProgram(p), q, impl.ShowProgram(got), want)
		}
	}
	if transformed < 1500 || faults < 30 || refused < 1500 || long < 300 {
		t.Errorf("only %d programs transformed, %d with a fault, %d refused, %d long", transformed, faults, refused, long)
	}
}

// Promise 7.
func TestBothAnswersAreEqual(t *testing.T) {
	g := newQuerier(72)
	compared, found, narrow, deep := 0, 0, 0, 0
	for i := range 4000 {
		p, db := g.positive()
		if i%6 == 0 {
			p, db = g.valid()
		}
		if len(p.Rules) == 0 {
			continue
		}
		q := g.derivedQuery(p)
		transformed, ok := impl.Magic(p, q)
		m, alone := impl.Model(p, db), impl.Model(transformed, db)
		if !ok || m.Code != impl.ModelOk || alone.Code != impl.ModelOk {
			continue
		}
		want := impl.Ask(m.Db, q)
		if got := impl.Answer(p, db, q); !sameRows(got, want) {
			t.Fatalf("%s\nAnswer to %v: %s, not %s", shownProgram(p, db), q, shownRows(got), shownRows(want))
		}
		if got := impl.AnswerAlone(p, db, q); !sameRows(got, want) {
			t.Fatalf("%s\nAnswerAlone to %v: %s, not %s", shownProgram(p, db), q, shownRows(got), shownRows(want))
		}
		compared++
		if len(want) > 0 {
			found++
		}
		if len(want) > 0 && len(want) < len(impl.RowsOf(m.Db, q.Name)) {
			narrow++
		}
		if len(want) > 0 && m.Rounds > int64(len(impl.Strata(p))+2) {
			deep++
		}
	}
	if compared < 2500 || found < 1000 || narrow < 400 || deep < 80 {
		t.Errorf("only %d answers compared, %d with rows, %d with some of the rows, %d of many rounds", compared, found, narrow, deep)
	}
}

// Promise 7 for graphs, in which most of the rows are not needed.
func TestBothAnswersAreEqualForGraphs(t *testing.T) {
	g := newQuerier(73)
	srcs := []string{
		pathRules, rightPath, bothPath,
		"path(X, Y) :- edge(X, Y). path(X, Z) :- back(X, Y), edge(Y, Z). back(X, Y) :- path(X, Y). back(X, Y) :- path(Y, X), X < Y.",
		"path(X, Y) :- sibling(X, Y), X != Y. sibling(X, X) :- edge(X, _). sibling(X, Y) :- edge(A, X), sibling(A, B), edge(B, Y).",
		"path(X, D + 1) :- path(X, D), edge(X, _), D < 9. path(X, 0) :- edge(X, X). path(X, D) :- edge(X, Y), path(Y, D), D > 2.",
		"path(X + 1, Y) :- edge(X, Y). path(X, Y) :- path(Y, X), path(X + 1, Z), edge(Z, _). path(X, Y) :- edge(X, Z), path(Z - 1, Y).",
	}
	found, saved := 0, 0
	for i := range 700 {
		rows := [][]impl.Value{}
		for range 3 + g.source.Intn(12) {
			rows = append(rows, numbers(g.source.Int63n(9), g.source.Int63n(9)))
		}
		p, db := programOf(t, srcs[i%len(srcs)]), database(impl.Rel{Name: "edge", Rows: impl.MakeTable(rows)})
		if g.chance(20) {
			db = append(db, relation("path", fmt.Sprintf("(%d, %d)", g.source.Intn(9), g.source.Intn(9))))
		}
		q := atomOf("path", variableNode("X"), variableNode("Y"))
		for j := range q.Args {
			if g.chance(60) {
				q.Args[j] = constantNode(number(g.source.Int63n(9)))
			}
		}
		got, want := impl.AnswerAlone(p, db, q), impl.Answer(p, db, q)
		if got == nil || want == nil || !sameRows(got, want) {
			t.Fatalf("%s\nAnswerAlone to %v: %s, not %s", shownProgram(p, db), q, shownRows(got), shownRows(want))
		}
		found += len(want)
		if transformed, _ := impl.Magic(p, q); impl.Work(transformed, db) < impl.Work(p, db) {
			saved++
		}
	}
	if found < 1000 || saved < 200 {
		t.Errorf("only %d rows found, work saved %d times", found, saved)
	}
}

func TestWorkCountsTheDerivedRows(t *testing.T) {
	g := newQuerier(74)
	for range 2000 {
		p, db := g.valid()
		want := int64(-1)
		if m := impl.Model(p, db); m.Code == impl.ModelOk {
			want = int64(rowCount(m.Db) - rowCount(db))
		}
		if got := impl.Work(p, db); got != want {
			t.Fatalf("%s\nWork: %d, not %d", shownProgram(p, db), got, want)
		}
	}
}

// Promise 19: no argument makes a function panic.
func TestMagicReturnsForEveryArgument(t *testing.T) {
	dbs := [][]impl.Rel{}
	for _, list := range []map[string][]impl.Rel{validDatabases(), invalidDatabases()} {
		for _, db := range list {
			dbs = append(dbs, db)
		}
	}
	queries := []impl.Atom{}
	for _, p := range slices.Concat(wildPrograms(500), plannedPrograms(200)) {
		for _, r := range p.Rules {
			queries = append(queries, r.Head)
		}
	}
	for i, p := range slices.Concat(wildPrograms(3000), plannedPrograms(3000), invalidPrograms(), []impl.Program{{}}) {
		db, atoms := dbs[i%len(dbs)], []impl.Atom{queries[i%len(queries)]}
		for _, r := range p.Rules {
			atoms = append(atoms, r.Head)
		}
		bad := impl.Fault(p).Code != impl.CheckOk
		for _, q := range atoms {
			got, ok := impl.Magic(p, q)
			alone, answer, work := impl.AnswerAlone(p, db, q), impl.Answer(p, db, q), impl.Work(p, db)
			if !ok && (!isZero(got) || alone != nil) || ok && impl.Fault(got).Code != impl.CheckOk {
				t.Fatalf("%v for %v: Magic = %v, AnswerAlone = %v", p, q, got, alone)
			}
			if bad && (ok || answer != nil || work != -1) || !impl.DbOk(db) && (alone != nil || answer != nil || work != -1) {
				t.Fatalf("%v over %v for %v: %v, %v, %v, %v", p, db, q, ok, alone, answer, work)
			}
		}
	}
}

// Promise 19: arguments stay as they are, results are new memory, and each
// call has the same result.
func TestMagicLeavesItsArgumentsAlone(t *testing.T) {
	g := newQuerier(75)
	transformed := 0
	for i := range 200 {
		p, db := g.positive()
		q := g.derivedQuery(p)
		if i%3 == 0 {
			p = programOf(t, `long(X, "some text", Y) :- label(X, Y), X != "other text". long(Y, X, X) :- long(_, X, "a text"), extra(X, Y). extra(Y, X + 1) :- label(X, Y), long(X + 1, "some text", Y).`)
			db = database(relation("label", `("a long text", 1)`, `("another text", 2)`, `(1, "b b b")`), relation("long", `(1, "a third text", 1)`), relation("other", `("a fourth text")`))
			q = atomOf("long", variableNode("X"), constantNode(text("some text")), variableNode("Y"))
		}
		p, db = spacious(p), spareDb(db)
		q = spacious(rules(ruleOf(q))).Rules[0].Head
		for _, es := range q.Args {
			es[0].Name, es[0].Value.Text = strings.Clone(es[0].Name), strings.Clone(es[0].Value.Text)
		}
		arguments := []any{p, db, q}
		before := contents(arguments...)
		call := func() []any {
			magic, ok := impl.Magic(p, q)
			return []any{magic, impl.Answer(p, db, q), impl.AnswerAlone(p, db, q), ok, impl.Work(p, db)}
		}
		results := call()
		for _, result := range results[:3] {
			for _, x := range arguments {
				expectOwnMemory(t, result, x)
			}
		}
		if results[3].(bool) {
			transformed++
		}
		if after := contents(arguments...); before != after {
			t.Fatalf("%s became %s", before, after)
		}
		if again := call(); !reflect.DeepEqual(again, results) {
			t.Fatalf("%v, then %v", results, again)
		}
		if t.Failed() {
			t.FailNow()
		}
	}
	if transformed < 100 {
		t.Errorf("only %d programs transformed", transformed)
	}
}
