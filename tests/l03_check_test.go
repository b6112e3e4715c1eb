package tests

import (
	"fmt"
	"math/rand"
	"reflect"
	"slices"
	"strings"
	"testing"

	"loop.example/g00030/impl"
)

func programOf(t *testing.T, src string) impl.Program {
	t.Helper()
	p, at := impl.ReadProgram(src)
	if at != -1 {
		t.Fatalf("%q is no program: error at %d", src, at)
	}
	return p
}

func expectFault(t *testing.T, src string, code int64, rule int64, name string) {
	t.Helper()
	want := impl.Trouble{Code: code, Rule: rule, Name: name}
	if got := impl.Fault(programOf(t, src)); got != want {
		t.Errorf("Fault(%q) = %v, not %v", src, got, want)
	}
}

func expectNoFault(t *testing.T, srcs ...string) {
	t.Helper()
	for _, src := range srcs {
		expectFault(t, src, impl.CheckOk, 0, "")
	}
}

// listed returns no nil for a list, as a nil list and an empty one are
// equivalent.
func listed[T any](list []T) []T {
	return append([]T{}, list...)
}

// shownStrata separates strata by bars and relations by blanks.
func shownStrata(strata [][]string) string {
	texts := []string{}
	for _, names := range strata {
		texts = append(texts, strings.Join(names, " "))
	}
	return strings.Join(texts, " | ")
}

func expectStrata(t *testing.T, src string, want string) {
	t.Helper()
	if got := shownStrata(impl.Strata(programOf(t, src))); got != want {
		t.Errorf("Strata(%q) = %s, not %s", src, got, want)
	}
}

// shownRelations writes a relation as its name, its width, and a star if it
// is derived.
func shownRelations(list []impl.Relation) string {
	texts := []string{}
	for _, r := range list {
		text := fmt.Sprint(r.Name, "/", r.Wide)
		if r.Derived {
			text += "*"
		}
		texts = append(texts, text)
	}
	return strings.Join(texts, " ")
}

func expectRelations(t *testing.T, src string, want string) {
	t.Helper()
	if got := shownRelations(impl.Relations(programOf(t, src))); got != want {
		t.Errorf("Relations(%q) = %s, not %s", src, got, want)
	}
}

// expectNeeds takes names that are separated by blanks.
func expectNeeds(t *testing.T, src string, names string, want string) {
	t.Helper()
	if got := impl.Needs(programOf(t, src), strings.Split(names, " ")); strings.Join(got, " ") != want {
		t.Errorf("Needs(%q, %q) = %v, not %v", src, names, got, want)
	}
}

func TestFaultOfOrdinaryPrograms(t *testing.T) {
	expectNoFault(t,
		"",
		"rel a().",
		"rel a(int, text, any). rel b().",
		"p().",
		`p(1, "a", -3).`,
		"rel edge(int, int). path(X, Y) :- edge(X, Y). path(X, Z) :- path(X, Y), edge(Y, Z).",
		"even(0). even(Y) :- odd(X), Y = X + 1, Y < 9. odd(Y) :- even(X), Y = X + 1.",
		"b(X) :- a(X). c(X) :- a(X), not b(X). d(count) :- c(X).",
		"rel pay(text, int). total(N, sum P) :- pay(N, P). best(max P) :- total(_, P). top(N) :- total(N, P), best(P), not late(N).",
	)
}

// invalidPrograms have other errors too, which a CheckForm precedes.
func invalidPrograms() []impl.Program {
	x := variableNode("X")
	open := ruleOf(atomOf("p", x))
	wide := ruleOf(atomOf("p", x, x))
	withRule := func(r impl.Rule) impl.Program { return rules(open, wide, r) }
	long := make([]impl.Rule, impl.MaxRules+1)
	for i := range long {
		long[i] = open
	}
	return []impl.Program{
		{Decls: []impl.Decl{{Name: "b"}, {Name: "a"}}, Rules: []impl.Rule{open, wide}},
		{Decls: []impl.Decl{{Name: "p", Types: []string{"number"}}}, Rules: []impl.Rule{open}},
		{Decls: []impl.Decl{{}}},
		{Rules: long},
		{Rules: []impl.Rule{{}}},
		withRule(impl.Rule{Head: atomOf("p", x)}),
		withRule(impl.Rule{Head: atomOf("p", x), Aggs: []string{"avg"}}),
		withRule(impl.Rule{Head: atomOf("p", x), Aggs: []string{"count"}}),
		withRule(ruleOf(atomOf("P", x))),
		withRule(ruleOf(atomOf("p", nil))),
		withRule(ruleOf(atomOf("p", []impl.Node{}))),
		withRule(ruleOf(atomOf("p", x), impl.Lit{})),
		withRule(ruleOf(atomOf("p", x), impl.Lit{Kind: impl.LitAtom})),
		withRule(ruleOf(atomOf("p", x), impl.Lit{Kind: impl.LitTest, Op: "="})),
		withRule(ruleOf(atomOf("p", x), impl.Lit{Kind: impl.LitTest, Op: "=", Left: x, Right: x, Atom: atomOf("p", x)})),
		withRule(ruleOf(atomOf("p", x), impl.Lit{Kind: impl.LitNot, Op: "=", Atom: atomOf("p", nil)})),
		withRule(ruleOf(atomOf("p", []impl.Node{{Kind: impl.NodeAdd, Size: 2}}))),
		withRule(ruleOf(atomOf("p", []impl.Node{{Kind: impl.NodeVar, Name: "X", Size: 1}}))),
	}
}

// Promise 19, for programs that are not valid.
func TestProgramsThatAreNotValid(t *testing.T) {
	for i, p := range invalidPrograms() {
		if got := impl.Fault(p); got != (impl.Trouble{Code: impl.CheckForm}) {
			t.Errorf("%d: Fault = %v", i, got)
		}
		if got := impl.Strata(p); got != nil {
			t.Errorf("%d: Strata = %v", i, got)
		}
		if got := impl.Relations(p); got != nil {
			t.Errorf("%d: Relations = %v", i, got)
		}
		if got := impl.Needs(p, []string{"p", "a", "b", "", "p"}); got != nil {
			t.Errorf("%d: Needs = %v", i, got)
		}
	}
}

func TestWidthsComeFromDeclarations(t *testing.T) {
	expectNoFault(t,
		"rel a(int, any). a(1, 2). p(X) :- a(X, _), not a(_, X).",
		"a(1, 2). rel a(int, any).",
		"rel a(). a() :- not b(), a(). ",
	)
	expectFault(t, "rel a(int). a(1, 2).", impl.CheckWidth, 0, "a")
	expectFault(t, "a(1, 2). a(1). rel a(int).", impl.CheckWidth, 0, "a")
	expectFault(t, "rel a(). p(1) :- q(1). p(1) :- a(1).", impl.CheckWidth, 1, "a")
	expectFault(t, "rel a(any, any). p() :- not a(1).", impl.CheckWidth, 0, "a")
	expectFault(t, "rel a(any). p() :- a().", impl.CheckWidth, 0, "a")
}

func TestWidthsComeFromTheFirstAtom(t *testing.T) {
	expectNoFault(t, "a(1, 2). a(X, Y) :- a(Y, X), not b(X, Y, 3). c() :- b(_, _, _).")
	expectFault(t, "a(1). b(1) :- a(1, 2).", impl.CheckWidth, 1, "a")
	expectFault(t, "b(1) :- a(1). a(1, 2).", impl.CheckWidth, 1, "a")
	expectFault(t, "b(1) :- not a(1). a(1). a(). a(1, 2).", impl.CheckWidth, 2, "a")
	expectFault(t, "b(1) :- a(1), a(1, 2).", impl.CheckWidth, 0, "a")
	expectFault(t, "b(1) :- a(1), not a().", impl.CheckWidth, 0, "a")
	// The head is the first atom although the body agrees on another width.
	expectFault(t, "a(1) :- a(1, 2), a(1, 2). a(1, 2).", impl.CheckWidth, 0, "a")
	expectFault(t, "a() :- b(1). c() :- b(1), 1 = 1, b(1, 1).", impl.CheckWidth, 1, "b")
}

func TestWidthsAreCheckedInOrder(t *testing.T) {
	expectFault(t, "p(). z(). p(1) :- z(1).", impl.CheckWidth, 2, "p")
	expectFault(t, "p(). z(). z(1) :- p(1).", impl.CheckWidth, 2, "z")
	expectFault(t, "p(). z(). q() :- z(1), p(1).", impl.CheckWidth, 2, "z")
	expectFault(t, "p(). z(). q() :- not p(1), z(1).", impl.CheckWidth, 2, "p")
	expectFault(t, "p(). z(). q() :- z(1). q() :- p(1).", impl.CheckWidth, 2, "z")
}

func TestVariablesThatAreBound(t *testing.T) {
	expectNoFault(t,
		"p(X) :- q(X).",
		"p(X) :- p(X).",
		"p(X, Y) :- q(1, Y, \"a\", X, _).",
		"p(X + Y * 2) :- q(X), q(Y).",
		"p(1) :- q(X), not r(X), not r(X + 1), X < 3, X * 2 != X - 1.",
		"p(1) :- not r(X), X < 3, q(X).",
		"p(count) :- q(_).",
		"p(X, count) :- q(X).",
		"p(min X + Y) :- q(X, Y).",
		"p(1) :- q(_), not r(_, _), not s(_).",
	)
}

func TestTestsThatBindAVariable(t *testing.T) {
	expectNoFault(t,
		"p(X) :- X = 1.",
		"p(X) :- 1 = X.",
		`p(X) :- X = "a".`,
		`p(X) :- X = "a" + 1.`,
		"p(X) :- q(Y), X = Y.",
		"p(X) :- q(Y), Y = X.",
		"p(X) :- q(Y), X = Y + 1.",
		"p(X) :- q(Y), Y * Y - 1 = X.",
		"p(X) :- X = Y + 1, q(Y).",
		"p(X) :- q(X), X = X.",
		"p(X) :- q(X), X = X + 1.",
		"p(X) :- q(X), X + 1 = X * 2.",
	)
	for _, op := range []string{"!=", "<", "<=", ">", ">="} {
		expectFault(t, "p(1) :- X "+op+" 1.", impl.CheckSafe, 0, "X")
		expectFault(t, "p(1) :- q(Y), Y "+op+" X.", impl.CheckSafe, 0, "X")
	}
	expectFault(t, "p(1) :- X = Y.", impl.CheckSafe, 0, "X")
	expectFault(t, "p(1) :- X = X.", impl.CheckSafe, 0, "X")
	expectFault(t, "p(1) :- X = X + 1.", impl.CheckSafe, 0, "X")
	expectFault(t, "p(1) :- X + 0 = 1.", impl.CheckSafe, 0, "X")
	expectFault(t, "p(1) :- 1 = 0 + X.", impl.CheckSafe, 0, "X")
	expectFault(t, "p(1) :- X = Y + 1, Y = X + 1.", impl.CheckSafe, 0, "X")
	expectFault(t, "p(1) :- q(X), X = Y + Z.", impl.CheckSafe, 0, "Y")
	expectFault(t, "p(1) :- q(Z), X = Y + Z.", impl.CheckSafe, 0, "X")
}

func TestAtomsWithPartsBindOnceTheirPartsAreBound(t *testing.T) {
	expectNoFault(t,
		"p(X) :- q(Y), r(Y + 1, X).",
		"p(X) :- r(Y + 1, X), q(Y).",
		"p(X) :- r(1 + 2, X).",
		"p(X) :- q(X, X + 1), r(X).",
		"p(X) :- r(X, Y * Z), q(Z), q(Y).",
	)
	expectFault(t, "p(X) :- r(X + 1).", impl.CheckSafe, 0, "X")
	expectFault(t, "p(X) :- q(X, X + 1).", impl.CheckSafe, 0, "X")
	expectFault(t, "p(1) :- q(Z + 1, A).", impl.CheckSafe, 0, "A")
	expectFault(t, "p(1) :- q(A, Z + 1).", impl.CheckSafe, 0, "A")
	expectFault(t, "p(1) :- q(A, Y + Z), r(Y).", impl.CheckSafe, 0, "A")
	expectFault(t, "p(X) :- r(Y + 1, X), s(X + 1, Y).", impl.CheckSafe, 0, "X")
}

func TestVariablesThatAreBoundAfterSeveralApplications(t *testing.T) {
	chain := []string{"A = B", "C = B", "r(C, D + 1)", "D = E * E", "F - 1 = E", "r(G + 2, F)", "q(G)"}
	source := rand.New(rand.NewSource(7))
	for range 200 {
		source.Shuffle(len(chain), func(i, j int) { chain[i], chain[j] = chain[j], chain[i] })
		expectNoFault(t, "p(A) :- "+strings.Join(chain, ", ")+".")
	}
	// Without one of the literals, what hangs on it is unbound.
	for i := range chain {
		rest := slices.Delete(slices.Clone(chain), i, i+1)
		expectFault(t, "p(A) :- "+strings.Join(rest, ", ")+".", impl.CheckSafe, 0, "A")
	}
	expectFault(t, "p(A) :- q(A), B = C + D, C = 1, D = E, F = 2, E = G + F.", impl.CheckSafe, 0, "B")
	expectFault(t, "p(A) :- q(A), Z = C + D, C = 1, D = E, F = 2, E = G + F.", impl.CheckSafe, 0, "D")
}

func TestNotBindsNothing(t *testing.T) {
	expectFault(t, "p(X) :- not q(X).", impl.CheckSafe, 0, "X")
	expectFault(t, "p(1) :- not q(X).", impl.CheckSafe, 0, "X")
	expectFault(t, "p(1) :- q(Y), not q(X).", impl.CheckSafe, 0, "X")
	expectFault(t, "p(1) :- q(Y), not q(Y + X).", impl.CheckSafe, 0, "X")
	expectFault(t, "p(1) :- not q(X), Y = X.", impl.CheckSafe, 0, "X")
}

func TestHeadsBindNothing(t *testing.T) {
	expectFault(t, "p(X).", impl.CheckSafe, 0, "X")
	expectFault(t, "p(X) :- q(Y).", impl.CheckSafe, 0, "X")
	expectFault(t, "p(X + 1) :- q(Y).", impl.CheckSafe, 0, "X")
	for _, agg := range []string{"min", "max", "sum"} {
		expectFault(t, "p("+agg+" X) :- q(Y).", impl.CheckSafe, 0, "X")
	}
	expectFault(t, "p(count, X) :- q(Y).", impl.CheckSafe, 0, "X")
}

func TestAnyOutsideOfItsPlacesIsUnbound(t *testing.T) {
	for _, src := range []string{
		"p(_) :- q(1).",
		"p(_).",
		"p(1 + _).",
		"p(min _) :- q(1).",
		"p(max _) :- q(1).",
		"p(sum _) :- q(1).",
		"p(count, _) :- q(1).",
		"p(_, count) :- q(1).",
		"p(1) :- q(_ + 1).",
		"p(1) :- q(_, 1 * (2 - _)).",
		"p(1) :- not q(_ + 1).",
		"p(1) :- _ = 1.",
		"p(1) :- 1 = _.",
		"p(1) :- _ = _.",
		"p(1) :- q(X), X < _.",
		"p(1) :- q(X), _ != X.",
		"p(X) :- q(X), X = _ + 1.",
		"p(X) :- q(X), _ * 2 = X.",
	} {
		expectFault(t, src, impl.CheckSafe, 0, "_")
	}
}

func TestAnyKeepsLiteralsFromBinding(t *testing.T) {
	for _, src := range []string{
		"p(X) :- q(_ + 1, X).",
		"p(X) :- q(X, 1 - _).",
		"p(X) :- X = _.",
		"p(X) :- _ = X.",
		"p(X) :- X = 1 + _.",
		"p(X) :- q(Y), _ * Y = X.",
	} {
		expectFault(t, src, impl.CheckSafe, 0, "X")
	}
}

func TestTheLeastUnboundVariableIsNamed(t *testing.T) {
	expectFault(t, "p(Y, X, Z).", impl.CheckSafe, 0, "X")
	expectFault(t, "p(B, Aa, A1, A_) :- q(A).", impl.CheckSafe, 0, "A1")
	expectFault(t, "p(B) :- q(A), not q(C), D < E.", impl.CheckSafe, 0, "B")
	expectFault(t, "p(D) :- q(A), not q(C), B < E.", impl.CheckSafe, 0, "B")
	expectFault(t, "p(D) :- q(A), not q(B), C < E.", impl.CheckSafe, 0, "B")
	expectFault(t, "p(_, Zz) :- q(_ + 1), 1 = _.", impl.CheckSafe, 0, "Zz")
	expectFault(t, "p(1) :- q(X), X = _, Z < 1.", impl.CheckSafe, 0, "Z")
	expectFault(t, "p(1). p(X) :- q(X). p(Z). p(A).", impl.CheckSafe, 2, "Z")
	expectFault(t, "p(1). p(_). p(A).", impl.CheckSafe, 1, "_")
	// Variables of other rules do not matter.
	expectFault(t, "p(X) :- q(X). p(X) :- q(Y).", impl.CheckSafe, 1, "X")
}

// typed precedes the rules of the tests of types. The letters in the name of a
// relation are its types: a for any, i and j for int, t and u for text.
const typed = "rel a(any). rel at(any, text). rel i(int). rel it(int, text). rel j(int). rel t(text). rel ta(text, any). rel u(text). "

func expectTyped(t *testing.T, srcs ...string) {
	t.Helper()
	for _, src := range srcs {
		expectNoFault(t, typed+src)
	}
}

func expectWrongType(t *testing.T, name string, srcs ...string) {
	t.Helper()
	for _, src := range srcs {
		expectFault(t, typed+src, impl.CheckType, 0, name)
	}
}

func TestTypesOfConstants(t *testing.T) {
	expectTyped(t, "i(1).", `t("a").`, `t("").`, "a(1).", `a("a").`, "n(1).", `n("a").`, `it(-1, "1").`)
	expectTyped(t, "n() :- i(1).", `n() :- not t("a").`, `n() :- a(1), a("a"), m(1), m("a").`)
	expectWrongType(t, "i", `i("a").`, `i("").`, `n() :- i("1").`, `n() :- not i("a").`)
	expectWrongType(t, "t", "t(1).", "n() :- t(0).", "n() :- not t(-1).")
	expectWrongType(t, "it", "it(1, 1).", `it("a", "a").`, `n() :- it("a", _).`, "n() :- it(_, 1).", `n() :- not it("a", 1).`)
}

func TestTypesOfExpressionsWithParts(t *testing.T) {
	expectTyped(t, "i(1 + 1).", `i("a" * 2).`, "a(1 - 1).", "n(1 + 1).", "i(X + Y) :- n(X, Y).", "n() :- i(1 + 1), not i(2 * 3), a(1 + 1), m(1 + 1).")
	expectWrongType(t, "t", "t(1 + 1).", `t("a" + "b").`, "n() :- t(1 * 1).", "n() :- not t(1 - 1).", "t(X - Y) :- n(X, Y).")
}

func TestAnyHasEveryType(t *testing.T) {
	expectTyped(t, "n() :- i(_), t(_), a(_), m(_), it(_, _), not it(_, _).")
}

func TestTypesOfVariables(t *testing.T) {
	expectTyped(t,
		"i(X) :- i(X).",
		"t(X) :- t(X), not u(X).",
		"it(X, Y) :- i(X), t(Y).",
		"n(X) :- i(X), a(X), i(X), m(X).",
		"n(X) :- a(X), t(X), a(X).",
		"n(X) :- m(X), i(X).",
		"n(X) :- i(X), X = Y, t(Y).",
		"n(X) :- i(X), X = \"a\".",
		// Each rule is checked on its own.
		"n(X) :- i(X). n(X) :- t(X). n(X) :- it(X, Y). n(X) :- it(Y, X).",
	)
	expectWrongType(t, "t", "n() :- i(X), t(X).", "i(X) :- t(X).", "n() :- i(X), not t(X).", "n() :- i(X), a(X), m(X), t(X).", "i(X) :- a(X), m(X), i(X), t(X).")
	expectWrongType(t, "i", "n() :- t(X), i(X).", "t(X) :- i(X).", "n() :- t(X), not i(X).", "t(X) :- t(X), t(X), i(X), t(X).")
	expectWrongType(t, "it", "it(X, X) :- n(X).", "n() :- it(X, X).", "n() :- i(X), it(_, X).", "n() :- t(Y), it(Y, _), t(X), i(X).")
}

// Only a variable that stands alone is at a position: the argument X + 1 is
// an integer or has no value, whatever X is.
func TestVariablesInPartsAreAtNoPosition(t *testing.T) {
	expectTyped(t, "n() :- t(X), i(X + 1).", "n() :- i(X + 1), t(X).", "i(X * X) :- t(X).", "n(sum X + 1) :- t(X).")
}

func TestTypesOfCounts(t *testing.T) {
	expectTyped(t, "i(count) :- n(1).", "a(count).", "n(count).", "ta(X, count) :- t(X).")
	expectWrongType(t, "t", "t(count).", "t(count) :- n(1).")
	expectWrongType(t, "at", "at(X, count) :- n(X).")
}

func TestTypesOfSums(t *testing.T) {
	expectTyped(t, "i(sum X) :- j(X).", "i(sum X) :- n(X).", "a(sum X) :- i(X), m(X), not j(X).", "n(sum X) :- i(X).", "n(sum 1).", "a(sum 1 + 1).", "n(sum X + Y) :- m(X, Y).")
	expectWrongType(t, "t", "t(sum X) :- n(X).", "t(sum 1).", "t(sum X + 1) :- n(X).", `t(sum "a").`)
	expectWrongType(t, "i", `i(sum "a").`)
	expectWrongType(t, "a", `a(sum "a").`)
	expectWrongType(t, "n", `n(sum "a").`, `n(1, sum "a").`)
	// The variable of a sum is used for an integer, whatever the relation is.
	expectWrongType(t, "t", "i(sum X) :- t(X).", "a(sum X) :- t(X).", "n(sum X) :- t(X).", "n(1, sum X) :- a(X), m(X), not t(X), m(X).")
	expectWrongType(t, "ta", "ta(X, sum X) :- n(X).")
	expectWrongType(t, "at", "at(sum X, X) :- n(X).", "at(sum X, \"a\") :- at(X, X).")
}

func TestTypesOfMinimaAndMaxima(t *testing.T) {
	for _, agg := range []string{"min", "max"} {
		with := func(srcs ...string) []string {
			for i := range srcs {
				srcs[i] = strings.ReplaceAll(srcs[i], "best", agg)
			}
			return srcs
		}
		expectTyped(t, with("i(best X) :- j(X).", "t(best X) :- u(X).", "t(best X) :- n(X).", `t(best "a").`, "i(best 1).", "i(best 1 + 1).", "a(best X) :- t(X).", `a(best "a").`, "n(best X) :- t(X).", `n(best "a").`, "n(best 1).")...)
		expectWrongType(t, "i", with(`i(best "a").`, "t(best X) :- i(X).")...)
		expectWrongType(t, "t", with("t(best 1).", "t(best 1 + 1).", "i(best X) :- t(X).")...)
		expectWrongType(t, "it", with("it(X, best X) :- n(X).", "it(best X, X) :- n(X).")...)
	}
}

func TestTypesAreCheckedInOrder(t *testing.T) {
	expectFault(t, typed+`i("a") :- t(1).`, impl.CheckType, 0, "i")
	expectFault(t, typed+`t(1) :- i("a").`, impl.CheckType, 0, "t")
	expectFault(t, typed+`n() :- t(1), i("a").`, impl.CheckType, 0, "t")
	expectFault(t, typed+`n() :- not i("a"), t(1).`, impl.CheckType, 0, "i")
	expectFault(t, typed+`n() :- i(1), t(1), i("a").`, impl.CheckType, 0, "t")
	expectFault(t, typed+`n(). n() :- i(1). n() :- i(X), t(X). t(1).`, impl.CheckType, 2, "t")
}

func TestRelationsThatDependOnThemselves(t *testing.T) {
	expectNoFault(t,
		"a() :- a().",
		"a() :- b(). b() :- a().",
		"a() :- a(), not b().",
		"a() :- a(). a() :- not b(). b() :- b().",
		"a(X) :- a(X). a(min X) :- b(X).",
		"a() :- b(). b() :- a(), not c(). c() :- d(), not e(). d() :- c().",
		"a(X) :- b(X). b(count) :- c(_). c(X) :- c(X), not d(X), d(X).",
	)
	expectFault(t, "p(X) :- q(X), not p(X).", impl.CheckStrata, 0, "p")
	for _, agg := range []string{"min X", "max X", "sum X", "count"} {
		expectFault(t, "p("+agg+") :- p(X).", impl.CheckStrata, 0, "p")
		expectFault(t, "q(1). p("+agg+") :- q(X), s(X). s(X) :- r(X). r(X) :- p(X).", impl.CheckStrata, 0, "p")
		expectFault(t, "p(0, "+agg+") :- r(X), not p(X, 1).", impl.CheckStrata, 0, "p")
	}
	expectFault(t, "c() :- not b(). b() :- a(). a() :- c().", impl.CheckStrata, 0, "a")
	expectFault(t, "c() :- b(). b() :- not a(). a() :- c().", impl.CheckStrata, 0, "a")
	expectFault(t, "c() :- b(). b() :- a(). a() :- not c().", impl.CheckStrata, 0, "a")
	expectFault(t, "c() :- not b(). b() :- not c().", impl.CheckStrata, 0, "b")
	// Not only the last rule of a relation counts, and not only its first one.
	expectFault(t, "a() :- b(), not a(). a() :- b().", impl.CheckStrata, 0, "a")
	expectFault(t, "a() :- b(). a() :- b(), not a().", impl.CheckStrata, 0, "a")
}

func TestRelationsThatNeedAnUnstratifiedOneAreNotNamed(t *testing.T) {
	expectFault(t, "a() :- b(). b() :- not b().", impl.CheckStrata, 0, "b")
	expectFault(t, "a() :- not b(). b() :- c(). c() :- not b(). d() :- not d().", impl.CheckStrata, 0, "b")
	expectFault(t, "a() :- a(), not b(). b() :- b(), not c(). c() :- not d(), c(). d() :- e(). e() :- not d().", impl.CheckStrata, 0, "d")
	// What an unstratified relation needs is not unstratified for that.
	expectFault(t, "z() :- not z(), a(). a() :- a(), not b().", impl.CheckStrata, 0, "z")
	expectFault(t, "z(count) :- z(), a(). a() :- a().", impl.CheckWidth, 0, "z")
	expectFault(t, "z(count) :- z(_), a(). a() :- a().", impl.CheckStrata, 0, "z")
}

// The way back to a relation may pass the not on a detour.
func TestRelationsThatDependOnThemselvesByADetour(t *testing.T) {
	expectFault(t, "a() :- b(). b() :- a(), not b().", impl.CheckStrata, 0, "a")
	expectFault(t, "a() :- b(). b() :- a(). b() :- c(). c() :- b(), not c().", impl.CheckStrata, 0, "a")
}

func TestTheRuleOfUnstratifiedRelationsIsZero(t *testing.T) {
	expectFault(t, "a(). b(). c() :- not a(). d() :- not d(). e() :- not e().", impl.CheckStrata, 0, "d")
}

func TestTheFirstErrorIsReturned(t *testing.T) {
	const (
		unstratified = "s() :- not s()."
		wrongType    = `rel c(int). c("a").`
		unsafe       = "b(X)."
		wrongWidth   = "a(). a(1)."
	)
	expectFault(t, wrongType+unstratified, impl.CheckType, 0, "c")
	expectFault(t, unstratified+wrongType, impl.CheckType, 1, "c")
	expectFault(t, unstratified+wrongType+unsafe, impl.CheckSafe, 2, "X")
	expectFault(t, unstratified+unsafe, impl.CheckSafe, 1, "X")
	expectFault(t, wrongType+unsafe, impl.CheckSafe, 1, "X")
	expectFault(t, unstratified+wrongType+unsafe+wrongWidth, impl.CheckWidth, 4, "a")
	expectFault(t, unsafe+wrongWidth, impl.CheckWidth, 2, "a")
	expectFault(t, wrongType+wrongWidth, impl.CheckWidth, 2, "a")
	expectFault(t, unstratified+wrongWidth, impl.CheckWidth, 2, "a")
	// One rule with all four errors.
	expectFault(t, `rel c(int). s(). s(Y) :- c("a"), not s(X).`, impl.CheckWidth, 1, "s")
	expectFault(t, `rel c(int). s(Y) :- c("a"), not s(X).`, impl.CheckSafe, 0, "X")
	expectFault(t, `rel c(int). s(1) :- c("a"), not s(1).`, impl.CheckType, 0, "c")
	expectFault(t, `rel c(int). s(1) :- c(1), not s(1).`, impl.CheckStrata, 0, "s")
}

// Promise 3.
func TestStrata(t *testing.T) {
	expectStrata(t, "", "")
	expectStrata(t, "rel b(). rel a(int).", "a b")
	expectStrata(t, "rel z(int). p(1).", "p z")
	expectStrata(t, "c(1). b(X) :- a(X).", "a b c")
	expectStrata(t, "b(X) :- a(X). c(X) :- a(X), not b(X). d(count) :- c(X).", "a b | c | d")
	expectStrata(t, "p() :- not q().", "q | p")
	expectStrata(t, "p() :- not q(). rel r(any).", "q r | p")
	expectStrata(t, "p() :- q(), not q().", "q | p")
	expectStrata(t, "p() :- not q(), q().", "q | p")
	expectStrata(t, "a() :- not b(). b() :- not c(). c() :- not d().", "d | c | b | a")
	// The highest of all needs counts, in whatever rule it is.
	expectStrata(t, "p() :- a(). p() :- not b(). b() :- not c(). q() :- p(), b().", "a c | b | p q")
	expectStrata(t, "p() :- not b(). p() :- a(). b() :- not c(). q() :- b(), p().", "a c | b | p q")
	expectStrata(t, "p() :- c(), b(), a(). c() :- not d(). b() :- not c(). a() :- not d().", "d | a c | b p")
	// Recursion lifts all relations of a cycle.
	expectStrata(t, "p() :- q(). q() :- p(). q() :- not a(). r() :- not q(). s() :- p().", "a | p q s | r")
	expectStrata(t, "a() :- b(). b() :- c(). c() :- a(). c() :- d(). d() :- not e().", "e | a b c d")
}

// Promise 3.
func TestStrataOfAggregates(t *testing.T) {
	for _, agg := range []string{"min X", "max X", "sum X", "count"} {
		expectStrata(t, "p("+agg+") :- q(X).", "q | p")
		expectStrata(t, "p("+agg+") :- q(X), r(), not s().", "q r s | p")
		expectStrata(t, "p("+agg+") :- X = 1.", "p")
		expectStrata(t, "p("+agg+") :- q(X). r() :- p(_).", "q | p r")
		expectStrata(t, "p("+agg+") :- q(X). p(X) :- r(X). r(X) :- p(X).", "q | p r")
		expectStrata(t, "p(1, "+agg+") :- q(X). r("+agg+") :- p(_, X). s(2) :- not r(1).", "q | p | r | s")
	}
	expectStrata(t, "p(count). q(min 1). r(count) :- p(_).", "p q | r")
}

func TestStrataNeedsACheckedProgram(t *testing.T) {
	for _, src := range []string{
		"p(1). p(1, 2).",
		"p(X) :- q(Y).",
		"rel p(text). p(1).",
		"p() :- not p().",
	} {
		if got := impl.Strata(programOf(t, src)); got != nil {
			t.Errorf("Strata(%q) = %v", src, got)
		}
	}
}

func TestRelations(t *testing.T) {
	expectRelations(t, "", "")
	expectRelations(t, "rel b(any, int). rel a().", "a/0 b/2")
	expectRelations(t, "p(1, 2) :- q(), not r(1), 1 = 1.", "p/2* q/0 r/1")
	expectRelations(t, "rel p(int). rel z(). b() :- p(1). p(X) :- a(X, 1, 2). b().", "a/3 b/0* p/1* z/0")
	expectRelations(t, "rel p(int, int, int, int, int, int, int, any). p(1, 2, 3, 4, 5, 6, 7, 8).", "p/8*")
	expectRelations(t, "aB(). a_b(). a1(). aa(). a(). ab() :- a().", "a/0* a1/0* aB/0* a_b/0* aa/0* ab/0*")
	expectRelations(t, "p(count) :- p(_).", "p/1*")
}

func TestRelationsOfProgramsWithErrors(t *testing.T) {
	expectRelations(t, "p(X) :- q(Y, _).", "p/1* q/2")
	expectRelations(t, "rel p(text). rel q(). p(1).", "p/1* q/0")
	expectRelations(t, "p() :- not p(), r(1).", "p/0* r/1")
	for _, src := range []string{"p(1). p(1, 2).", "rel q(int). p() :- q().", "p(X) :- not p(1, 2)."} {
		if got := impl.Relations(programOf(t, src)); got != nil {
			t.Errorf("Relations(%q) = %v", src, got)
		}
	}
}

func TestNeeds(t *testing.T) {
	const src = "rel alone(int). a() :- b(), not c(_). b() :- d(). c(count) :- e(_), not f(). g() :- a(). h() :- h(). i() :- j(). j() :- i(). k(X) :- l(X), X = 1."
	expectNeeds(t, src, "a", "a b c d e f")
	expectNeeds(t, src, "b", "b d")
	expectNeeds(t, src, "c", "c e f")
	expectNeeds(t, src, "d", "d")
	expectNeeds(t, src, "g", "a b c d e f g")
	expectNeeds(t, src, "h", "h")
	expectNeeds(t, src, "i", "i j")
	expectNeeds(t, src, "j", "i j")
	expectNeeds(t, src, "k", "k l")
	expectNeeds(t, src, "alone", "alone")
	expectNeeds(t, src, "k b", "b d k l")
	expectNeeds(t, src, "d b b d h d", "b d h")
	// Names that are no relations have no effect.
	expectNeeds(t, src, "m", "")
	expectNeeds(t, src, "X a1 _ not b zz \xff b", "b d")
	expectNeeds(t, src, "", "")
	expectNeeds(t, "", "a b", "")
	// The second rule of a relation counts too.
	expectNeeds(t, "a() :- b(). a() :- c(). c() :- d(). c() :- e().", "a", "a b c d e")
	for _, names := range [][]string{nil, {}} {
		if got := impl.Needs(programOf(t, src), names); len(got) != 0 {
			t.Errorf("Needs of no names = %v", got)
		}
	}
}

func TestNeedsOfProgramsWithErrors(t *testing.T) {
	expectNeeds(t, "p(X) :- q(Y). q(Z) :- r().", "p", "p q r")
	expectNeeds(t, "rel p(text). p(1) :- q().", "p", "p q")
	expectNeeds(t, "p() :- not p(), q(). q() :- not p(). r().", "p", "p q")
	for _, src := range []string{"p(1). p(1, 2).", "rel q(int). p() :- q()."} {
		if got := impl.Needs(programOf(t, src), []string{"p", "q"}); got != nil {
			t.Errorf("Needs(%q) = %v", src, got)
		}
	}
}

// bodyNames returns up to n different relations, as many as a body holds.
func bodyNames(from int, n int) []impl.Lit {
	list := []impl.Lit{}
	for i := range n {
		list = append(list, atomLit(atomOf(fmt.Sprint("leaf", from, "x", i))))
	}
	return list
}

// Promise 3, for the greatest number of strata and of relations.
func TestLargestPrograms(t *testing.T) {
	var p impl.Program
	want := [][]string{{}}
	for i := range impl.MaxDecls {
		p.Decls = append(p.Decls, impl.Decl{Name: fmt.Sprintf("decl%02d", i)})
		want[0] = append(want[0], p.Decls[i].Name)
	}
	for i := range impl.MaxRules {
		body := bodyNames(i, impl.MaxBody-1)
		for _, l := range body {
			want[0] = append(want[0], l.Atom.Name)
		}
		body = append(body, notLit(atomOf(fmt.Sprint("p", i+1))))
		p.Rules = append(p.Rules, ruleOf(atomOf(fmt.Sprint("p", i)), body...))
	}
	want[0] = append(want[0], fmt.Sprint("p", impl.MaxRules))
	slices.Sort(want[0])
	for i := impl.MaxRules - 1; i >= 0; i-- {
		want = append(want, []string{fmt.Sprint("p", i)})
	}
	if got := impl.Strata(p); !reflect.DeepEqual(got, want) {
		t.Errorf("Strata = %v", got)
	}
	if got := len(impl.Relations(p)); got != len(want[0])+impl.MaxRules {
		t.Errorf("%d relations", got)
	}
	if got := len(impl.Needs(p, []string{"p0"})); got != len(want[0])+impl.MaxRules-impl.MaxDecls {
		t.Errorf("%d relations are needed", got)
	}
	// A way back from the last relation makes all of them unstratified.
	p.Rules[impl.MaxRules-1].Body[0].Atom.Name = "p0"
	if got := impl.Fault(p); got != (impl.Trouble{Code: impl.CheckStrata, Name: "p0"}) {
		t.Errorf("Fault = %v", got)
	}
}

// The following functions repeat the definitions of the chapter by
// enumeration, to be compared with the program's results.

type usedAtom struct {
	atom impl.Atom
	aggs []string
}

// atomsIn returns the atoms of a rule, the head first.
func atomsIn(r impl.Rule) []usedAtom {
	list := []usedAtom{{r.Head, r.Aggs}}
	for _, l := range r.Body {
		if l.Kind == impl.LitAtom || l.Kind == impl.LitNot {
			list = append(list, usedAtom{l.Atom, make([]string, len(l.Atom.Args))})
		}
	}
	return list
}

func expectedWidths(p impl.Program) map[string]int {
	widths := map[string]int{}
	for i := len(p.Rules) - 1; i >= 0; i-- {
		list := atomsIn(p.Rules[i])
		slices.Reverse(list)
		for _, u := range list {
			widths[u.atom.Name] = len(u.atom.Args)
		}
	}
	for _, d := range p.Decls {
		widths[d.Name] = len(d.Types)
	}
	return widths
}

// isClosed reports whether no literal of body binds a variable that is not in
// bound, if those in bound are bound.
func isClosed(body []impl.Lit, bound map[string]bool) bool {
	known := func(es []impl.Node) bool {
		for _, n := range es {
			if n.Kind == impl.NodeAny || n.Kind == impl.NodeVar && !bound[n.Name] {
				return false
			}
		}
		return true
	}
	isNew := func(es []impl.Node) bool {
		return len(es) == 1 && es[0].Kind == impl.NodeVar && !bound[es[0].Name]
	}
	for _, l := range body {
		switch l.Kind {
		case impl.LitAtom:
			binds, isUseful := true, false
			for _, es := range l.Atom.Args {
				binds = binds && (len(es) == 1 || known(es))
				isUseful = isUseful || isNew(es)
			}
			if binds && isUseful {
				return false
			}
		case impl.LitTest:
			if l.Op == "=" && (isNew(l.Left) && known(l.Right) || isNew(l.Right) && known(l.Left)) {
				return false
			}
		}
	}
	return true
}

// expectedUnbound returns the variables of r that are missing in a closed
// set, in ascending order, and then `_` if a NodeAny is out of place.
func expectedUnbound(r impl.Rule) []string {
	vars, unbound := impl.VarsOf(r), []string{}
	inAll := map[string]bool{}
	for _, v := range vars {
		inAll[v] = true
	}
	for choice := range 1 << len(vars) {
		bound := map[string]bool{}
		for i, v := range vars {
			bound[v] = choice>>i&1 == 1
		}
		if isClosed(r.Body, bound) {
			for _, v := range vars {
				inAll[v] = inAll[v] && bound[v]
			}
		}
	}
	for _, v := range vars {
		if !inAll[v] {
			unbound = append(unbound, v)
		}
	}
	if strings.Contains(impl.ShowProgram(rules(withoutAllowedAny(r))), "_") {
		unbound = append(unbound, "_")
	}
	return unbound
}

// withoutAllowedAny replaces each NodeAny that is in its place by 0.
func withoutAllowedAny(r impl.Rule) impl.Rule {
	zero := constantNode(number(0))
	args := func(list [][]impl.Node, isReplaced func(int) bool) [][]impl.Node {
		out := [][]impl.Node{}
		for i, es := range list {
			if len(es) == 1 && es[0].Kind == impl.NodeAny && isReplaced(i) {
				es = zero
			}
			out = append(out, es)
		}
		return out
	}
	out := impl.Rule{Head: impl.Atom{Name: "h"}, Aggs: make([]string, len(r.Aggs))}
	out.Head.Args = args(r.Head.Args, func(i int) bool { return r.Aggs[i] == "count" })
	for _, l := range r.Body {
		if l.Kind != impl.LitTest {
			l.Atom = impl.Atom{Name: "b", Args: args(l.Atom.Args, func(int) bool { return true })}
		}
		out.Body = append(out.Body, l)
	}
	return out
}

// expectedWrongType returns the first atom with an argument that violates the
// declared types.
func expectedWrongType(r impl.Rule, types map[string][]string) string {
	type use struct{ name, typ string }
	uses := []use{}
	for _, u := range atomsIn(r) {
		for i, es := range u.atom.Args {
			declared, wanted := "any", "any"
			if list, ok := types[u.atom.Name]; ok {
				declared, wanted = list[i], list[i]
			}
			if u.aggs[i] == "sum" {
				wanted = "int"
			}
			isWrong := false
			switch {
			case wanted == "any":
			case u.aggs[i] == "count" || len(es) > 1:
				isWrong = wanted == "text"
			case es[0].Kind == impl.NodeConst:
				isWrong = (es[0].Value.Kind == impl.KindInt) != (wanted == "int")
			case es[0].Kind == impl.NodeVar:
				uses = append(uses, use{es[0].Name, wanted})
				isWrong = slices.ContainsFunc(uses, func(x use) bool { return x.name == es[0].Name && x.typ != wanted })
			}
			if isWrong || u.aggs[i] == "sum" && declared == "text" {
				return u.atom.Name
			}
		}
	}
	return ""
}

// A dependence is what a rule says of two relations.
type dependence struct {
	from, to string
	isStrict bool
}

func dependences(p impl.Program) []dependence {
	list := []dependence{}
	for _, r := range p.Rules {
		for _, l := range r.Body {
			if l.Kind != impl.LitTest {
				list = append(list, dependence{r.Head.Name, l.Atom.Name, l.Kind == impl.LitNot || strings.Join(r.Aggs, "") != ""})
			}
		}
	}
	return list
}

// ways returns all dependences, also those over others; over a strict one
// they are strict.
func ways(p impl.Program) map[dependence]bool {
	found := map[dependence]bool{}
	steps := dependences(p)
	for _, d := range steps {
		found[d] = true
	}
	for before := -1; before < len(found); {
		before = len(found)
		longer := []dependence{}
		for a := range found {
			for _, b := range steps {
				if a.to == b.from {
					longer = append(longer, dependence{a.from, b.to, a.isStrict || b.isStrict})
				}
			}
		}
		for _, d := range longer {
			found[d] = true
		}
	}
	return found
}

func expectedFault(p impl.Program) impl.Trouble {
	if !impl.ProgramOk(p) {
		return impl.Trouble{Code: impl.CheckForm}
	}
	widths := expectedWidths(p)
	for i, r := range p.Rules {
		for _, u := range atomsIn(r) {
			if len(u.atom.Args) != widths[u.atom.Name] {
				return impl.Trouble{Code: impl.CheckWidth, Rule: int64(i), Name: u.atom.Name}
			}
		}
	}
	for i, r := range p.Rules {
		if names := expectedUnbound(r); len(names) > 0 {
			return impl.Trouble{Code: impl.CheckSafe, Rule: int64(i), Name: names[0]}
		}
	}
	types := map[string][]string{}
	for _, d := range p.Decls {
		types[d.Name] = d.Types
	}
	for i, r := range p.Rules {
		if name := expectedWrongType(r, types); name != "" {
			return impl.Trouble{Code: impl.CheckType, Rule: int64(i), Name: name}
		}
	}
	least := ""
	for d := range ways(p) {
		if d.isStrict && d.from == d.to && (least == "" || d.from < least) {
			least = d.from
		}
	}
	if least != "" {
		return impl.Trouble{Code: impl.CheckStrata, Name: least}
	}
	return impl.Trouble{}
}

// expectedStrata raises the numbers of the strata from 0 on until they are
// right.
func expectedStrata(p impl.Program) [][]string {
	level := map[string]int{}
	for isChanged := true; isChanged; {
		isChanged = false
		for _, d := range dependences(p) {
			least := level[d.to]
			if d.isStrict {
				least++
			}
			if level[d.from] < least {
				level[d.from], isChanged = least, true
			}
		}
	}
	strata := [][]string{}
	for name := range expectedWidths(p) {
		for len(strata) <= level[name] {
			strata = append(strata, nil)
		}
		strata[level[name]] = append(strata[level[name]], name)
	}
	for _, names := range strata {
		slices.Sort(names)
	}
	return strata
}

func expectedNeeds(p impl.Program, names []string) []string {
	widths, needed := expectedWidths(p), []string{}
	for _, name := range names {
		if _, isRelation := widths[name]; isRelation {
			needed = append(needed, name)
		}
		for d := range ways(p) {
			if d.from == name {
				needed = append(needed, d.to)
			}
		}
	}
	slices.Sort(needed)
	return listed(slices.Compact(needed))
}

func expectedRelations(p impl.Program) []impl.Relation {
	list := []impl.Relation{}
	for name, wide := range expectedWidths(p) {
		isDerived := slices.ContainsFunc(p.Rules, func(r impl.Rule) bool { return r.Head.Name == name })
		list = append(list, impl.Relation{Name: name, Wide: int64(wide), Derived: isDerived})
	}
	slices.SortFunc(list, func(a, b impl.Relation) int { return strings.Compare(a.Name, b.Name) })
	return list
}

// A planner makes programs that have few errors, so that the later checks are
// reached too.
type planner struct {
	source *rand.Rand
	widths map[string]int
}

var plannedNames = []string{"a", "b", "b1", "bB", "c", "d"}

func (g planner) chance(percent int) bool { return g.source.Intn(100) < percent }

func (g planner) argument() []impl.Node {
	switch n := g.source.Intn(100); {
	case n < 70:
		return variableNode([]string{"X", "Y", "Z", "W1"}[g.source.Intn(4)])
	case n < 80:
		return constantNode(number(g.source.Int63n(3)))
	case n < 85:
		return constantNode(text("a"))
	case n < 90:
		return anyNode()
	case n < 98:
		return operationNodes(impl.NodeAdd+g.source.Int63n(3), variableNode("X"), constantNode(number(1)))
	}
	return operationNodes(impl.NodeMul, g.argument(), g.argument())
}

func (g planner) atom() impl.Atom {
	a := impl.Atom{Name: plannedNames[g.source.Intn(len(plannedNames))]}
	width := g.widths[a.Name]
	if g.chance(1) {
		width++
	}
	for range width {
		a.Args = append(a.Args, g.argument())
	}
	return a
}

func (g planner) lit() impl.Lit {
	switch n := g.source.Intn(100); {
	case n < 55:
		return atomLit(g.atom())
	case n < 75:
		return notLit(g.atom())
	case n < 95:
		return testLit(g.argument(), "=", g.argument())
	}
	return testLit(g.argument(), "<", g.argument())
}

func (g planner) rule() impl.Rule {
	r := ruleOf(g.atom())
	if g.chance(30) && len(r.Aggs) > 0 {
		i := g.source.Intn(len(r.Aggs))
		r.Aggs[i] = []string{"min", "max", "sum", "count"}[g.source.Intn(4)]
		if r.Aggs[i] == "count" {
			r.Head.Args[i] = anyNode()
		}
	}
	for range g.source.Intn(4) {
		r.Body = append(r.Body, g.lit())
	}
	if g.chance(70) {
		for _, v := range impl.VarsOf(r) {
			at := g.source.Intn(len(r.Body) + 1)
			r.Body = slices.Insert(r.Body, at, atomLit(atomOf("v", variableNode(v))))
		}
	}
	return r
}

func (g planner) program() impl.Program {
	var p impl.Program
	for _, name := range plannedNames {
		g.widths[name] = g.source.Intn(3)
		if g.chance(30) {
			d := impl.Decl{Name: name}
			for range g.widths[name] {
				d.Types = append(d.Types, []string{"int", "int", "text", "any"}[g.source.Intn(4)])
			}
			p.Decls = append(p.Decls, d)
		}
	}
	for range g.source.Intn(6) {
		p.Rules = append(p.Rules, g.rule())
	}
	return p
}

func plannedPrograms(count int) []impl.Program {
	g := planner{rand.New(rand.NewSource(8)), map[string]int{}}
	list := []impl.Program{}
	for range count {
		list = append(list, g.program())
	}
	return list
}

// Promise 3 and the errors, for random programs.
func TestRandomProgramsAreCheckedAsDefined(t *testing.T) {
	seen := [impl.CheckStrata + 1]int{}
	for _, p := range plannedPrograms(20000) {
		shown, want := impl.ShowProgram(p), expectedFault(p)
		seen[want.Code]++
		if got := impl.Fault(p); got != want {
			t.Fatalf("Fault(%s) = %v, not %v", shown, got, want)
		}
		wantStrata := [][]string{}
		if want.Code == impl.CheckOk {
			wantStrata = expectedStrata(p)
		}
		if got := impl.Strata(p); !reflect.DeepEqual(listed(got), wantStrata) {
			t.Fatalf("Strata(%s) = %v, not %v", shown, got, wantStrata)
		}
		names := plannedNames[int(want.Code):]
		wantRelations, wantNeeds := []impl.Relation{}, []string{}
		if want.Code != impl.CheckForm && want.Code != impl.CheckWidth {
			wantRelations, wantNeeds = expectedRelations(p), expectedNeeds(p, names)
		}
		if got := impl.Relations(p); !reflect.DeepEqual(listed(got), wantRelations) {
			t.Fatalf("Relations(%s) = %v, not %v", shown, got, wantRelations)
		}
		if got := impl.Needs(p, names); !reflect.DeepEqual(listed(got), wantNeeds) {
			t.Fatalf("Needs(%s, %v) = %v, not %v", shown, names, got, wantNeeds)
		}
	}
	for code, count := range seen {
		if code != impl.CheckForm && count < 300 {
			t.Errorf("only %d programs have the code %d", count, code)
		}
	}
}

// Promise 3, as it is said: what a relation needs through a not or an
// aggregate is in lower strata.
func TestNotAndAggregatesDependOnLowerStrata(t *testing.T) {
	for _, p := range plannedPrograms(5000) {
		strata := impl.Strata(p)
		level := map[string]int{}
		for i, names := range strata {
			for _, name := range names {
				level[name] = i
			}
		}
		if len(strata) == 0 {
			continue
		}
		for d := range ways(p) {
			if level[d.to] > level[d.from] || d.isStrict && level[d.to] == level[d.from] {
				t.Fatalf("%s in %d depends on %s in %d: %s", d.from, level[d.from], d.to, level[d.to], impl.ShowProgram(p))
			}
		}
	}
}

// Promise 19.
func TestCheckedProgramsAreNotModified(t *testing.T) {
	for _, p := range slices.Concat(plannedPrograms(500), invalidPrograms()) {
		p := spacious(p)
		names := append(slices.Clone(plannedNames), "a", "unused")[:len(plannedNames)+1]
		before := contents(p) + contents(names)
		impl.Fault(p)
		impl.Strata(p)
		impl.Relations(p)
		impl.Needs(p, names)
		if after := contents(p) + contents(names); after != before {
			t.Fatalf("%s became %s", before, after)
		}
	}
}

// Promise 19.
func TestCheckResultsAreNewMemory(t *testing.T) {
	for _, p := range plannedPrograms(500) {
		p := spacious(p)
		names := []string{}
		for _, name := range plannedNames {
			names = append(names, strings.Clone(name))
		}
		for _, result := range []func() any{
			func() any { return impl.Fault(p) },
			func() any { return impl.Strata(p) },
			func() any { return impl.Relations(p) },
			func() any { return impl.Needs(p, names) },
		} {
			first := result()
			expectOwnMemory(t, first, p)
			expectOwnMemory(t, first, names)
			if second := result(); !reflect.DeepEqual(first, second) {
				t.Fatalf("%v, then %v", first, second)
			}
		}
	}
}

// Promise 19: no argument makes a function panic.
func TestChecksReturnForEveryArgument(t *testing.T) {
	for _, p := range slices.Concat(wildPrograms(20000), invalidPrograms(), []impl.Program{{}}) {
		isOk := impl.ProgramOk(p)
		if got := impl.Fault(p); (got == impl.Trouble{Code: impl.CheckForm}) == isOk {
			t.Fatalf("Fault(%v) = %v", p, got)
		}
		strata, relations, needs := impl.Strata(p), impl.Relations(p), impl.Needs(p, []string{"p", "", "p", "\xff", "X"})
		if !isOk && (strata != nil || relations != nil || needs != nil) {
			t.Fatalf("%v is no program, but %v %v %v", p, strata, relations, needs)
		}
	}
	many := make([]string, 100000)
	for i := range many {
		many[i] = []string{"p", "q", ""}[i%3]
	}
	if got := impl.Needs(programOf(t, "p() :- q()."), many); !slices.Equal(got, []string{"p", "q"}) {
		t.Errorf("Needs = %v", got)
	}
}
