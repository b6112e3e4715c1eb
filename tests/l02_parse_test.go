package tests

import (
	"fmt"
	"math"
	"math/rand"
	"reflect"
	"regexp"
	"slices"
	"strconv"
	"strings"
	"testing"

	"loop.example/g00030/impl"
)

func variableNode(name string) []impl.Node {
	return []impl.Node{{Kind: impl.NodeVar, Name: name}}
}

func constantNode(v impl.Value) []impl.Node {
	return []impl.Node{{Kind: impl.NodeConst, Value: v}}
}

func anyNode() []impl.Node {
	return []impl.Node{{Kind: impl.NodeAny}}
}

func operationNodes(kind int64, left []impl.Node, right []impl.Node) []impl.Node {
	first := []impl.Node{{Kind: kind, Size: int64(len(left) + len(right))}}
	return slices.Concat(first, left, right)
}

func atomOf(name string, args ...[]impl.Node) impl.Atom {
	return impl.Atom{Name: name, Args: args}
}

func atomLit(a impl.Atom) impl.Lit { return impl.Lit{Kind: impl.LitAtom, Atom: a} }

func notLit(a impl.Atom) impl.Lit { return impl.Lit{Kind: impl.LitNot, Atom: a} }

func testLit(left []impl.Node, op string, right []impl.Node) impl.Lit {
	return impl.Lit{Kind: impl.LitTest, Op: op, Left: left, Right: right}
}

// ruleOf returns a rule without an aggregate.
func ruleOf(head impl.Atom, body ...impl.Lit) impl.Rule {
	return impl.Rule{Head: head, Aggs: make([]string, len(head.Args)), Body: body}
}

func rules(rs ...impl.Rule) impl.Program {
	return impl.Program{Rules: rs}
}

// withArgument returns a program whose only rule is p(es).
func withArgument(es []impl.Node) impl.Program {
	return rules(ruleOf(atomOf("p", es)))
}

// filled returns p with an empty list for each nil one, as the two are
// equivalent.
func filled(p impl.Program) impl.Program {
	fillAtom := func(a impl.Atom) impl.Atom {
		args := [][]impl.Node{}
		for _, es := range a.Args {
			args = append(args, append([]impl.Node{}, es...))
		}
		return impl.Atom{Name: a.Name, Args: args}
	}
	out := impl.Program{Decls: []impl.Decl{}, Rules: []impl.Rule{}}
	for _, d := range p.Decls {
		out.Decls = append(out.Decls, impl.Decl{Name: d.Name, Types: append([]string{}, d.Types...)})
	}
	for _, r := range p.Rules {
		body := []impl.Lit{}
		for _, l := range r.Body {
			l.Atom = fillAtom(l.Atom)
			l.Left, l.Right = append([]impl.Node{}, l.Left...), append([]impl.Node{}, l.Right...)
			body = append(body, l)
		}
		out.Rules = append(out.Rules, impl.Rule{Head: fillAtom(r.Head), Aggs: append([]string{}, r.Aggs...), Body: body})
	}
	return out
}

func samePrograms(a, b impl.Program) bool {
	return reflect.DeepEqual(filled(a), filled(b))
}

func isZero(p impl.Program) bool {
	return len(p.Decls) == 0 && len(p.Rules) == 0
}

func expectRead(t *testing.T, src string, want impl.Program) {
	t.Helper()
	if p, at := impl.ReadProgram(src); at != -1 || !samePrograms(p, want) {
		t.Errorf("ReadProgram(%q) = %v, %d, not %v", src, p, at, want)
	}
}

func expectError(t *testing.T, src string, want int) {
	t.Helper()
	if p, at := impl.ReadProgram(src); at != int64(want) || !isZero(p) {
		t.Errorf("ReadProgram(%q) = %v, %d, not %d", src, p, at, want)
	}
}

func expectShown(t *testing.T, p impl.Program, shown string) {
	t.Helper()
	if !impl.ProgramOk(p) {
		t.Errorf("%v is a program", p)
	}
	if s := impl.ShowProgram(p); s != shown {
		t.Errorf("ShowProgram = %q, not %q", s, shown)
	}
	expectRead(t, shown, p)
}

func expectNoProgram(t *testing.T, name string, p impl.Program) {
	t.Helper()
	if impl.ProgramOk(p) {
		t.Errorf("%s: %v is no program", name, p)
	}
	if s := impl.ShowProgram(p); s != "" {
		t.Errorf("%s: ShowProgram = %q", name, s)
	}
}

// Promise 1.
func TestProgramsAreRecoveredFromTheirTexts(t *testing.T) {
	x, y := variableNode("X"), variableNode("Y")
	one, two := constantNode(number(1)), constantNode(number(2))
	expectShown(t, impl.Program{}, "")
	expectShown(t, impl.Program{Decls: []impl.Decl{}, Rules: []impl.Rule{}}, "")
	expectShown(t, impl.Program{Decls: []impl.Decl{{Name: "a"}, {Name: "b", Types: []string{"int", "text", "any"}}}}, "rel a().\nrel b(int, text, any).\n")
	expectShown(t, rules(ruleOf(atomOf("p"))), "p().\n")
	expectShown(t, rules(ruleOf(atomOf("p", one, constantNode(text("a\"\\%.")), constantNode(number(-7))))), `p(1, "a\"\\%.", -7).`+"\n")
	expectShown(t, rules(ruleOf(atomOf("p", x, anyNode()), atomLit(atomOf("q", x, anyNode())), notLit(atomOf("r")))), "p(X, _) :- q(X, _), not r().\n")
	for _, op := range []string{"=", "!=", "<", "<=", ">", ">="} {
		expectShown(t, rules(ruleOf(atomOf("p"), testLit(x, op, y))), "p() :- X "+op+" Y.\n")
	}
	for _, agg := range []string{"min", "max", "sum"} {
		expectShown(t, rules(impl.Rule{Head: atomOf("p", x, y), Aggs: []string{"", agg}}), "p(X, "+agg+" Y).\n")
		expectShown(t, rules(impl.Rule{Head: atomOf("p", anyNode()), Aggs: []string{agg}}), "p("+agg+" _).\n")
	}
	expectShown(t, rules(impl.Rule{Head: atomOf("p", anyNode(), x), Aggs: []string{"count", ""}, Body: []impl.Lit{atomLit(atomOf("q", x))}}), "p(count, X) :- q(X).\n")
	sum := operationNodes(impl.NodeAdd, x, operationNodes(impl.NodeMul, y, two))
	expectShown(t, rules(impl.Rule{Head: atomOf("p", sum), Aggs: []string{"max"}}), "p(max X + (Y * 2)).\n")
	expectShown(t, impl.Program{
		Decls: []impl.Decl{{Name: "int", Types: []string{"any"}}, {Name: "notx", Types: []string{"text"}}},
		Rules: []impl.Rule{
			ruleOf(atomOf("int", sum), testLit(operationNodes(impl.NodeSub, x, constantNode(number(-3))), "<=", one)),
			ruleOf(atomOf("notx", anyNode())),
		},
	}, "rel int(any).\nrel notx(text).\nint(X + (Y * 2)) :- X - -3 <= 1.\nnotx(_).\n")
}

func TestDeclarationsAreReadInAscendingOrder(t *testing.T) {
	want := impl.Program{
		Decls: []impl.Decl{{Name: "a", Types: []string{"int"}}, {Name: "aa"}, {Name: "b", Types: []string{"any"}}, {Name: "c"}},
		Rules: []impl.Rule{ruleOf(atomOf("z")), ruleOf(atomOf("a"))},
	}
	expectRead(t, "rel c(). z(). rel aa(). rel b(any). a(). rel a(int).", want)
	expectRead(t, "rel b(any). rel a(int). rel aa(). rel c(). z(). a().", want)
}

// An exprTree is an expression for the tests: a leaf has a text, and other
// nodes have parts.
type exprTree struct {
	node        impl.Node
	text        string
	left, right *exprTree
}

func (e *exprTree) nodes() []impl.Node {
	if e.left == nil {
		return []impl.Node{e.node}
	}
	return operationNodes(e.node.Kind, e.left.nodes(), e.right.nodes())
}

// shown has parentheses around each part that has parts.
func (e *exprTree) shown() string {
	if e.left == nil {
		return e.text
	}
	part := func(e *exprTree) string {
		if e.left == nil {
			return e.text
		}
		return "(" + e.shown() + ")"
	}
	return part(e.left) + " " + e.text + " " + part(e.right)
}

// sparse has parentheses only where they are needed.
func (e *exprTree) sparse() string {
	if e.left == nil {
		return e.text
	}
	left, right := e.left.sparse(), e.right.sparse()
	if e.text == "*" && (e.left.text == "+" || e.left.text == "-") && e.left.left != nil {
		left = "(" + left + ")"
	}
	if e.right.left != nil && (e.text == "*" || e.right.text != "*") {
		right = "(" + right + ")"
	}
	return left + " " + e.text + " " + right
}

var leaves = []exprTree{
	{node: variableNode("X")[0], text: "X"},
	{node: variableNode("Zz_9A")[0], text: "Zz_9A"},
	{node: variableNode(strings.Repeat("V", impl.MaxWord))[0], text: strings.Repeat("V", impl.MaxWord)},
	{node: anyNode()[0], text: "_"},
	{node: constantNode(number(0))[0], text: "0"},
	{node: constantNode(number(12))[0], text: "12"},
	{node: constantNode(number(-3))[0], text: "-3"},
	{node: constantNode(number(impl.MaxInt))[0], text: "1000000000"},
	{node: constantNode(number(-impl.MaxInt))[0], text: "-1000000000"},
	{node: constantNode(text(""))[0], text: `""`},
	{node: constantNode(text("a, \"b\" % \\."))[0], text: `"a, \"b\" % \\."`},
}

func randomTree(source *rand.Rand, operations int) *exprTree {
	if operations == 0 {
		leaf := leaves[source.Intn(len(leaves))]
		return &leaf
	}
	kind := source.Intn(3)
	left := source.Intn(operations)
	return &exprTree{
		node:  impl.Node{Kind: int64(impl.NodeAdd + kind)},
		text:  []string{"+", "-", "*"}[kind],
		left:  randomTree(source, left),
		right: randomTree(source, operations-1-left),
	}
}

// A draft is a program with its text form, both made by the tests.
type draft struct {
	program impl.Program
	shown   string
}

type drafter struct {
	source *rand.Rand
}

func (d drafter) word() string {
	return []string{"p", "q", "r1", "mini", "counts", "nota", "relA", "int", "text", "any", "a_B_9", strings.Repeat("w", impl.MaxWord)}[d.source.Intn(12)]
}

func (d drafter) expr() ([]impl.Node, string) {
	operations := []int{0, 0, 0, 1, 2, 5}[d.source.Intn(6)]
	e := randomTree(d.source, operations)
	return e.nodes(), e.shown()
}

func (d drafter) atom() (impl.Atom, string) {
	a, texts := impl.Atom{Name: d.word()}, []string{}
	for range d.source.Intn(4) {
		es, shown := d.expr()
		a.Args, texts = append(a.Args, es), append(texts, shown)
	}
	return a, a.Name + "(" + strings.Join(texts, ", ") + ")"
}

func (d drafter) lit() (impl.Lit, string) {
	switch d.source.Intn(3) {
	case 0:
		a, shown := d.atom()
		return atomLit(a), shown
	case 1:
		a, shown := d.atom()
		return notLit(a), "not " + shown
	}
	left, leftShown := d.expr()
	right, rightShown := d.expr()
	op := []string{"=", "!=", "<", "<=", ">", ">="}[d.source.Intn(6)]
	return testLit(left, op, right), leftShown + " " + op + " " + rightShown
}

func (d drafter) rule() (impl.Rule, string) {
	r, texts := impl.Rule{Head: impl.Atom{Name: d.word()}}, []string{}
	width := d.source.Intn(4)
	aggregateAt := d.source.Intn(6)
	for i := range width {
		es, shown := d.expr()
		agg := ""
		if i == aggregateAt {
			agg = []string{"min", "max", "sum", "count"}[d.source.Intn(4)]
			shown = agg + " " + shown
		}
		if agg == "count" {
			es, shown = anyNode(), agg
		}
		r.Head.Args, r.Aggs, texts = append(r.Head.Args, es), append(r.Aggs, agg), append(texts, shown)
	}
	shown, separator := r.Head.Name+"("+strings.Join(texts, ", ")+")", " :- "
	for range d.source.Intn(4) {
		l, text := d.lit()
		r.Body = append(r.Body, l)
		shown += separator + text
		separator = ", "
	}
	return r, shown + ".\n"
}

func (d drafter) draft() draft {
	var out draft
	for _, name := range []string{"a", "b", "b1", "bb", "int"} {
		if d.source.Intn(3) == 0 {
			types := []string{"int", "text", "any"}[d.source.Intn(4):]
			out.program.Decls = append(out.program.Decls, impl.Decl{Name: name, Types: types})
			out.shown += "rel " + name + "(" + strings.Join(types, ", ") + ").\n"
		}
	}
	for range d.source.Intn(5) {
		r, shown := d.rule()
		out.program.Rules = append(out.program.Rules, r)
		out.shown += shown
	}
	return out
}

func drafts(count int) []draft {
	d := drafter{rand.New(rand.NewSource(2))}
	list := []draft{}
	for range count {
		list = append(list, d.draft())
	}
	return list
}

// Promise 1, for random programs.
func TestRandomProgramsAreRecovered(t *testing.T) {
	for _, d := range drafts(2000) {
		expectShown(t, d.program, d.shown)
	}
}

// pieces are the tokens of a text form, in which a minus sign that belongs to
// an integer directly precedes its digits and no other does.
var pieces = regexp.MustCompile(`"(?:[^"\\]|\\.)*"|-?[0-9]+|[A-Za-z0-9_]+|:-|[!<>]=|[^ \n]`)

// Promise 1: the layout of a text does not matter.
func TestBlanksNewlinesAndCommentsStandBetweenTokens(t *testing.T) {
	source := rand.New(rand.NewSource(3))
	separators := []string{"", "", " ", "\n", "  \n\n ", "%\n", "% p(X) :- \"a.\n", " %%x% \x00\xff\t\n "}
	glued := regexp.MustCompile(`\w\w`)
	for _, d := range drafts(500) {
		src := separators[source.Intn(len(separators))]
		last := " "
		for _, piece := range pieces.FindAllString(d.shown, -1) {
			separator := separators[source.Intn(len(separators))]
			if separator == "" && glued.MatchString(last[len(last)-1:]+piece[:1]) {
				separator = " "
			}
			src += separator + piece
			last = piece
		}
		if src += separators[source.Intn(len(separators))]; source.Intn(2) == 0 {
			src += "% a comment without a newline"
		}
		if len(src) <= impl.MaxSource {
			expectRead(t, src, d.program)
		}
	}
}

func TestOnlyBlanksAndNewlinesSeparate(t *testing.T) {
	for b := range 256 {
		s := string([]byte{byte(b)})
		if b == ' ' || b == '\n' || b == '%' {
			continue
		}
		expectError(t, "p()"+s+s+".", map[bool]int{true: 4, false: 3}[b == '.'])
	}
	expectError(t, "\tp().", 0)
	expectError(t, "p().\r\n", 4)
	expectError(t, "p(\v).", 2)
}

func TestEmptyProgramTexts(t *testing.T) {
	for _, src := range []string{"", " ", "\n", "%", "% p(", " \n%x\n  ", "%%\n%"} {
		expectRead(t, src, impl.Program{})
	}
}

// Promise 1: one text for each tree, with and without parentheses.
func TestOperatorsAssociateToTheLeftAndTimesBindsMoreTightly(t *testing.T) {
	for src, shown := range map[string]string{
		"1+2+3":             "(1 + 2) + 3",
		"1-2-3":             "(1 - 2) - 3",
		"1*2*3":             "(1 * 2) * 3",
		"1-2+3":             "(1 - 2) + 3",
		"1+2-3":             "(1 + 2) - 3",
		"1+2*3":             "1 + (2 * 3)",
		"1*2+3":             "(1 * 2) + 3",
		"1-2*3":             "1 - (2 * 3)",
		"1*2-3":             "(1 * 2) - 3",
		"1*2+3*4":           "(1 * 2) + (3 * 4)",
		"1+2*3*4-5":         "(1 + ((2 * 3) * 4)) - 5",
		"1+(2+3)":           "1 + (2 + 3)",
		"1-(2-3)":           "1 - (2 - 3)",
		"1*(2*3)":           "1 * (2 * 3)",
		"(1+2)*3":           "(1 + 2) * 3",
		"1*(2+3)":           "1 * (2 + 3)",
		"(1)":               "1",
		"((X))":             "X",
		"((1)+((2)))":       "1 + 2",
		"(_)":               "_",
		`("a")*_`:           `"a" * _`,
		"((1+2))":           "1 + 2",
		"(1+2)-(3+4)*(5-6)": "(1 + 2) - ((3 + 4) * (5 - 6))",
	} {
		p, at := impl.ReadProgram("p(" + src + ").")
		if got := impl.ShowProgram(p); at != -1 || got != "p("+shown+").\n" {
			t.Errorf("%s is %q, %d", src, got, at)
		}
	}
	source := rand.New(rand.NewSource(4))
	for range 2000 {
		e := randomTree(source, source.Intn(12))
		expectRead(t, "p("+e.sparse()+").", withArgument(e.nodes()))
		expectShown(t, withArgument(e.nodes()), "p("+e.shown()+").\n")
	}
}

// expectArgument checks that p(src) has the argument es.
func expectArgument(t *testing.T, src string, es []impl.Node) {
	t.Helper()
	expectRead(t, "p("+src+").", withArgument(es))
}

func TestMinusSignBelongsToAnIntegerIfNoExpressionPrecedesIt(t *testing.T) {
	x, three, minusThree := variableNode("X"), constantNode(number(3)), constantNode(number(-3))
	expectArgument(t, "-3", minusThree)
	expectArgument(t, "( -3)", minusThree)
	expectArgument(t, "-0", constantNode(number(0)))
	for _, src := range []string{"X-3", "X -3", "X - 3", "X- 3", "X-%\n3", "(X)-3", "X-(3)"} {
		expectArgument(t, src, operationNodes(impl.NodeSub, x, three))
	}
	for _, src := range []string{"X--3", "X - -3", "X -(-3)", "X- -3"} {
		expectArgument(t, src, operationNodes(impl.NodeSub, x, minusThree))
	}
	expectArgument(t, "X+-3", operationNodes(impl.NodeAdd, x, minusThree))
	expectArgument(t, "X*-3", operationNodes(impl.NodeMul, x, minusThree))
	expectArgument(t, "-3-3", operationNodes(impl.NodeSub, minusThree, three))
	expectArgument(t, "-3--3", operationNodes(impl.NodeSub, minusThree, minusThree))
	expectArgument(t, "3-X", operationNodes(impl.NodeSub, three, x))
	expectArgument(t, `"a"-3`, operationNodes(impl.NodeSub, constantNode(text("a")), three))
	expectArgument(t, "_-3", operationNodes(impl.NodeSub, anyNode(), three))
	expectArgument(t, "X*3-3", operationNodes(impl.NodeSub, operationNodes(impl.NodeMul, x, three), three))
	expectRead(t, "p(min -3).", rules(impl.Rule{Head: atomOf("p", minusThree), Aggs: []string{"min"}}))
	expectRead(t, "p():--3<-3,X=-3.", rules(ruleOf(atomOf("p"), testLit(minusThree, "<", minusThree), testLit(x, "=", minusThree))))
	expectRead(t, "p():-3<X.", rules(ruleOf(atomOf("p"), testLit(three, "<", x))))
	expectError(t, "p(- 3).", 2)
	expectError(t, "p(-\n3).", 2)
	expectError(t, "p(-%\n3).", 2)
	expectError(t, "p(--3).", 2)
	expectError(t, "p(-X).", 2)
	expectError(t, "p(-(3)).", 2)
	expectError(t, "p(-_).", 2)
	expectError(t, `p(-"a").`, 2)
	expectError(t, "p(-)", 2)
	expectError(t, "p(X - - 3).", 6)
	expectError(t, "p(X -).", 5)
	expectError(t, "p(X---3).", 4)
}

func TestIntegersOfPrograms(t *testing.T) {
	for src, n := range map[string]int64{
		"0": 0, "7": 7, "00": 0, "007": 7, "0000000000": 0, "0000000009": 9, "0123456789": 123456789,
		"999999999": 999999999, "0999999999": 999999999, "1000000000": impl.MaxInt,
		"-0": 0, "-00": 0, "-007": -7, "-0000000000": 0, "-0000000009": -9, "-0999999999": -999999999, "-1000000000": -impl.MaxInt,
	} {
		expectArgument(t, src, constantNode(number(n)))
		expectArgument(t, " "+src+" ", constantNode(number(n)))
	}
	for _, src := range []string{"1000000001", "9999999999", "2000000000", "00000000000", "00000000001", "10000000000", "01000000000", strings.Repeat("9", 30), strings.Repeat("0", 500)} {
		expectError(t, "p( "+src+").", 3)
		expectError(t, "p( -"+src+").", 3)
		expectError(t, "p(X - "+src+").", 6)
		expectError(t, "p(X -"+src+").", 5)
		expectError(t, "p(X - -"+src+").", 6)
	}
}

func TestTokensThatAreErrors(t *testing.T) {
	for _, token := range []string{
		"1a", "1_", "0x1", "1X", "__", "_a", "_X", "_1", "_1a", "X" + strings.Repeat("x", impl.MaxWord),
		"?", "?1", ":", "!", "#", "$", "&", "'", "/", ";", "@", "[", "]", "^", "`", "{", "|", "}", "~", "\\", "\x00", "\x7f", "\xc3\xa9", "\xff",
		"\"", "\"a", "\"a\\\"", "\"\\", "\"\\a\"", "\"\\n\"", "\"a\nb\"", "\"\t\"", "\"\x7f\"", "\"\xc3\xa9\"", `"` + strings.Repeat("a", impl.MaxText+1) + `"`,
	} {
		expectError(t, token, 0)
		expectError(t, " % \n"+token+"().", 4)
		expectError(t, "rel "+token, 4)
		expectError(t, "rel p("+token+").", 6)
		expectError(t, "p"+" "+token+"()", 2)
		expectError(t, "p("+token+").", 2)
		expectError(t, "p(X,"+token+" ).", 4)
		expectError(t, "p(X "+token+").", 4)
		expectError(t, "p(min "+token+").", 6)
		expectError(t, "p() "+token+".", 4)
		expectError(t, "p() :- "+token+".", 7)
		expectError(t, "p() :- not "+token+"().", 11)
		expectError(t, "p() :- X "+token+" 1.", 9)
		expectError(t, "p() :- X < "+token+".", 11)
		expectError(t, "p() :- q() "+token+".", 11)
		expectError(t, "p(). "+token, 5)
	}
}

func TestTextsInPrograms(t *testing.T) {
	for _, c := range validValues {
		if c.value.Kind == impl.KindText {
			expectArgument(t, c.shown, constantNode(c.value))
		}
	}
	every := strings.Repeat("\"", impl.MaxText)
	expectArgument(t, `"`+strings.Repeat(`\"`, impl.MaxText)+`"`, constantNode(text(every)))
	expectArgument(t, `"%"`, constantNode(text("%")))
	expectError(t, `p("a""b").`, 5)
	expectError(t, `p("a"b).`, 5)
}

var excludedWords = []string{"not", "rel", "min", "max", "sum", "count"}

func TestExcludedWords(t *testing.T) {
	for _, w := range excludedWords {
		expectNoProgram(t, w, rules(ruleOf(atomOf(w))))
		expectNoProgram(t, w, rules(ruleOf(atomOf("p"), atomLit(atomOf(w)))))
		expectNoProgram(t, w, rules(ruleOf(atomOf("p"), notLit(atomOf(w)))))
		expectNoProgram(t, w, impl.Program{Decls: []impl.Decl{{Name: w}}})
		expectError(t, "rel "+w+"(int).", 4)
		expectError(t, "p() :- not "+w+"().", 11)
		expectError(t, "p() :- q(1+"+w+").", 11)
		expectError(t, "p() :- q("+w+").", 9)
		expectError(t, "p() :- X < "+w+".", 11)
		if w != "rel" {
			expectError(t, w+"().", 0)
		}
		if w != "not" {
			expectError(t, "p() :- "+w+"().", 7)
		}
		for _, near := range []string{w + "s", w + "_", w + "0", w + "A", "x" + w, w[:2]} {
			expectShown(t, rules(ruleOf(atomOf(near), notLit(atomOf(near)))), near+"() :- not "+near+"().\n")
		}
	}
	expectError(t, "rel().", 3)
	expectError(t, "p() :- not().", 10)
	expectError(t, "p() :- not not q().", 11)
}

// Names as the document defines them, written independently of the program.
var (
	wordGrammar     = regexp.MustCompile(`^[a-z][A-Za-z0-9_]{0,19}$`)
	variableGrammar = regexp.MustCompile(`^[A-Z][A-Za-z0-9_]{0,19}$`)
)

func TestWordsAndVariables(t *testing.T) {
	check := func(s string) {
		isWord := wordGrammar.MatchString(s) && !slices.Contains(excludedWords, s)
		for name, p := range map[string]impl.Program{
			"declaration": {Decls: []impl.Decl{{Name: s}}},
			"head":        rules(ruleOf(atomOf(s))),
			"atom":        rules(ruleOf(atomOf("p"), atomLit(atomOf(s)))),
			"not":         rules(ruleOf(atomOf("p"), notLit(atomOf(s)))),
		} {
			if impl.ProgramOk(p) != isWord {
				t.Errorf("%s %q", name, s)
			}
		}
		if impl.ProgramOk(withArgument(variableNode(s))) != variableGrammar.MatchString(s) {
			t.Errorf("variable %q", s)
		}
		if _, at := impl.ReadProgram("p(" + s + ")."); variableGrammar.MatchString(s) && at != -1 {
			t.Errorf("variable %q: %d", s, at)
		}
	}
	everyText("azAZ09_-\x80", 3, check)
	for b := range 256 {
		for _, s := range []string{string([]byte{byte(b)}), string([]byte{'a', byte(b)}), string([]byte{'A', byte(b)}), string([]byte{'a', byte(b), 'a'})} {
			check(s)
		}
	}
	for _, size := range []int{impl.MaxWord - 1, impl.MaxWord, impl.MaxWord + 1, 1000} {
		check(strings.Repeat("w", size))
		check(strings.Repeat("W", size))
	}
	longest, longer := strings.Repeat("w", impl.MaxWord), strings.Repeat("w", impl.MaxWord+1)
	expectShown(t, impl.Program{Decls: []impl.Decl{{Name: longest}}}, "rel "+longest+"().\n")
	expectShown(t, rules(ruleOf(atomOf(longest), notLit(atomOf(longest)))), longest+"() :- not "+longest+"().\n")
	expectError(t, "rel "+longer+"().", 4)
	expectError(t, longer+"().", 0)
	expectError(t, "p() :- "+longer+"().", 7)
	expectError(t, "p() :- not "+longer+"().", 11)
}

func TestTypes(t *testing.T) {
	for _, s := range []string{"", "Int", "integer", "ints", "null", "_", "X", "1", "not", "rel", "int ", "text\n", "anys"} {
		expectNoProgram(t, s, impl.Program{Decls: []impl.Decl{{Name: "a", Types: []string{"int", s}}}})
	}
	for _, s := range []string{"", "Int", "integer", "_", "X", "1", "(int)", `"int"`, "rel", ","} {
		expectError(t, "rel a("+s+",int).", 6)
		expectError(t, "rel a(any,"+s+").", 10)
	}
}

// sized returns n copies of a piece, separated by commas.
func sized(piece string, n int) string {
	return strings.Repeat(piece+", ", n-1) + piece
}

// expectLimit checks a program and its text at a limit, and beyond it.
func expectLimit(t *testing.T, limit int, make func(n int) (impl.Program, string)) {
	t.Helper()
	p, shown := make(limit)
	expectShown(t, p, shown)
	p, shown = make(limit + 1)
	expectNoProgram(t, shown, p)
	expectError(t, shown, len(shown))
	expectError(t, shown+" ?", len(shown)+1)
}

func TestLimits(t *testing.T) {
	arguments := func(n int) [][]impl.Node { return slices.Repeat([][]impl.Node{anyNode()}, n) }
	expectLimit(t, impl.MaxWide, func(n int) (impl.Program, string) {
		return rules(ruleOf(atomOf("p", arguments(n)...))), "p(" + sized("_", n) + ").\n"
	})
	expectLimit(t, impl.MaxWide, func(n int) (impl.Program, string) {
		return rules(ruleOf(atomOf("p"), atomLit(atomOf("q", arguments(n)...)))), "p() :- q(" + sized("_", n) + ").\n"
	})
	expectLimit(t, impl.MaxWide, func(n int) (impl.Program, string) {
		return rules(ruleOf(atomOf("p"), notLit(atomOf("q", arguments(n)...)))), "p() :- not q(" + sized("_", n) + ").\n"
	})
	expectLimit(t, impl.MaxWide, func(n int) (impl.Program, string) {
		return impl.Program{Decls: []impl.Decl{{Name: "p", Types: slices.Repeat([]string{"any"}, n)}}}, "rel p(" + sized("any", n) + ").\n"
	})
	expectLimit(t, impl.MaxBody, func(n int) (impl.Program, string) {
		return rules(ruleOf(atomOf("p"), slices.Repeat([]impl.Lit{atomLit(atomOf("q"))}, n)...)), "p() :- " + sized("q()", n) + ".\n"
	})
	expectLimit(t, impl.MaxRules, func(n int) (impl.Program, string) {
		return rules(slices.Repeat([]impl.Rule{ruleOf(atomOf("p"))}, n)...), strings.Repeat("p().\n", n)
	})
	expectLimit(t, impl.MaxDecls, func(n int) (impl.Program, string) {
		var p impl.Program
		shown := ""
		for i := range n {
			name := "d" + strconv.Itoa(100+i)
			p.Decls = append(p.Decls, impl.Decl{Name: name})
			shown += "rel " + name + "().\n"
		}
		return p, shown
	})
}

// An expression has an odd number of nodes: the greatest one has MaxNodes - 1.
func TestMaxNodes(t *testing.T) {
	chain := func(operations int) ([]impl.Node, string) {
		es, shown := variableNode("X"), "X"
		for i := range operations {
			if i > 0 {
				shown = "(" + shown + ")"
			}
			es, shown = operationNodes(impl.NodeAdd, es, variableNode("Y")), shown+" + Y"
		}
		return es, shown
	}
	greatest, shown := chain(impl.MaxNodes/2 - 1)
	greater, longer := chain(impl.MaxNodes / 2)
	if len(greatest) != impl.MaxNodes-1 || len(greater) != impl.MaxNodes+1 {
		t.Fatal(len(greatest), len(greater))
	}
	expectShown(t, withArgument(greatest), "p("+shown+").\n")
	expectShown(t, rules(ruleOf(atomOf("p"), testLit(greatest, "<", greatest), atomLit(atomOf("q", greatest)))), "p() :- "+shown+" < "+shown+", q("+shown+").\n")
	expectNoProgram(t, "argument", withArgument(greater))
	expectNoProgram(t, "left", rules(ruleOf(atomOf("p"), testLit(greater, "<", greatest))))
	expectNoProgram(t, "right", rules(ruleOf(atomOf("p"), testLit(greatest, "<", greater))))
	for _, src := range []string{"p(" + longer + ").", "p() :- " + longer + " < 1. q().", "p() :- 1 < X + " + longer + ".% x", "p(1" + strings.Repeat("+1", 3900) + ")."} {
		expectError(t, src, len(src))
	}
	deep := strings.Repeat("(", 3900)
	expectArgument(t, deep+"1"+strings.Repeat(")", 3900), constantNode(number(1)))
	expectError(t, "p("+deep+deep, 2+len(deep+deep))
}

func TestMaxSource(t *testing.T) {
	fact := "p().\n"
	p := rules(ruleOf(atomOf("p")))
	expectRead(t, fact+strings.Repeat(" ", impl.MaxSource-len(fact)), p)
	expectRead(t, "%"+strings.Repeat("x", impl.MaxSource-len(fact)-2)+"\n"+fact, p)
	expectError(t, fact+strings.Repeat(" ", impl.MaxSource-len(fact)+1), 0)
	expectError(t, strings.Repeat("\n", impl.MaxSource+1), 0)
	expectError(t, strings.Repeat("?", impl.MaxSource), 0)
	expectError(t, strings.Repeat(" ", impl.MaxSource-1)+"?", impl.MaxSource-1)
	expectError(t, strings.Repeat("\n", impl.MaxSource-1)+"p", impl.MaxSource)
	long := rules(slices.Repeat([]impl.Rule{ruleOf(atomOf("p", slices.Repeat([][]impl.Node{constantNode(text(strings.Repeat("\"", impl.MaxText)))}, impl.MaxWide)...))}, impl.MaxRules)...)
	shown := impl.ShowProgram(long)
	if want := strings.Repeat("p("+sized(`"`+strings.Repeat(`\"`, impl.MaxText)+`"`, impl.MaxWide)+").\n", impl.MaxRules); shown != want {
		t.Error("the text form of a program may be longer than MaxSource")
	}
	expectError(t, shown, 0)
}

func TestErrorPositions(t *testing.T) {
	for src, at := range map[string]int{
		// The text ends too early.
		"p": 1, "p ": 2, "p(": 2, "p(X": 3, "p(X,": 4, "p(X)": 4, "p(X) % x": 8, "p() :-": 6, "p() :- q": 8, "p() :- q(": 9, "p() :- q()": 10, "p() :- q(),": 11,
		"p() :- not": 10, "p() :- X": 8, "p() :- X <": 10, "p() :- X < 1": 12, "p(1 +": 5, "p((1": 4, "p(min": 5, "p(count": 7,
		"rel": 3, "rel p": 5, "rel p(": 6, "rel p(int": 9, "rel p(int,": 10, "rel p(int)": 10, "p(). rel": 8, "p().\nq()\n": 9,
		// A clause without its period.
		"p() q().": 4, "p(X) :- q(X) p().": 13, "rel a() rel b().": 8, "p().. ": 4, ".": 0, "p(), q().": 3, "p() :- q(); r().": 10, "p().q()": 7,
		// A second declaration of a name.
		"rel a(). rel a().": 13, "rel a(). rel a(": 13, "rel a(). rel a": 13, "rel b(). rel a(). a(). rel  b(int).": 28, "rel a(). rel b(). rel c(). rel b(?).": 31,
		// Clauses, heads and arguments.
		"P(x).": 0, "1().": 0, `"a"().`: 0, "_().": 0, "().": 0, ",": 0, ":- q().": 0, "p.": 1, "p :- q().": 2, "p)": 1, "p((": 3, "p() ()": 4, "p(X Y).": 4, "p(X,,Y).": 4, "p(,X).": 2, "p(X,).": 4, "p(x).": 2, "p(q()).": 2, "p(=).": 2,
		"p(min).": 5, "p(min, X).": 5, "p(min min X).": 6, "p(count X).": 8, "p(count + 1).": 8, "p(1 + count).": 6, "p(1 + min X).": 6, "p((min X)).": 3, "p((count)).": 3, "p(not).": 2, "p(rel).": 2, "p(X = 1).": 4,
		"rel a.": 5, "rel a(int text).": 10, "rel a(int,).": 10, "rel a(,int).": 6, "rel A(int).": 4, "rel (int).": 4, "rel rel(int).": 4, "rel a(int) :- q().": 11, "rel a((int)).": 6,
		// Literals.
		"p() :- .": 7, "p(X) :- .": 8, "p() :- , q().": 7, "p() :- q(),.": 11, "p() :- q(), , r().": 12, "p() :- :- q().": 7, "p() :- q() :- r().": 11, "p() :- X.": 8, "p() :- X, q().": 8, "p() :- X < .": 11, "p() :- < X.": 7, "p() :- X < Y < Z.": 13, "p() :- X = = Y.": 11, "p() :- X == Y.": 10, "p() :- X =< Y.": 10, "p() :- X < = Y.": 11, "p() :- X <> Y.": 10, "p() :- X ! = Y.": 9, "p() :- X => Y.": 10, "p() : - q().": 4,
		"p() :- q() < 1.": 11, "p() :- 1 < q().": 11, "p() :- 1 < q.": 11, "p() :- q.": 8, "p() :- q, r().": 8, "p() :- q(min X).": 9, "p() :- q(count).": 9, "p() :- min X < 1.": 7, "p() :- not X < 1.": 11, "p() :- not not q().": 11, "p() :- (q()).": 8, "p() :- (not q()).": 8, "p() :- (X < 1).": 10, "p() :- rel q().": 7, "p() :- not q() + 1.": 15,
		// Expressions.
		"p(+ 1).": 2, "p(* 1).": 2, "p(1 +).": 5, "p(1 * * 2).": 6, "p(1 + * 2).": 6, "p(1 1).": 4, "p(1 (2)).": 4, "p(()).": 3, "p((1).": 5, "p(1)).": 4, "p((1,2)).": 4, "p(X _).": 4, `p("a" "b").`: 6, "p(1 / 2).": 4, "p(1.5).": 3,
	} {
		expectError(t, src, at)
	}
}

// A grammar of token sequences. The token -1 is an integer where no expression
// precedes it, and otherwise an operator and its right side.
var grammar = map[string][]string{
	"program":  {"", "program clause ."},
	"clause":   {"rel word ( )", "rel word ( types )", "head", "head :- lits"},
	"word":     {"p", "int"},
	"types":    {"int", "types , int"},
	"head":     {"word ( )", "word ( heads )"},
	"heads":    {"argument", "heads , argument"},
	"argument": {"sum", "min sum", "count"},
	"lits":     {"lit", "lits , lit"},
	"lit":      {"atom", "not atom", "sum < sum"},
	"atom":     {"word ( )", "word ( sums )"},
	"sums":     {"sum", "sums , sum"},
	"sum":      {"product", "sum + product", "sum - product", "sum signed"},
	"signed":   {"-1", "signed * operand"},
	"product":  {"operand", "product * operand"},
	"operand":  {"X", "-1", "( sum )"},
}

var grammarTokens = strings.Fields(". rel p ( ) , int :- min count not < X -1 + - *")

// An item is a production that has been recognised up to a dot.
type item struct {
	name  string
	parts string
	dot   int
	start int
}

// A chart holds the items after each token that was accepted (Earley's
// algorithm).
type chart [][]item

func startChart() chart {
	return chart{}.closed([]item{{"start", "program", 0, 0}})
}

func (c chart) closed(set []item) chart {
	sets := append(slices.Clone(c), set)
	last := len(sets) - 1
	add := func(i item) {
		if !slices.Contains(sets[last], i) {
			sets[last] = append(sets[last], i)
		}
	}
	// A production that is empty may be completed before it is asked for, so
	// the set is gone through until nothing is new.
	for before := -1; before != len(sets[last]); {
		before = len(sets[last])
		for n := 0; n < len(sets[last]); n++ {
			i := sets[last][n]
			if parts := strings.Fields(i.parts); i.dot < len(parts) {
				for _, production := range grammar[parts[i.dot]] {
					add(item{parts[i.dot], production, 0, last})
				}
				continue
			}
			for _, j := range sets[i.start] {
				if parts := strings.Fields(j.parts); j.dot < len(parts) && parts[j.dot] == i.name {
					add(item{j.name, j.parts, j.dot + 1, j.start})
				}
			}
		}
	}
	return sets
}

// after returns the chart after one more token, or nil if it is an error.
func (c chart) after(token string) chart {
	set := []item{}
	for _, i := range c[len(c)-1] {
		if parts := strings.Fields(i.parts); i.dot < len(parts) && parts[i.dot] == token {
			set = append(set, item{i.name, i.parts, i.dot + 1, i.start})
		}
	}
	if len(set) == 0 {
		return nil
	}
	return c.closed(set)
}

func (c chart) isComplete() bool {
	return slices.Contains(c[len(c)-1], item{"start", "program", 1, 0})
}

// visitSequences goes on from tokens that c accepts by at most more tokens,
// and checks each sequence and the first error after it.
func visitSequences(t *testing.T, src string, c chart, more int) {
	if c.isComplete() {
		p, at := impl.ReadProgram(src)
		if again, _ := impl.ReadProgram(impl.ShowProgram(p)); at != -1 || !samePrograms(p, again) {
			t.Errorf("%q gives %d", src, at)
		}
	} else {
		expectError(t, src, len(src))
	}
	if more == 0 {
		return
	}
	for _, token := range grammarTokens {
		longer := src + " " + token
		if next := c.after(token); next != nil {
			visitSequences(t, longer, next, more-1)
		} else {
			expectError(t, longer, len(src)+1)
			expectError(t, longer+" ) ?", len(src)+1)
		}
	}
}

// The position of the first error, for every short sequence of tokens, also
// after longer beginnings. The sequences are too short for a name that is
// declared twice and for a head with two aggregates.
func TestFirstErrorFollowsTheGrammar(t *testing.T) {
	for src, more := range map[string]int{
		"":                            6,
		"p (":                         4,
		"p ( X ) :-":                  6,
		"p ( ) :- not p ( X":          6,
		"p ( min X , X":               3,
		"rel p ( int":                 3,
		"p ( ) . p ( ( X":             6,
		"p ( ) :- X + X * (":          6,
		"p ( ) :- p ( ) , -1 < X * X": 3,
		"int ( count":                 3,
	} {
		c := startChart()
		for _, token := range strings.Fields(src) {
			c = c.after(token)
		}
		visitSequences(t, src, c, more)
	}
}

// Promise 1: a text form ends too early at each of its tokens, and each of its
// tokens may be followed by an error.
func TestTextsThatEndTooEarly(t *testing.T) {
	for _, d := range drafts(100) {
		for _, span := range pieces.FindAllStringIndex(d.shown, -1) {
			src := d.shown[:span[1]]
			if p, at := impl.ReadProgram(src); d.shown[span[0]:span[1]] != "." {
				expectError(t, src, len(src))
			} else if at != -1 || !strings.HasPrefix(d.shown, impl.ShowProgram(p)) {
				t.Errorf("%q: %d", src, at)
			}
			expectError(t, src+" ?", len(src)+1)
			expectError(t, src+"\n 1a", len(src)+2)
		}
	}
}

func TestProgramsThatAreNotOkAfterParsing(t *testing.T) {
	for _, src := range []string{
		"p(min X, max Y) :- q(X, Y).",
		"p(count, count) :- q().  ",
		"p(sum X, Y, count) :- q(X, Y). % x",
		"p(" + sized("X", 9) + ").",
		"p(" + sized("count", 9) + ").",
		"p() :- " + sized("1 < 2", 13) + ".",
		"rel a(" + sized("int", 9) + "). p().",
	} {
		expectError(t, src, len(src))
		expectError(t, src+"\np() :- ?", len(src)+8)
	}
}

func TestNodesThatAreNoExpression(t *testing.T) {
	x, y := impl.Node{Kind: impl.NodeVar, Name: "X"}, impl.Node{Kind: impl.NodeVar, Name: "Y"}
	one := impl.Node{Kind: impl.NodeConst, Value: number(1)}
	add := func(size int64) impl.Node { return impl.Node{Kind: impl.NodeAdd, Size: size} }
	for name, es := range map[string][]impl.Node{
		"no nodes":                    {},
		"kind 0":                      {{}},
		"kind 0 with a name":          {{Name: "X"}},
		"kind 7":                      {{Kind: 7}},
		"kind -1":                     {{Kind: -1}},
		"greatest kind":               {{Kind: math.MaxInt64}},
		"two nodes":                   {x, y},
		"three nodes":                 {x, y, one},
		"an expression and a node":    {add(2), x, y, one},
		"a variable without a name":   {{Kind: impl.NodeVar}},
		"a word as a variable":        {{Kind: impl.NodeVar, Name: "x"}},
		"_ as a variable":             {{Kind: impl.NodeVar, Name: "_"}},
		"a variable with a value":     {{Kind: impl.NodeVar, Name: "X", Value: number(0)}},
		"a variable with a text":      {{Kind: impl.NodeVar, Name: "X", Value: impl.Value{Text: "a"}}},
		"a variable with a size":      {{Kind: impl.NodeVar, Name: "X", Size: 1}},
		"a variable with a part":      {{Kind: impl.NodeVar, Name: "X", Size: 1}, y},
		"a variable of size -1":       {{Kind: impl.NodeVar, Name: "X", Size: -1}},
		"a constant without a value":  {{Kind: impl.NodeConst}},
		"a constant with a name":      {{Kind: impl.NodeConst, Value: number(1), Name: "X"}},
		"a constant with a size":      {{Kind: impl.NodeConst, Value: number(1), Size: 2}},
		"a constant with parts":       {{Kind: impl.NodeConst, Value: number(1), Size: 2}, x, y},
		"a null":                      constantNode(null(1)),
		"anything with a name":        {{Kind: impl.NodeAny, Name: "_"}},
		"anything with a value":       {{Kind: impl.NodeAny, Value: number(1)}},
		"anything with a size":        {{Kind: impl.NodeAny, Size: 1}},
		"an operation without parts":  {add(0)},
		"an operation with one part":  {add(1), x},
		"two parts, only one here":    {add(2), x},
		"an operation of size 0":      {add(0), x, y},
		"an operation of size 1":      {add(1), x, y},
		"an operation of size 3":      {add(3), x, y},
		"an operation of size -2":     {add(-2), x, y},
		"an operation of wide size":   {add(math.MaxInt64), x, y},
		"the smallest size":           {add(math.MinInt64), x, y},
		"three parts":                 {add(3), x, y, one},
		"an operation with a name":    {{Kind: impl.NodeMul, Name: "X", Size: 2}, x, y},
		"an operation with a value":   {{Kind: impl.NodeSub, Value: number(1), Size: 2}, x, y},
		"an inner size":               {add(4), add(1), x, y, one},
		"an inner size of all":        {add(4), add(3), x, y, one},
		"an outer size":               {add(2), add(2), x, y, one},
		"swapped sizes":               {add(4), x, add(4), y, one},
		"a missing last part":         {add(3), x, add(1), y},
		"an invalid left part":        {add(2), {}, y},
		"an invalid right part":       {add(2), x, {}},
		"an invalid part of a part":   {add(4), x, add(2), y, {Kind: impl.NodeVar, Name: "y"}},
		"a part with a name too many": {add(2), x, {Kind: impl.NodeAny, Name: "Y"}},
	} {
		expectNoProgram(t, name, withArgument(es))
		expectNoProgram(t, name, rules(ruleOf(atomOf("p", anyNode(), es))))
		expectNoProgram(t, name, rules(ruleOf(atomOf("p"), atomLit(atomOf("q", anyNode(), es)))))
		expectNoProgram(t, name, rules(ruleOf(atomOf("p"), notLit(atomOf("q", es)))))
		expectNoProgram(t, name, rules(ruleOf(atomOf("p"), testLit(es, "<", anyNode()))))
		expectNoProgram(t, name, rules(ruleOf(atomOf("p"), testLit(anyNode(), "<", es))))
	}
	for _, v := range invalidValues {
		expectNoProgram(t, "constant", withArgument(constantNode(v)))
	}
}

func TestLongListsOfNodesAreNoExpressions(t *testing.T) {
	for _, n := range []impl.Node{{Kind: impl.NodeAdd, Size: 2}, {Kind: impl.NodeAny}, {}} {
		expectNoProgram(t, "long", withArgument(slices.Repeat([]impl.Node{n}, impl.MaxNodes)))
		if impl.ProgramOk(withArgument(slices.Repeat([]impl.Node{n}, 200000))) {
			t.Error("a list of 200000 nodes")
		}
	}
}

func TestLiteralsThatAreNotOk(t *testing.T) {
	x := variableNode("X")
	for name, l := range map[string]impl.Lit{
		"kind 0":                  {},
		"kind 0 with an atom":     {Atom: atomOf("q")},
		"kind 0 with a test":      {Op: "<", Left: x, Right: x},
		"kind 4":                  {Kind: 4, Atom: atomOf("q")},
		"kind -1":                 {Kind: -1, Atom: atomOf("q")},
		"an atom without a name":  {Kind: impl.LitAtom},
		"a not without a name":    {Kind: impl.LitNot},
		"an atom with Op":         {Kind: impl.LitAtom, Atom: atomOf("q"), Op: "="},
		"an atom with Left":       {Kind: impl.LitAtom, Atom: atomOf("q"), Left: x},
		"an atom with Right":      {Kind: impl.LitAtom, Atom: atomOf("q"), Right: x},
		"a not with Op":           {Kind: impl.LitNot, Atom: atomOf("q"), Op: "="},
		"a not with Left":         {Kind: impl.LitNot, Atom: atomOf("q"), Left: x},
		"a not with Right":        {Kind: impl.LitNot, Atom: atomOf("q"), Right: x},
		"a test with a name":      {Kind: impl.LitTest, Atom: impl.Atom{Name: "q"}, Op: "=", Left: x, Right: x},
		"a test with arguments":   {Kind: impl.LitTest, Atom: impl.Atom{Args: [][]impl.Node{x}}, Op: "=", Left: x, Right: x},
		"a test without Op":       testLit(x, "", x),
		"a test with ==":          testLit(x, "==", x),
		"a test with =<":          testLit(x, "=<", x),
		"a test with :-":          testLit(x, ":-", x),
		"a test with a blank":     testLit(x, "< ", x),
		"a test without its left": testLit(nil, "=", x),
		"a test without right":    testLit(x, "=", nil),
	} {
		expectNoProgram(t, name, rules(ruleOf(atomOf("p"), l)))
		expectNoProgram(t, name, rules(ruleOf(atomOf("p")), ruleOf(atomOf("p"), atomLit(atomOf("q")), l)))
	}
	empty := []impl.Node{}
	expectShown(t, rules(ruleOf(atomOf("p"),
		impl.Lit{Kind: impl.LitAtom, Atom: impl.Atom{Name: "q", Args: [][]impl.Node{}}, Left: empty, Right: empty},
		impl.Lit{Kind: impl.LitTest, Atom: impl.Atom{Args: [][]impl.Node{}}, Op: "<", Left: x, Right: x},
	)), "p() :- q(), X < X.\n")
}

func TestAggregatesThatAreNotOk(t *testing.T) {
	x, sum := variableNode("X"), operationNodes(impl.NodeAdd, anyNode(), anyNode())
	for name, r := range map[string]impl.Rule{
		"no Aggs":                {Head: atomOf("p", x)},
		"Aggs without arguments": {Head: atomOf("p"), Aggs: []string{""}},
		"shorter Aggs":           {Head: atomOf("p", x, x), Aggs: []string{""}},
		"shorter Aggs with min":  {Head: atomOf("p", x, x), Aggs: []string{"min"}},
		"longer Aggs":            {Head: atomOf("p", x), Aggs: []string{"", ""}},
		"longer Aggs with min":   {Head: atomOf("p", x), Aggs: []string{"", "min"}},
		"two aggregates":         {Head: atomOf("p", x, x), Aggs: []string{"min", "max"}},
		"one aggregate twice":    {Head: atomOf("p", x, x), Aggs: []string{"sum", "sum"}},
		"two counts":             {Head: atomOf("p", anyNode(), x, anyNode()), Aggs: []string{"count", "", "count"}},
		"three aggregates":       {Head: atomOf("p", x, x, x), Aggs: []string{"sum", "sum", "sum"}},
		"another word":           {Head: atomOf("p", x), Aggs: []string{"avg"}},
		"not":                    {Head: atomOf("p", x), Aggs: []string{"not"}},
		"a blank":                {Head: atomOf("p", x), Aggs: []string{"min "}},
		"count of a variable":    {Head: atomOf("p", x), Aggs: []string{"count"}},
		"count of a constant":    {Head: atomOf("p", constantNode(number(1))), Aggs: []string{"count"}},
		"count of a sum":         {Head: atomOf("p", sum), Aggs: []string{"count"}},
		"count of nothing":       {Head: atomOf("p", nil), Aggs: []string{"count"}},
		"count of two":           {Head: atomOf("p", slices.Repeat(anyNode(), 2)), Aggs: []string{"count"}},
	} {
		expectNoProgram(t, name, rules(r))
		expectNoProgram(t, name, rules(ruleOf(atomOf("p")), r))
	}
}

func TestDeclarationsThatAreNotAscending(t *testing.T) {
	for name, decls := range map[string][]impl.Decl{
		"descending":     {{Name: "b"}, {Name: "a"}},
		"equal":          {{Name: "a"}, {Name: "a"}},
		"equal names":    {{Name: "a"}, {Name: "a", Types: []string{"int"}}},
		"a prefix after": {{Name: "aa"}, {Name: "a"}},
		"at the end":     {{Name: "a"}, {Name: "c"}, {Name: "b"}},
		"equal, apart":   {{Name: "a"}, {Name: "b"}, {Name: "a"}},
		"no name":        {{}},
		"a variable":     {{Name: "A"}},
	} {
		expectNoProgram(t, name, impl.Program{Decls: decls})
	}
	expectShown(t, impl.Program{Decls: []impl.Decl{{Name: "a"}, {Name: "aA"}, {Name: "a_"}, {Name: "aa"}, {Name: "b"}}}, "rel a().\nrel aA().\nrel a_().\nrel aa().\nrel b().\n")
}

func TestVarsOf(t *testing.T) {
	for src, want := range map[string]string{
		"p().":             "",
		"p(1, _, \"X\").":  "",
		"p(X).":            "X",
		"p(Y, X, Y).":      "X Y",
		"p(X) :- q(Y, X).": "X Y",
		"p(count) :- not q(Z + 1, Y), A * B <= (C - D) * E, r(X10, X9, X).": "A B C D E X X10 X9 Y Z",
		"p(min B) :- q(Ba), r(BA), s(B_), t(B1).":                           "B B1 BA B_ Ba",
	} {
		p, at := impl.ReadProgram(src)
		if at != -1 {
			t.Fatal(src, at)
		}
		if got := strings.Join(impl.VarsOf(p.Rules[0]), " "); got != want {
			t.Errorf("VarsOf(%s) = %q, not %q", src, got, want)
		}
	}
	if vars := impl.VarsOf(impl.Rule{}); len(vars) != 0 {
		t.Errorf("VarsOf of the zero Rule: %v", vars)
	}
	for _, d := range drafts(500) {
		for _, r := range d.program.Rules {
			shown := impl.ShowProgram(rules(r))
			names := regexp.MustCompile(`"(?:[^"\\]|\\.)*"|\b[A-Z]\w*|\w+`).FindAllString(shown, -1)
			names = slices.DeleteFunc(names, func(s string) bool { return !variableGrammar.MatchString(s) })
			slices.Sort(names)
			if got := impl.VarsOf(r); !slices.Equal(got, slices.Compact(names)) {
				t.Errorf("VarsOf(%s) = %v", shown, got)
			}
		}
	}
}

// Promise 19: an invalid rule has variables, too.
func TestVarsOfInvalidRules(t *testing.T) {
	x := impl.Node{Kind: impl.NodeVar, Name: "X", Size: -5}
	y := impl.Node{Kind: impl.NodeVar, Name: "Y", Size: math.MaxInt64}
	r := impl.Rule{
		Head: atomOf("", []impl.Node{y, {}, x}, nil),
		Aggs: []string{"a", "b", "c"},
		Body: []impl.Lit{{Kind: impl.LitTest, Left: []impl.Node{{Kind: impl.NodeAdd, Size: 9}, {Kind: impl.NodeVar, Name: "A"}}}, {Kind: impl.LitNot, Atom: atomOf("not", []impl.Node{{Kind: impl.NodeAny, Name: "Z"}})}},
	}
	if got := impl.VarsOf(r); !slices.Equal(got, []string{"A", "X", "Y"}) {
		t.Error(got)
	}
}

// spacious returns a copy of p in which every slice has unused capacity.
func spacious(p impl.Program) impl.Program {
	nodes := func(es []impl.Node) []impl.Node {
		return append(slices.Clone(es), variableNode("Unused")...)[:len(es)]
	}
	atom := func(a impl.Atom) impl.Atom {
		args := make([][]impl.Node, 0, len(a.Args)+2)
		for _, es := range a.Args {
			args = append(args, nodes(es))
		}
		return impl.Atom{Name: strings.Clone(a.Name), Args: args}
	}
	var out impl.Program
	for _, d := range p.Decls {
		out.Decls = append(out.Decls, impl.Decl{Name: strings.Clone(d.Name), Types: append(slices.Clone(d.Types), "unused")[:len(d.Types)]})
	}
	for _, r := range p.Rules {
		body := make([]impl.Lit, 0, len(r.Body)+2)
		for _, l := range r.Body {
			body = append(body, impl.Lit{Kind: l.Kind, Atom: atom(l.Atom), Op: l.Op, Left: nodes(l.Left), Right: nodes(l.Right)})
		}
		out.Rules = append(out.Rules, impl.Rule{Head: atom(r.Head), Aggs: append(slices.Clone(r.Aggs), "unused")[:len(r.Aggs)], Body: body})
	}
	return out
}

// Promise 19.
func TestProgramsAreNotModified(t *testing.T) {
	list := drafts(200)
	for _, d := range list {
		p := spacious(d.program)
		before := contents(p)
		impl.ProgramOk(p)
		impl.ShowProgram(p)
		for _, r := range p.Rules {
			impl.VarsOf(r)
		}
		if after := contents(p); after != before {
			t.Fatalf("%s became %s", before, after)
		}
	}
}

// Promise 19.
func TestProgramResultsAreNewMemory(t *testing.T) {
	for _, d := range drafts(200) {
		src := strings.Clone(d.shown)
		p, _ := impl.ReadProgram(src)
		expectOwnMemory(t, p, src)
		again, _ := impl.ReadProgram(src)
		expectOwnMemory(t, again, p)
		expectOwnMemory(t, impl.ShowProgram(p), p)
		for _, r := range p.Rules {
			vars := impl.VarsOf(r)
			expectOwnMemory(t, vars, p)
			expectOwnMemory(t, impl.VarsOf(r), vars)
		}
	}
}

// wildPrograms are of any shape; hardly one of them is valid.
func wildPrograms(count int) []impl.Program {
	source := rand.New(rand.NewSource(5))
	pick := func(list ...int64) int64 { return list[source.Intn(len(list))] }
	name := func() string {
		return []string{"", "p", "X", "_", "not", "min", "count", "=", "<", "int", "\xff", strings.Repeat("w", 30)}[source.Intn(12)]
	}
	nodes := func() []impl.Node {
		es := make([]impl.Node, source.Intn(6))
		for i := range es {
			es[i] = impl.Node{Kind: pick(-1, 0, 1, 2, 3, 4, 5, 6, 7), Size: pick(0, 0, 1, 2, 4, -1, math.MaxInt64, math.MinInt64)}
			if source.Intn(2) == 0 {
				es[i].Name, es[i].Value = name(), comparedValues[source.Intn(len(comparedValues))]
			}
		}
		return es
	}
	atom := func() impl.Atom {
		a := impl.Atom{Name: name()}
		for range source.Intn(3) {
			a.Args = append(a.Args, nodes())
		}
		return a
	}
	list := []impl.Program{}
	for range count {
		var p impl.Program
		for range source.Intn(3) {
			p.Decls = append(p.Decls, impl.Decl{Name: name(), Types: []string{name()}})
		}
		for range source.Intn(3) {
			r := impl.Rule{Head: atom(), Aggs: []string{name(), ""}[source.Intn(2):]}
			for range source.Intn(3) {
				r.Body = append(r.Body, impl.Lit{Kind: pick(-1, 0, 1, 2, 3, 4), Atom: atom(), Op: name(), Left: nodes(), Right: nodes()})
			}
			p.Rules = append(p.Rules, r)
		}
		list = append(list, p)
	}
	return list
}

// Promise 19: no argument makes a function panic.
func TestProgramFunctionsReturnForEveryArgument(t *testing.T) {
	for _, p := range wildPrograms(20000) {
		for _, r := range p.Rules {
			impl.VarsOf(r)
		}
		if shown := impl.ShowProgram(p); impl.ProgramOk(p) {
			expectRead(t, shown, p)
		} else if shown != "" {
			t.Fatalf("%v is shown as %q", p, shown)
		}
	}
}

// Promises 1 and 19: every text is read, and what is read is recovered.
func TestEveryShortTextIsRead(t *testing.T) {
	check := func(src string) {
		p, at := impl.ReadProgram(src)
		if at == -1 {
			expectRead(t, impl.ShowProgram(p), p)
			return
		}
		if at < 0 || at > int64(len(src)) || !isZero(p) {
			t.Errorf("ReadProgram(%q) = %v, %d", src, p, at)
			return
		}
		// What precedes the first error is the beginning of a program text.
		if _, early := impl.ReadProgram(src[:at]); early != -1 && early != at {
			t.Errorf("%q has an error at %d and %q one at %d", src, at, src[:at], early)
		}
	}
	everyText("pX(),.:-1_\"% ", 4, check)
	everyText("pX()-1*\"", 5, func(s string) { check("p(" + s + ").") })
	everyText("pX(),<=-1", 5, func(s string) { check("p():-" + s + ".") })
	source := rand.New(rand.NewSource(6))
	for _, d := range drafts(300) {
		for range 20 {
			b := []byte(d.shown + " ")
			b[source.Intn(len(b))] = fmt.Append(nil, "pX(),.:-1_\"% <=+*?\\\n\x00\xff")[source.Intn(20)]
			check(string(b))
		}
	}
}
