package doc_test

import (
	"fmt"
	"math"
	"math/rand"
	"regexp"
	"slices"
	"strconv"
	"strings"
	"testing"

	"turncock/api"
	"turncock/doc"
	"turncock/lex"
	"turncock/line"
)

// told is what Of and Parse answer.
type told struct {
	doc   api.Doc
	fault api.Fault
}

func sameNode(a, b api.Node) bool {
	return a.Kind == b.Kind && a.Line == b.Line && a.Text == b.Text && a.Quoted == b.Quoted && slices.Equal(a.Keys, b.Keys) && slices.Equal(a.Kids, b.Kids)
}

func (a told) same(b told) bool {
	return slices.EqualFunc(a.doc.Nodes, b.doc.Nodes, sameNode) && a.fault == b.fault
}

func (a told) String() string {
	return fmt.Sprintf("%.900q %v", fmt.Sprint(a.doc), a.fault)
}

func wrong(kind, no int) told {
	return told{fault: api.Fault{Kind: kind, Line: no}}
}

func of(l ...api.Piece) told {
	d, f := doc.Of(l)
	return told{d, f}
}

func parse(s string) told {
	d, f := doc.Parse([]byte(s))
	return told{d, f}
}

// open is a list or a map that goes on, as the model has it: its node's number, and of which pieces it is.
type open struct{ node, kind, col int }

// ofModel is P12.1 piece by piece, without a walk: what is open stands on a stack.
func ofModel(l []api.Piece) told {
	if len(l) == 0 {
		return wrong(10, 1)
	}
	var nodes []api.Node
	var stack []open
	var owner *api.Piece // the dash or key that the block which begins is behind
	begins := true
	for i := range l {
		p := &l[i]
		if begins {
			switch {
			case owner != nil && p.Col <= owner.Col:
				return wrong(10, owner.Line)
			case p.Kind < 1 || p.Kind > 3:
				return wrong(6, p.Line)
			case len(stack)+1 > 24:
				return wrong(8, p.Line)
			case len(nodes)+1 > 2000:
				return wrong(9, p.Line)
			}
			if len(stack) > 0 {
				up := &nodes[stack[len(stack)-1].node]
				up.Kids = append(up.Kids, len(nodes))
			}
			if p.Kind == 3 {
				nodes = append(nodes, api.Node{Kind: 1, Line: p.Line, Text: p.Text, Quoted: p.Quoted})
				begins = false
				continue
			}
			nodes = append(nodes, api.Node{Kind: p.Kind + 1, Line: p.Line})
			stack = append(stack, open{len(nodes) - 1, p.Kind, p.Col})
		}
		for len(stack) > 0 && (stack[len(stack)-1].kind != p.Kind || stack[len(stack)-1].col != p.Col) {
			stack = stack[:len(stack)-1]
		}
		if len(stack) == 0 {
			return wrong(6, p.Line)
		}
		if p.Kind == 2 {
			top := &nodes[stack[len(stack)-1].node]
			if slices.Contains(top.Keys, p.Text) {
				return wrong(7, p.Line)
			}
			top.Keys = append(top.Keys, p.Text)
		}
		owner, begins = p, true
	}
	if begins {
		return wrong(10, owner.Line)
	}
	return told{doc: api.Doc{Nodes: nodes}}
}

// parseModel is P12.2 upon the model of Of.
func parseModel(s string) told {
	lines, fault := line.Lines([]byte(s))
	if fault.Kind != 0 {
		return told{fault: fault}
	}
	pieces, fault := lex.All(lines)
	if fault.Kind != 0 {
		return told{fault: fault}
	}
	return ofModel(pieces)
}

// checkOf holds Of against the model.
func checkOf(t *testing.T, l []api.Piece) told {
	t.Helper()
	got, want := of(l...), ofModel(l)
	if !got.same(want) {
		t.Fatalf("Of(%.600q) = %v, want %v", fmt.Sprint(l), got, want)
	}
	return got
}

func checkParse(t *testing.T, s string) told {
	t.Helper()
	got, want := parse(s), parseModel(s)
	if !got.same(want) {
		t.Fatalf("Parse(%.600q) = %v, want %v", s, got, want)
	}
	return got
}

var token = regexp.MustCompile(`\A(-?\d+)(?:(-)|([^:]*):|=(.*)|'(.*)|\?(-?\d+))\z`)

// list is pieces by short signs, a blank between: of column 3 a dash 3-, a key 3key:, a text 3=text, a quoted one 3'text, one of
// Kind 9 3?9. They stand in lines 10, 20, ..
func list(s string) []api.Piece {
	var l []api.Piece
	for i, sign := range strings.Fields(s) {
		m := token.FindStringSubmatchIndex(sign)
		if m == nil {
			panic("no piece: " + sign)
		}
		part := func(n int) string { return sign[m[2*n]:m[2*n+1]] }
		col, _ := strconv.Atoi(part(1))
		p := api.Piece{Line: 10 * (i + 1), Col: col}
		switch {
		case m[4] >= 0:
			p.Kind = api.PDash
		case m[6] >= 0:
			p.Kind, p.Text = api.PKey, part(3)
		case m[8] >= 0:
			p.Kind, p.Text = api.PText, part(4)
		case m[10] >= 0:
			p.Kind, p.Text, p.Quoted = api.PText, part(5), true
		default:
			p.Kind, _ = strconv.Atoi(part(6))
		}
		l = append(l, p)
	}
	return l
}

var faultNames = map[int]string{1: "FBig", 2: "FByte", 3: "FQuote", 4: "FText", 5: "FKey", 6: "FIndent", 7: "FTwice", 8: "FDeep", 9: "FMany", 10: "FEmpty"}

// short tells a document as lists [..], maps {key:..}, texts and 'quoted texts', and a fault as its name and its line. The nodes
// must be numbered as they are met.
func short(t *testing.T, a told) string {
	t.Helper()
	if a.fault.Kind != 0 {
		if len(a.doc.Nodes) != 0 {
			t.Errorf("beside %v the document %v", a.fault, a.doc)
		}
		return fmt.Sprintf("%s %d", faultNames[a.fault.Kind], a.fault.Line)
	}
	met := 0
	var tell func() string
	tell = func() string {
		n := a.doc.Nodes[met]
		met++
		var kids []string
		for i, kid := range n.Kids {
			if kid != met {
				t.Errorf("kid %d of %v is met as %d", i, n, met)
			}
			front := ""
			if n.Kind == api.NMap {
				front = n.Keys[i] + ":"
			}
			kids = append(kids, front+tell())
		}
		switch {
		case n.Kind == api.NText && n.Keys == nil && n.Kids == nil && n.Quoted:
			return "'" + n.Text + "'"
		case n.Kind == api.NText && n.Keys == nil && n.Kids == nil:
			return n.Text
		case n.Kind == api.NList && n.Keys == nil && n.Text == "" && !n.Quoted:
			return "[" + strings.Join(kids, " ") + "]"
		case n.Kind == api.NMap && len(n.Keys) == len(n.Kids) && n.Text == "" && !n.Quoted:
			return "{" + strings.Join(kids, " ") + "}"
		}
		t.Errorf("the node %v", n)
		return "?"
	}
	out := tell()
	if met != len(a.doc.Nodes) || a.fault != (api.Fault{}) {
		t.Errorf("%v: %d nodes are met", a, met)
	}
	return out
}

// ofCase is pieces, as list takes them, and what must be told of them, as short tells it.
type ofCase struct{ pieces, want string }

func checkCases(t *testing.T, cases []ofCase) {
	t.Helper()
	for _, c := range cases {
		l := list(c.pieces)
		for _, a := range []told{of(l...), ofModel(l)} {
			if got := short(t, a); got != c.want {
				t.Errorf("Of(%.300s) = %.300s, want %.300s", c.pieces, got, c.want)
			}
		}
		checkOf(t, l)
	}
}

func TestExamples(t *testing.T) { // P12.1, P12.2: the chapter's examples
	want := told{doc: api.Doc{Nodes: []api.Node{{Kind: api.NMap, Line: 1, Keys: []string{"a"}, Kids: []int{1}}, {Kind: api.NText, Line: 1, Text: "b"}}}}
	for _, got := range []told{parse("a: b"), of(api.Piece{Kind: api.PKey, Line: 1, Text: "a"}, api.Piece{Kind: api.PText, Line: 1, Col: 3, Text: "b"}), parseModel("a: b")} {
		if !got.same(want) {
			t.Errorf("%v, want %v", got, want)
		}
	}
	for _, got := range []told{parse("a:"), of(api.Piece{Kind: api.PKey, Line: 1, Text: "a"}), parseModel("a:")} {
		if !got.same(wrong(api.FEmpty, 1)) {
			t.Errorf("%v", got)
		}
	}
}

func TestOfWhole(t *testing.T) { // P12.1: numbers, Lines, Keys and Kids, of lines that do not rise by one
	k := func(no, col int, key string) api.Piece {
		return api.Piece{Kind: api.PKey, Line: no, Col: col, Text: key}
	}
	d := func(no, col int) api.Piece { return api.Piece{Kind: api.PDash, Line: no, Col: col} }
	x := func(no, col int, text string) api.Piece {
		return api.Piece{Kind: api.PText, Line: no, Col: col, Text: text}
	}
	got := of(k(7, 0, "a"), d(9, 2), k(9, 4, "b"), x(9, 7, "c"), k(40, 4, "d"), d(41, 6), x(43, 8, "e"), d(44, 2), d(44, 4), x(44, 6, "f"), d(50, 4), x(50, 6, "g"), k(3, 0, "h"), x(3, 3, "i"))
	want := told{doc: api.Doc{Nodes: []api.Node{
		{Kind: api.NMap, Line: 7, Keys: []string{"a", "h"}, Kids: []int{1, 9}},
		{Kind: api.NList, Line: 9, Kids: []int{2, 6}},
		{Kind: api.NMap, Line: 9, Keys: []string{"b", "d"}, Kids: []int{3, 4}},
		{Kind: api.NText, Line: 9, Text: "c"},
		{Kind: api.NList, Line: 41, Kids: []int{5}},
		{Kind: api.NText, Line: 43, Text: "e"},
		{Kind: api.NList, Line: 44, Kids: []int{7, 8}},
		{Kind: api.NText, Line: 44, Text: "f"},
		{Kind: api.NText, Line: 50, Text: "g"},
		{Kind: api.NText, Line: 3, Text: "i"},
	}}}
	if !got.same(want) {
		t.Errorf("%v, want %v", got, want)
	}
}

func TestOfNothing(t *testing.T) { // P12.1
	for _, l := range [][]api.Piece{nil, {}, make([]api.Piece, 0, 8)} {
		if got := of(l...); !got.same(wrong(api.FEmpty, 1)) {
			t.Errorf("Of of no piece: %v", got)
		}
	}
}

func TestOfEachKind(t *testing.T) { // P12.1: at the root, behind a dash, behind a key; of a Kind that is none, too
	checkCases(t, []ofCase{
		{"0=a", "a"}, {"0'a", "'a'"}, {"0-", "FEmpty 10"}, {"0a:", "FEmpty 10"}, {"0?0", "FIndent 10"}, {"0?4", "FIndent 10"}, {"0?-1", "FIndent 10"}, {"0?9", "FIndent 10"},
		{"0- 1=a", "[a]"}, {"0- 1'a", "['a']"}, {"0- 1-", "FEmpty 20"}, {"0- 1a:", "FEmpty 20"}, {"0- 1?0", "FIndent 20"}, {"0- 1?4", "FIndent 20"}, {"0- 1?-1", "FIndent 20"}, {"0- 1?9", "FIndent 20"},
		{"0k: 1=a", "{k:a}"}, {"0k: 1'a", "{k:'a'}"}, {"0k: 1-", "FEmpty 20"}, {"0k: 1a:", "FEmpty 20"}, {"0k: 1?0", "FIndent 20"}, {"0k: 1?4", "FIndent 20"}, {"0k: 1?-1", "FIndent 20"}, {"0k: 1?9", "FIndent 20"},
		{"0- 1- 2=a", "[[a]]"}, {"0- 1k: 2=a", "[{k:a}]"}, {"0k: 1- 2=a", "{k:[a]}"}, {"0k: 1j: 2=a", "{k:{j:a}}"},
		{"0?0 1=a", "FIndent 10"}, {"0?4 0-", "FIndent 10"}, {"0- 1?0 2=a", "FIndent 20"}, {"0k: 1?9 0j:", "FIndent 20"},
	})
	for _, kind := range []int{0, 4, 5, -1, -2, -3, 1 << 32, 1<<32 + 3, math.MaxInt, math.MinInt} {
		for _, front := range []string{"", "0-", "0k:", "0- 1-", "0- 1=a", "0k: 1=a", "0=a"} {
			l := append(list(front), api.Piece{Kind: kind, Line: 77, Col: 5, Text: "a", Quoted: true})
			if got := checkOf(t, l); !got.same(wrong(api.FIndent, 77)) {
				t.Errorf("Of of %s and a piece of Kind %d: %v", front, kind, got)
			}
		}
	}
}

func TestOfTexts(t *testing.T) { // P12.1: Text and Quoted as they came, whatever Text it is
	for _, said := range []string{"", "a", " ", "a b", "- a", "k: v", "'", "\n", "\x00\xff", "é", strings.Repeat("x", 200), strings.Repeat("x", 201), strings.Repeat("x", 1<<20)} {
		for _, quoted := range []bool{false, true} {
			p := api.Piece{Kind: api.PText, Line: 8, Col: 3, Text: said, Quoted: quoted}
			want := []api.Node{{Kind: api.NText, Line: 8, Text: said, Quoted: quoted}}
			if got := of(p); !got.same(told{doc: api.Doc{Nodes: want}}) {
				t.Errorf("Of of the text %.20q: %v", said, got)
			}
			want = append([]api.Node{{Kind: api.NList, Line: 6, Kids: []int{1}}}, want...)
			if got := of(api.Piece{Kind: api.PDash, Line: 6}, p); !got.same(told{doc: api.Doc{Nodes: want}}) {
				t.Errorf("Of of a dash and the text %.20q: %v", said, got)
			}
			want[0] = api.Node{Kind: api.NMap, Line: 6, Keys: []string{said}, Kids: []int{1}}
			if got := of(api.Piece{Kind: api.PKey, Line: 6, Text: said}, p); !got.same(told{doc: api.Doc{Nodes: want}}) {
				t.Errorf("Of of the key and the text %.20q: %v", said, got)
			}
		}
	}
	checkCases(t, []ofCase{{"0=", ""}, {"0'", "''"}, {"0- 1=", "[]"}, {"0- 1'", "['']"}, {"0: 1=", "{:}"}, {"0k: 1'", "{k:''}"}, {"0: 1=a 0k: 1=b", "{:a k:b}"}, {"0: 1=a 0: 1=b", "FTwice 30"}})
}

func TestOfLeavesWhatNodesDoNotHave(t *testing.T) { // P12.1, rule 2: Text and Quoted of a dash say nothing, Quoted of a key neither
	l := list("0- 2a: 4=x 2b: 4- 6=y")
	want := of(l...)
	for i := range l {
		switch l[i].Kind {
		case api.PDash:
			l[i].Text, l[i].Quoted = "odd", true
		case api.PKey:
			l[i].Quoted = true
		}
	}
	if got := checkOf(t, l); !got.same(want) {
		t.Errorf("%v, want %v", got, want)
	}
	if s := short(t, want); s != "[{a:x b:[y]}]" {
		t.Error(s)
	}
}

func TestOfLastPiece(t *testing.T) { // P12.1: a dash, a key that nothing is behind
	checkCases(t, []ofCase{
		{"3-", "FEmpty 10"}, {"3a:", "FEmpty 10"}, {"0- 1=a 0-", "FEmpty 30"}, {"0a: 1=b 0c:", "FEmpty 30"}, {"0- 2a: 4=b 0-", "FEmpty 40"}, {"0- 2a: 4=b 2c:", "FEmpty 40"}, {"0a: 2- 4=b 2-", "FEmpty 40"}, {"0a: 2- 4=b 0c:", "FEmpty 40"}, {"0- 2- 4-", "FEmpty 30"}, {"0a: 2b: 4c:", "FEmpty 30"}, {"0- 2a: 4- 6b:", "FEmpty 40"},
	})
}

func TestOfCols(t *testing.T) { // P12.1: behind a dash, a key a piece of a Col below its own, equal to it, one above, far above
	for _, owner := range []string{"-", "k:"} {
		for _, at := range []int{0, 1, 5, 1000, -7} {
			for _, kid := range []string{"=a", "'a", "-", "k:", "j:", "?0", "?7"} {
				for _, far := range []int{math.MinInt, -1 << 40, -100, -8, -7, -6, -2, -1, 0, 1, 2, 7, 100, 1 << 40, math.MaxInt - 1001} {
					l := list(fmt.Sprintf("%d%s 0%s 0=x", at, owner, kid))
					l[1].Col, l[2].Col = max(at, 0)+far, math.MaxInt
					got := short(t, checkOf(t, l))
					if empty := got == "FEmpty 10"; empty != (l[1].Col <= at) {
						t.Errorf("behind %s at %d %s at %d: %s", owner, at, kid, l[1].Col, got)
					}
				}
			}
		}
	}
	checkCases(t, []ofCase{
		{"2- 1=a", "FEmpty 10"}, {"2- 2=a", "FEmpty 10"}, {"2- 3=a", "[a]"}, {"2- 900=a", "[a]"}, {"2k: 1=a", "FEmpty 10"}, {"2k: 2=a", "FEmpty 10"}, {"2k: 3=a", "{k:a}"}, {"2k: 900=a", "{k:a}"},
		{"2- 2- 3=a", "FEmpty 10"}, {"2- 1- 3=a", "FEmpty 10"}, {"2- 3- 4=a", "[[a]]"}, {"2- 3- 3=a", "FEmpty 20"}, {"2- 4- 3=a", "FEmpty 20"}, {"2k: 2j: 3=a", "FEmpty 10"}, {"2k: 1j: 3=a", "FEmpty 10"}, {"2k: 2- 3=a", "FEmpty 10"}, {"2- 2k: 3=a", "FEmpty 10"}, {"2k: 3j: 3=a", "FEmpty 20"},
		{"-5- -4=a", "[a]"}, {"-5- -5=a", "FEmpty 10"}, {"-5- -6=a", "FEmpty 10"}, {"-5k: -4=a -5j: 9=b", "{k:a j:b}"}, {"-1- 0=a", "[a]"}, {"0- -1=a", "FEmpty 10"}, {"-9223372036854775808- 9223372036854775807=a -9223372036854775808- -9223372036854775807=b", "[a b]"}, {"9223372036854775807- -9223372036854775808=a", "FEmpty 10"}, {"9223372036854775807- 9223372036854775807=a", "FEmpty 10"},
		{"0- 5=a 0- 1=b 0- 99=c", "[a b c]"}, {"0k: 5=a 0j: 1=b 0i: 99=c", "{k:a j:b i:c}"},
	})
}

func TestOfWhatFollows(t *testing.T) { // P12.1: behind an item, behind a key's block, behind a text
	checkCases(t, []ofCase{
		{"2- 4=a 2- 4=b", "[a b]"}, {"2- 4=a 1- 4=b", "FIndent 30"}, {"2- 4=a 3- 4=b", "FIndent 30"}, {"2- 4=a 4- 6=b", "FIndent 30"}, {"2- 4=a 9- 10=b", "FIndent 30"}, {"2- 4- 6=a 2- 4=b", "[[a] b]"}, {"2- 4- 6=a 4- 6=b", "[[a b]]"}, {"2- 4- 6=a 3- 6=b", "FIndent 40"}, {"2- 4- 6=a 5- 6=b", "FIndent 40"}, {"2- 4- 6=a 1- 6=b", "FIndent 40"},
		{"2- 4=a 2k: 4=b", "FIndent 30"}, {"2- 4=a 4k: 6=b", "FIndent 30"}, {"2- 4=a 1k: 6=b", "FIndent 30"}, {"0k: 2- 4=a 2j: 4=b", "FIndent 40"}, {"0k: 2- 4=a 0j: 4=b", "{k:[a] j:b}"}, {"0k: 2- 4=a 1j: 4=b", "FIndent 40"}, {"2- 4k: 6=a 2k: 4=b", "FIndent 40"},
		{"2k: 4=a 2- 4=b", "FIndent 30"}, {"2k: 4=a 4- 6=b", "FIndent 30"}, {"2k: 4=a 1- 6=b", "FIndent 30"}, {"0- 2k: 4=a 2- 4=b", "FIndent 40"}, {"0- 2k: 4=a 0- 4=b", "[{k:a} b]"}, {"0- 2k: 4=a 1- 4=b", "FIndent 40"}, {"2k: 4- 6=a 2- 4=b", "FIndent 40"},
		{"2k: 4=a 2j: 4=b", "{k:a j:b}"}, {"2k: 4=a 1j: 4=b", "FIndent 30"}, {"2k: 4=a 3j: 4=b", "FIndent 30"}, {"2k: 4=a 4j: 6=b", "FIndent 30"}, {"2k: 4i: 6=a 4j: 6=b", "{k:{i:a j:b}}"}, {"2k: 4i: 6=a 3j: 6=b", "FIndent 40"}, {"2k: 4i: 6=a 2j: 6=b", "{k:{i:a} j:b}"},
		{"0=a 0=b", "FIndent 20"}, {"0=a 1=b", "FIndent 20"}, {"1=a 0=b", "FIndent 20"}, {"0- 2=a 2=b", "FIndent 30"}, {"0- 2=a 4=b", "FIndent 30"}, {"0- 2=a 0=b", "FIndent 30"}, {"0k: 2=a 2=b", "FIndent 30"}, {"0k: 2=a 4=b", "FIndent 30"}, {"0k: 2=a 0=b", "FIndent 30"}, {"0k: 2- 4=a 4=b", "FIndent 40"}, {"0- 2k: 4=a 4'b", "FIndent 40"},
		{"0- 2=a 0?0", "FIndent 30"}, {"0k: 2=a 0?4", "FIndent 30"}, {"0- 2- 4=a 2?1000", "FIndent 40"},
	})
}

func TestOfListsAndMaps(t *testing.T) { // P12.1: each in each, side by side
	checkCases(t, []ofCase{
		{"0- 2- 4=a", "[[a]]"}, {"0- 2- 4=a 2- 4=b 0- 2- 4=c", "[[a b] [c]]"}, {"0- 2- 4- 6=a 4- 6=b 2- 4=c 0- 2=d", "[[[a b] c] d]"}, {"0- 2=a 0- 2- 4=b 0- 2=c", "[a [b] c]"}, {"0- 9- 10=a 0- 1- 2=b", "[[a] [b]]"},
		{"0a: 2b: 4=c", "{a:{b:c}}"}, {"0a: 2b: 4=c 2d: 4=e 0f: 2g: 4=h", "{a:{b:c d:e} f:{g:h}}"}, {"0a: 2b: 4c: 6=d 4e: 6=f 2g: 4=h 0i: 2=j", "{a:{b:{c:d e:f} g:h} i:j}"}, {"0a: 9b: 10=c 0d: 1e: 2=f", "{a:{b:c} d:{e:f}}"},
		{"0- 2a: 4=b", "[{a:b}]"}, {"0- 2a: 4=b 2c: 4=d 0- 2a: 4=e", "[{a:b c:d} {a:e}]"}, {"0a: 2- 4=b", "{a:[b]}"}, {"0a: 2- 4=b 2- 4=c 0d: 2- 4=e", "{a:[b c] d:[e]}"},
		{"0a: 2- 4b: 6=c 4d: 6- 8=e 2- 4- 6=f 4- 6=g 0h: 2=i", "{a:[{b:c d:[e]} [f g]] h:i}"}, {"0- 2a: 4- 6b: 8- 10=c", "[{a:[{b:[c]}]}]"}, {"0a: 2- 4b: 6- 8c: 10=d", "{a:[{b:[{c:d}]}]}"}, {"0- 2a: 4- 6=b 2c: 4- 6=d 0- 2=e 0- 2a: 4f: 6=g", "[{a:[b] c:[d]} e {a:{f:g}}]"},
		{"0- 2=a 0- 2'b 0- 2- 4=c 0- 2d: 4=e", "[a 'b' [c] {d:e}]"}, {"0a: 2=a 0b: 2'b 0c: 2- 4=c 0d: 2d: 4=e", "{a:a b:'b' c:[c] d:{d:e}}"},
	})
}

func TestOfTwice(t *testing.T) { // P12.1: a map has a key already
	checkCases(t, []ofCase{
		{"0a: 2=b 0a: 2=b", "FTwice 30"}, {"0a: 2=b 0a: 2=c", "FTwice 30"}, {"0a: 2=b 0c: 2=d 0a: 2=e", "FTwice 50"}, {"0a: 2=b 0a: 2=c 0a: 2=d", "FTwice 30"}, {"0a: 2=b 0c: 2=d 0e: 2=f 0g: 2=h 0a: 2=i", "FTwice 90"}, {"0a: 2=b 0c: 2=d 0c: 2=e 0a: 2=f", "FTwice 50"}, {"0a: 2=b 0c: 2=d 0a: 2=e 0c: 2=f", "FTwice 50"},
		{"0a: 2=b 0a:", "FTwice 30"}, {"0a: 2=b 0a: 0c:", "FTwice 30"}, {"0a: 2=b 0a: 2?0", "FTwice 30"}, {"0a: 0a: 2=b", "FEmpty 10"}, {"0a: 0a:", "FEmpty 10"}, {"0a: 2=b 0c: 0a:", "FEmpty 30"},
		{"0a: 2a: 4=b", "{a:{a:b}}"}, {"0a: 2a: 4a: 6=b 4b: 6=c", "{a:{a:{a:b b:c}}}"}, {"0a: 2a: 4=b 2a: 4=c", "FTwice 40"}, {"0a: 2a: 4=b 0a: 2=c", "FTwice 40"}, {"0a: 2c: 4=b 0c: 2a: 4=d", "{a:{c:b} c:{a:d}}"}, {"0- 2a: 4=b 0- 2a: 4=c", "[{a:b} {a:c}]"}, {"0- 2a: 4=b 0- 2a: 4=c 2a: 4=d", "FTwice 70"}, {"0a: 2- 4a: 6=b 2- 4a: 6=c 0d: 2a: 4=e", "{a:[{a:b} {a:c}] d:{a:e}}"}, {"0b: 2- 4a: 6=x 0a: 2=y 0b: 2=z", "FTwice 70"}, {"0a: 2b: 4=c 0d: 2b: 4=e 2b: 4=f", "FTwice 70"},
		{"0a: 2=b 0A: 2=b 0aa: 2=b 0: 2=b", "{a:b A:b aa:b :b}"}, {"0a: 2=b 4a: 6=c", "FIndent 30"}, {"2a: 4=b 0a: 6=c", "FIndent 30"}, {"0a: 2'a 0a: 2'a", "FTwice 30"},
	})
}

func TestOfTwoFaults(t *testing.T) { // P12.1: of two wrong things the one that is read first
	checkCases(t, []ofCase{
		{"0- 2- 0-", "FEmpty 20"}, {"0- 0- 2?0", "FEmpty 10"}, {"0- 2=a 2=b 0-", "FIndent 30"}, {"0- 2=a 0- 2=b 1?7 0-", "FIndent 50"}, {"0a: 2=b 0a: 2=c 1=d", "FTwice 30"}, {"0a: 2=b 1=d 0a: 2=c", "FIndent 30"}, {"0a: 2?0 0a:", "FIndent 20"}, {"0?0 0?0", "FIndent 10"}, {"0- 0?0", "FEmpty 10"}, {"0k: -1?0", "FEmpty 10"}, {"0k: 1?0 1?0", "FIndent 20"}, {"0=a 0?0 0-", "FIndent 20"}, {"0=a 0-", "FIndent 20"}, {"0=a 0a: 0a:", "FIndent 20"},
		{"0a: 2b: 4=c 2b: 2d:", "FTwice 40"}, {"0a: 2b: 2b: 4=c", "FEmpty 20"}, {"0a: 2- 4=b 4=c 0a:", "FIndent 40"}, {"0a: 2- 4=b 0a: 0a:", "FTwice 40"},
	})
}

func TestOfLeft(t *testing.T) { // P12.1: a piece that is left behind the root, of each Kind, at each Col
	roots := map[string][2]string{"5=a": {}, "5'a": {}, "5- 7=a": {"5-"}, "5- 7- 9=a": {"5-", "7-"}, "5k: 7=a": {"5k:", "5j:"}, "5- 7k: 9=a": {"5-", "7j:"}, "5k: 7- 9=a": {"5j:", "7-"}, "5- 7=a 5- 7=b": {"5-"}}
	for root, goesOn := range roots {
		want := short(t, of(list(root)...))
		n := len(list(root))
		for _, body := range []string{"-", "k:", "j:", "=x", "'x", "?0", "?4", "?-1"} {
			for col := range 12 {
				sign := fmt.Sprint(col) + body
				if slices.Contains(goesOn[:], sign) || root == "5- 7k: 9=a" && sign == "7k:" || root == "5k: 7=a" && sign == "5k:" || root == "5k: 7- 9=a" && sign == "5k:" {
					continue
				}
				for _, behind := range []string{"", " 20=y", " 0=y", " 5- 7=z", " 0?0"} {
					checkCases(t, []ofCase{{root + " " + sign + behind, fmt.Sprintf("FIndent %d", 10*(n+1))}})
				}
			}
		}
		if strings.HasPrefix(want, "F") {
			t.Errorf("the root %s is %s", root, want)
		}
	}
}

// chain is a row of blocks, each in the one ahead of it, of dashes (-) and keys (k), as signs says, from column col on.
func chain(signs string, col int) []api.Piece {
	var l []api.Piece
	for i, sign := range signs {
		p := api.Piece{Kind: api.PDash, Line: 100 + i, Col: col + i}
		if sign == 'k' {
			p.Kind, p.Text = api.PKey, "k"
		}
		l = append(l, p)
	}
	return l
}

func TestOfDepth(t *testing.T) { // P12.1: MaxDepth levels and one more, by dashes, by keys and by both
	text := api.Piece{Kind: api.PText, Line: 900, Col: 900, Text: "x"}
	for name, signs := range map[string]string{"dashes": strings.Repeat("-", 40), "keys": strings.Repeat("k", 40), "both": strings.Repeat("-k", 20), "both, a key first": strings.Repeat("k-", 20), "some": strings.Repeat("--k", 14), "the last one a key": strings.Repeat("-", 23) + "k" + strings.Repeat("-", 16)} {
		for n := range 40 {
			got := checkOf(t, append(chain(signs[:n], 0), text))
			switch {
			case n < 24:
				if len(got.doc.Nodes) != n+1 || got.fault.Kind != 0 {
					t.Errorf("%s: %d and a text: %v", name, n, got)
				}
			case n == 24:
				if !got.same(wrong(api.FDeep, 900)) {
					t.Errorf("%s: %d and a text: %v", name, n, got)
				}
			default:
				if !got.same(wrong(api.FDeep, 124)) {
					t.Errorf("%s: %d and a text: %v", name, n, got)
				}
			}
			bare := checkOf(t, chain(signs[:n], 0))
			want := wrong(api.FEmpty, 100+n-1)
			if n == 0 {
				want = wrong(api.FEmpty, 1)
			}
			if n > 24 {
				want = wrong(api.FDeep, 124)
			}
			if !bare.same(want) {
				t.Errorf("%s: %d and nothing: %v", name, n, bare)
			}
		}
		full := chain(signs[:24], 0)
		for _, last := range []api.Piece{{Kind: 1, Line: 7, Col: 24}, {Kind: 2, Line: 7, Col: 24, Text: "k"}, {Kind: 3, Line: 7, Col: 24}} {
			if got := checkOf(t, append(slices.Clone(full), last)); !got.same(wrong(api.FDeep, 7)) {
				t.Errorf("%s: of Kind %d: %v", name, last.Kind, got)
			}
			last.Col = 23 // nothing stands behind the last dash or key
			if got := checkOf(t, append(slices.Clone(full), last)); !got.same(wrong(api.FEmpty, 123)) {
				t.Errorf("%s: of Kind %d, not above: %v", name, last.Kind, got)
			}
		}
		for _, kind := range []int{0, 4, -1} { // FIndent ahead of FDeep
			if got := checkOf(t, append(slices.Clone(full), api.Piece{Kind: kind, Line: 7, Col: 24})); !got.same(wrong(api.FIndent, 7)) {
				t.Errorf("%s: of Kind %d: %v", name, kind, got)
			}
		}
		// Behind a block that is MaxDepth deep others may stand that are as deep, and no deeper.
		wide := append(chain(signs[:23], 0), text)
		for i := range 5 {
			again := chain(signs[:23], 0)[22:]
			again[0].Text = fmt.Sprint(i)
			wide = append(append(wide, again...), text)
		}
		if got := checkOf(t, wide); len(got.doc.Nodes) != 29 {
			t.Errorf("%s: side by side: %v", name, got)
		}
		if got := checkOf(t, append(wide[:len(wide)-1:len(wide)-1], chain("-", 23)[0], text)); !got.same(wrong(api.FDeep, 900)) {
			t.Errorf("%s: the last one too deep: %v", name, got)
		}
	}
}

// rows is n items, or keys, of one text each, in column col.
func rows(kind, n, col int) []api.Piece {
	var l []api.Piece
	for i := range n {
		l = append(l, api.Piece{Kind: kind, Line: 1000 + 2*i, Col: col}, api.Piece{Kind: api.PText, Line: 1001 + 2*i, Col: col + 2, Text: "x"})
		if kind == api.PKey {
			l[2*i].Text = fmt.Sprint("key", i)
		}
	}
	return l
}

func TestOfMany(t *testing.T) { // P12.1: MaxNodes nodes and one more, in one list, in one map, in many
	for _, kind := range []int{api.PDash, api.PKey} {
		for _, n := range []int{1, 2, 1998, 1999} {
			got := checkOf(t, rows(kind, n, 0))
			if len(got.doc.Nodes) != n+1 || len(got.doc.Nodes[0].Kids) != n || got.doc.Nodes[0].Kids[n-1] != n || got.doc.Nodes[n].Text != "x" {
				t.Errorf("of Kind %d, %d: %d nodes, %v", kind, n, len(got.doc.Nodes), got.fault)
			}
		}
		for _, n := range []int{2000, 2001, 5000} {
			if got := checkOf(t, rows(kind, n, 0)); !got.same(wrong(api.FMany, 1001+2*1999)) {
				t.Errorf("of Kind %d, %d: %v", kind, n, got)
			}
		}
	}
	// Many small ones: a list of lists, of maps, a map of both, each of which has two nodes more than texts.
	var l []api.Piece
	nodes := 1
	for i := 0; nodes+3 <= 2000; i++ {
		l = append(l, api.Piece{Kind: api.PKey, Line: i, Text: fmt.Sprint(i)})
		l = append(l, rows(1+i%2, 2, 4)...)
		nodes += 3
	}
	for i := range 2000 - nodes {
		l = append(l, api.Piece{Kind: api.PKey, Line: 3, Text: fmt.Sprint("t", i)}, api.Piece{Kind: api.PText, Line: 4, Col: 1})
	}
	if got := checkOf(t, l); len(got.doc.Nodes) != 2000 || got.fault.Kind != 0 {
		t.Errorf("%d nodes, %v", len(got.doc.Nodes), got.fault)
	}
	for _, more := range []api.Piece{{Kind: 1, Line: 66, Col: 2}, {Kind: 2, Line: 66, Col: 2}, {Kind: 3, Line: 66, Col: 2}} {
		full := append(slices.Clone(l), api.Piece{Kind: api.PKey, Line: 65, Text: "more"}, more)
		if got := checkOf(t, full); !got.same(wrong(api.FMany, 66)) {
			t.Errorf("one more, of Kind %d: %v", more.Kind, got)
		}
	}
}

func TestOfManyAndAnother(t *testing.T) { // P12.1: MaxNodes nodes are there, and the next piece is wrong in another way, too
	front := func(levels int) []api.Piece { // so many levels are open, and 2,000 nodes are there; a dash waits
		l := rows(api.PDash, 2000-levels, 0)
		return append(l, chain(strings.Repeat("-", levels), 0)...)
	}
	cases := []struct {
		levels int
		last   api.Piece
		want   told
	}{
		{1, api.Piece{Kind: 3, Line: 5, Col: 99}, wrong(api.FMany, 5)},
		{1, api.Piece{Kind: 1, Line: 5, Col: 99}, wrong(api.FMany, 5)},
		{1, api.Piece{Kind: 2, Line: 5, Col: 99}, wrong(api.FMany, 5)},
		{1, api.Piece{Kind: 0, Line: 5, Col: 99}, wrong(api.FIndent, 5)},
		{1, api.Piece{Kind: 3, Line: 5, Col: 0}, wrong(api.FEmpty, 100)},
		{1, api.Piece{Kind: 7, Line: 5, Col: 0}, wrong(api.FEmpty, 100)},
		{23, api.Piece{Kind: 3, Line: 5, Col: 99}, wrong(api.FMany, 5)},
		{23, api.Piece{Kind: 9, Line: 5, Col: 99}, wrong(api.FIndent, 5)},
		{24, api.Piece{Kind: 3, Line: 5, Col: 99}, wrong(api.FDeep, 5)}, // too deep, and one too many
		{24, api.Piece{Kind: 1, Line: 5, Col: 99}, wrong(api.FDeep, 5)},
		{24, api.Piece{Kind: 2, Line: 5, Col: 99}, wrong(api.FDeep, 5)},
		{24, api.Piece{Kind: 0, Line: 5, Col: 99}, wrong(api.FIndent, 5)}, // of a wrong Kind, too
		{24, api.Piece{Kind: -4, Line: 5, Col: 99}, wrong(api.FIndent, 5)},
		{24, api.Piece{Kind: 0, Line: 5, Col: 23}, wrong(api.FEmpty, 123)}, // and not above
		{24, api.Piece{Kind: 3, Line: 5, Col: 22}, wrong(api.FEmpty, 123)},
	}
	for _, c := range cases {
		l := append(front(c.levels), c.last)
		if got := checkOf(t, l); !got.same(c.want) {
			t.Errorf("%d levels and %v: %v, want %v", c.levels, c.last, got, c.want)
		}
		nodes := 0
		for i, p := range l[:len(l)-1] { // all dashes but the root's later ones begin a node, and each text is one
			if p.Kind == api.PText || p.Col > 0 || i == 0 {
				nodes++
			}
		}
		if nodes != 2000 {
			t.Errorf("%d levels: %d nodes are there", c.levels, nodes)
		}
	}
	twice := append(rows(api.PKey, 1999, 0), api.Piece{Kind: api.PKey, Line: 8, Text: "key7"}, api.Piece{Kind: api.PText, Line: 9, Col: 1})
	if got := checkOf(t, twice); !got.same(wrong(api.FTwice, 8)) {
		t.Errorf("a key twice, and one too many: %v", got)
	}
	left := append(rows(api.PKey, 1999, 5), api.Piece{Kind: api.PText, Line: 8, Col: 3})
	if got := checkOf(t, left); !got.same(wrong(api.FIndent, 8)) {
		t.Errorf("a piece left behind 2,000 nodes: %v", got)
	}
	// Ahead of what is one too many stands what is wrong there, and behind it nothing is read.
	early := append(rows(api.PDash, 2500, 0), api.Piece{Kind: 7})
	early[30].Col = 1
	if got := checkOf(t, early); !got.same(wrong(api.FIndent, early[30].Line)) {
		t.Errorf("a fault ahead of too many: %v", got)
	}
}

func TestOfLines(t *testing.T) { // P12.1: the Line of each fault and of each node is its piece's, whatever number that is
	cases := []string{"0=a", "0- 2=a", "0k: 2=a", "0a: 2- 4b: 6=c 4d: 6- 8=e 2- 4- 6=f 0h: 2=i", "0-", "0k: 0=a", "0a: 2=b 0a: 2=c", "0- 2=a 2=b", "0?0", "0- 2?0", "0- 2- 2-", "0a: 2b: 4=c 2b:"}
	numbers := map[string]func(i int) int{"rise by one": func(i int) int { return i + 1 }, "fall": func(i int) int { return 1000 - 7*i }, "alike": func(int) int { return 5 }, "noughts": func(int) int { return 0 }, "below 0": func(i int) int { return -i - 1 }, "squares": func(i int) int { return i * i }, "great": func(i int) int { return math.MaxInt - i }, "least": func(i int) int { return math.MinInt + i }}
	for _, c := range cases {
		base := of(list(c)...)
		for name, number := range numbers {
			l := list(c)
			for i := range l {
				l[i].Line = number(i)
			}
			want := told{doc: api.Doc{Nodes: slices.Clone(base.doc.Nodes)}, fault: base.fault}
			for i := range want.doc.Nodes {
				want.doc.Nodes[i].Line = number(want.doc.Nodes[i].Line/10 - 1)
			}
			if base.fault.Kind != 0 {
				want.fault.Line = number(base.fault.Line/10 - 1)
			}
			if got := checkOf(t, l); !got.same(want) {
				t.Errorf("Of(%s), lines %s: %v, want %v", c, name, got, want)
			}
		}
	}
}

// eachList calls f with each list of up to most of the pieces, once; their lines fall and rise. f must not keep it.
func eachList(pieces []api.Piece, most int, f func(l []api.Piece)) {
	var l []api.Piece
	var walk func()
	walk = func() {
		f(l)
		if len(l) == most {
			return
		}
		for _, p := range pieces {
			p.Line = (len(l)*5 + 3) % 11
			l = append(l, p)
			walk()
			l = l[:len(l)-1]
		}
	}
	walk()
}

func TestOfShortLists(t *testing.T) { // P12.1: all lists of up to so many of the pieces that matter
	kinds := map[int]int{}
	look := func(l []api.Piece) { kinds[checkOf(t, l).fault.Kind]++ }
	eachList(list("0- 1- 2- 0a: 1a: 2a: 1=x 2'x 3=x"), 6, look)
	eachList(list("0- 1- 0a: 1a: 0b: 1b: 0=x 2=x 0?0 1?0 2?4"), 5, look)
	eachList(list("0a: 1a: 2a: 0b: 1b: 3=x"), 7, look)
	eachList(list("0- 1- 2- 3- 4=x"), 8, look)
	for kind, least := range map[int]int{0: 500, api.FIndent: 10000, api.FTwice: 1000, api.FEmpty: 10000} {
		if kinds[kind] < least {
			t.Errorf("%d lists with fault %d", kinds[kind], kind)
		}
	}
}

func TestOfWildLists(t *testing.T) { // P12.1
	source := rand.New(rand.NewSource(12))
	kinds := map[int]int{}
	for range 60000 {
		var l []api.Piece
		col := 0
		for range source.Intn(30) {
			p := api.Piece{Kind: 1 + source.Intn(3), Line: source.Intn(50), Col: col, Text: "abcdefghij"[source.Intn(10):][:1], Quoted: source.Intn(2) == 0}
			switch source.Intn(40) {
			case 0:
				p.Kind = source.Intn(9) - 3
			case 1:
				p.Col = source.Intn(9) - 2
			}
			l = append(l, p)
			if p.Kind == api.PText && len(l) > 1 { // most often a column that is there already
				col = l[source.Intn(len(l))].Col
			} else {
				col += 1 + source.Intn(2)
			}
		}
		kinds[checkOf(t, l).fault.Kind]++
	}
	if kinds[0] < 1000 || kinds[api.FIndent] < 1000 || kinds[api.FTwice] < 100 || kinds[api.FEmpty] < 1000 {
		t.Errorf("of each kind: %v", kinds)
	}
}

func TestOfLongLists(t *testing.T) { // rule 1: each call ends, and none panics
	const n = 1 << 17
	same := func(p api.Piece) []api.Piece { return slices.Repeat([]api.Piece{p}, n) }
	rising := func(kind int) []api.Piece {
		l := same(api.Piece{Kind: kind})
		for i := range l {
			l[i].Col, l[i].Line = i, i+1
		}
		return l
	}
	cases := []struct {
		name string
		l    []api.Piece
		want told
	}{
		{"dashes in dashes", rising(api.PDash), wrong(api.FDeep, 25)},
		{"keys in keys", rising(api.PKey), wrong(api.FDeep, 25)},
		{"texts", rising(api.PText), wrong(api.FIndent, 2)},
		{"dashes", same(api.Piece{Kind: api.PDash, Line: 4}), wrong(api.FEmpty, 4)},
		{"of no Kind", same(api.Piece{Line: 4}), wrong(api.FIndent, 4)},
		{"items", rows(api.PDash, n, 0), wrong(api.FMany, 1001+2*1999)},
		{"keys", rows(api.PKey, n, 0), wrong(api.FMany, 1001+2*1999)},
	}
	for _, c := range cases {
		if got := of(c.l...); !got.same(c.want) {
			t.Errorf("%s: %v, want %v", c.name, got, c.want)
		}
	}
	// Great keys that are alike up to their last byte.
	var l []api.Piece
	front := strings.Repeat("k", 1<<16)
	for i := range 1500 {
		l = append(l, api.Piece{Kind: api.PKey, Line: i, Text: front + fmt.Sprint(i)}, api.Piece{Kind: api.PText, Line: i, Col: 1})
	}
	if got := of(l...); len(got.doc.Nodes) != 1501 || got.fault.Kind != 0 {
		t.Errorf("great keys: %v", got.fault)
	}
	l[2998].Text = l[0].Text
	if got := of(l...); !got.same(wrong(api.FTwice, 1499)) {
		t.Errorf("a great key twice: %v", got.fault)
	}
}

// tree is a document as a test makes it up.
type tree struct {
	kind   int
	text   string
	quoted bool
	keys   []string
	kids   []tree
}

// grow makes up a tree of at most that depth.
func grow(source *rand.Rand, depth int) tree {
	kind := 1 + source.Intn(3)
	if depth == 1 || source.Intn(5) == 0 {
		kind = api.NText
	}
	x := tree{kind: kind}
	if kind == api.NText {
		x.quoted = source.Intn(2) == 0
		x.text = []string{"b", "10", "a b", "-x", "a:b", "it's", "x#y", "0.8", "-1", "c - d", "\\", "~", "="}[source.Intn(13)]
		if x.quoted {
			x.text = []string{"", " ", "b", "it's # x", "a: b", "- c", "\"", "\\", "'", "k:", "-", "a\"b\\c # d", "é"}[source.Intn(13)]
		}
		return x
	}
	keys := source.Perm(8)
	for i := range 1 + source.Intn(4) {
		if kind == api.NMap {
			x.keys = append(x.keys, []string{"a", "b", "A", "key", "rate_limit", "-x", "0", "a.b"}[keys[i]])
		}
		x.kids = append(x.kids, grow(source, depth-1))
	}
	return x
}

// maker lays a tree out, as pieces or as rows of a text, and tells the nodes that must come of it.
type maker struct {
	source *rand.Rand
	nodes  []api.Node
	pieces []api.Piece
	rows   []string
}

// node gives a block its number.
func (m *maker) node(n api.Node) int {
	m.nodes = append(m.nodes, n)
	return len(m.nodes) - 1
}

func (m *maker) put(kind, col int, text string, quoted bool) int {
	no := m.source.Intn(1000) - 100
	m.pieces = append(m.pieces, api.Piece{Kind: kind, Line: no, Col: col, Text: text, Quoted: quoted})
	return no
}

// asPieces lays x out behind col, and tells its number.
func (m *maker) asPieces(x tree, col int) int {
	col += 1 + m.source.Intn(4)
	if x.kind == api.NText {
		return m.node(api.Node{Kind: x.kind, Line: m.put(api.PText, col, x.text, x.quoted), Text: x.text, Quoted: x.quoted})
	}
	number := m.node(api.Node{Kind: x.kind, Keys: x.keys})
	var kids []int
	for i, kid := range x.kids {
		kind, text := api.PDash, ""
		if x.kind == api.NMap {
			kind, text = api.PKey, x.keys[i]
		}
		no := m.put(kind, col, text, false)
		if i == 0 {
			m.nodes[number].Line = no
		}
		kids = append(kids, m.asPieces(kid, col))
	}
	m.nodes[number].Kids = kids
	return number
}

func TestOfMadeDocuments(t *testing.T) { // P12.1: what was laid out is read as it was
	source := rand.New(rand.NewSource(121))
	sizes := 0
	for range 20000 {
		m := maker{source: source}
		m.asPieces(grow(source, 1+source.Intn(7)), source.Intn(20)-10)
		if len(m.nodes) > 2000 {
			continue
		}
		sizes += len(m.nodes)
		if got := checkOf(t, m.pieces); !got.same(told{doc: api.Doc{Nodes: m.nodes}}) {
			t.Fatalf("Of(%.600q) = %v, want %v", fmt.Sprint(m.pieces), got, m.nodes)
		}
	}
	if sizes < 100000 {
		t.Errorf("%d nodes in all", sizes)
	}
}

// flat is the pieces that a document is made of, without Lines and Cols.
func flat(d api.Doc) []api.Piece {
	var out []api.Piece
	var walk func(n int)
	walk = func(n int) {
		x := d.Nodes[n]
		if x.Kind == api.NText {
			out = append(out, api.Piece{Kind: api.PText, Text: x.Text, Quoted: x.Quoted})
		}
		for i, kid := range x.Kids {
			p := api.Piece{Kind: api.PDash}
			if x.Kind == api.NMap {
				p = api.Piece{Kind: api.PKey, Text: x.Keys[i]}
			}
			out = append(out, p)
			walk(kid)
		}
	}
	walk(0)
	return out
}

// depths is how deep each node of a document is.
func depths(d api.Doc) []int {
	out := make([]int, len(d.Nodes))
	out[0] = 1
	for i, x := range d.Nodes {
		for _, kid := range x.Kids {
			out[kid] = out[i] + 1
		}
	}
	return out
}

func TestEachKeyOnce(t *testing.T) { // P12.3, and what a document may be
	source := rand.New(rand.NewSource(123))
	seen := 0
	look := func(l []api.Piece) {
		d, fault := doc.Of(l)
		if fault.Kind != 0 {
			return
		}
		for i, x := range d.Nodes {
			keys := slices.Clone(x.Keys)
			slices.Sort(keys)
			if len(slices.Compact(keys)) != len(x.Keys) {
				t.Fatalf("Of(%v): node %d has a key twice: %v", l, i, x)
			}
			if x.Kind == api.NMap && len(x.Keys) != len(x.Kids) || x.Kind != api.NMap && len(x.Keys) != 0 || (x.Kind == api.NText) != (len(x.Kids) == 0) {
				t.Fatalf("Of(%v): node %d is %v", l, i, x)
			}
			for _, kid := range x.Kids {
				if kid <= i || kid >= len(d.Nodes) {
					t.Fatalf("Of(%v): node %d is %v", l, i, x)
				}
			}
			seen += len(x.Keys)
		}
		if most := slices.Max(depths(d)); most > 24 {
			t.Fatalf("Of(%v) is %d deep", l, most)
		}
	}
	eachList(list("0a: 1a: 2a: 0b: 1b: 1=x 3=x"), 6, look)
	for range 20000 {
		var l []api.Piece
		for i := range 2 + source.Intn(10) {
			l = append(l, api.Piece{Kind: api.PKey, Text: "abcdefgh"[source.Intn(8):][:1], Col: i % 2 * source.Intn(2)})
			if source.Intn(6) > 0 {
				l = append(l, api.Piece{Kind: api.PText, Col: 5})
			}
		}
		look(l)
	}
	if seen < 3000 {
		t.Errorf("%d keys", seen)
	}
}

// checkReading says whether l has one reading: again, in columns that have no more than their order, and, if it is a document, of
// what that is made of, and laid out anew.
func checkReading(t *testing.T, l []api.Piece) bool {
	t.Helper()
	got := of(l...)
	if again := of(l...); !again.same(got) {
		t.Fatalf("Of(%v) = %v, then %v", l, got, again)
	}
	wide := stretch(l)
	if other := of(wide...); !other.same(got) {
		t.Fatalf("Of(%v) = %v, and of %v %v", l, got, wide, other)
	}
	if got.fault.Kind != 0 {
		return false
	}
	bare := slices.Clone(l)
	for i := range bare {
		bare[i].Line, bare[i].Col = 0, 0
	}
	if told := flat(got.doc); !slices.Equal(told, bare) {
		t.Fatalf("Of(%v) = %v, which is made of %v", l, got, told)
	}
	anew := layOut(got.doc)
	if other := of(anew...); !other.same(got) {
		t.Fatalf("%v, laid out anew as %v, is %v", got, anew, other)
	}
	return true
}

// stretch is l in other columns, as far from each other as can be, in the same order.
func stretch(l []api.Piece) []api.Piece {
	var cols []int
	for _, p := range l {
		cols = append(cols, p.Col)
	}
	slices.Sort(cols)
	cols = slices.Compact(cols)
	wide := slices.Clone(l)
	for i := range wide {
		place, _ := slices.BinarySearch(cols, wide[i].Col)
		wide[i].Col = math.MinInt + place
		if 2*place >= len(cols) {
			wide[i].Col = math.MaxInt - (len(cols) - 1 - place)
		}
	}
	return wide
}

func TestOneReading(t *testing.T) { // P12.3: each piece is in the document, once, in order; and Cols say no more than their order does
	read := 0
	look := func(l []api.Piece) {
		if checkReading(t, l) {
			read++
		}
	}
	eachList(list("0- 1- 2- 0a: 1a: 2b: 1=x 2'y 3=x"), 6, look)
	source := rand.New(rand.NewSource(125))
	for range 5000 {
		m := maker{source: source}
		m.asPieces(grow(source, 1+source.Intn(7)), source.Intn(20)-10)
		look(m.pieces)
		at := source.Intn(len(m.pieces)) // and with one piece gone
		look(slices.Delete(m.pieces, at, at+1))
	}
	if read < 4000 {
		t.Errorf("%d documents", read)
	}
}

// layOut is pieces of a document: each block in a column of its depth, each node's first piece in its Line.
func layOut(d api.Doc) []api.Piece {
	var out []api.Piece
	var walk func(n, depth int)
	walk = func(n, depth int) {
		x := d.Nodes[n]
		if x.Kind == api.NText {
			out = append(out, api.Piece{Kind: api.PText, Line: x.Line, Col: depth, Text: x.Text, Quoted: x.Quoted})
		}
		for i, kid := range x.Kids {
			p := api.Piece{Kind: api.PDash, Line: x.Line, Col: depth}
			if x.Kind == api.NMap {
				p.Kind, p.Text = api.PKey, x.Keys[i]
			}
			out = append(out, p)
			walk(kid, depth+1)
		}
	}
	walk(0, 0)
	return out
}

// parseCase is a text, and what must be told of it, as short tells it.
type parseCase struct{ s, want string }

func checkTexts(t *testing.T, cases []parseCase) {
	t.Helper()
	for _, c := range cases {
		if got := short(t, parse(c.s)); got != c.want {
			t.Errorf("Parse(%.300q) = %.300s, want %.300s", c.s, got, c.want)
		}
		checkParse(t, c.s)
	}
}

func TestParseNothing(t *testing.T) { // P12.2: no bytes, or none that say something
	for _, text := range [][]byte{nil, {}} {
		if d, f := doc.Parse(text); len(d.Nodes) != 0 || f != (api.Fault{Kind: api.FEmpty, Line: 1}) {
			t.Errorf("Parse of no bytes: %v, %v", d, f)
		}
	}
	for _, s := range []string{"\n", "\n\n\n", " ", "   \n  ", "#", "# a", "\n\n  # a\n# b", strings.Repeat("\n", 16384), strings.Repeat(" ", 16384)} {
		checkTexts(t, []parseCase{{s, "FEmpty 1"}})
	}
}

func TestParse(t *testing.T) { // P12.2: lines, pieces, documents
	checkTexts(t, []parseCase{
		{"a", "a"}, {"'a'", "'a'"}, {`"a\x41"`, "'aA'"}, {"a b", "a b"}, {"''", "''"}, {"   a", "a"}, {"\n\na  # b", "a"}, {"a:b", "a:b"}, {"-a", "-a"},
		{"a: b", "{a:b}"}, {"a: 'b'", "{a:'b'}"}, {"a:\n  b", "{a:b}"}, {"a:\n b: c", "{a:{b:c}}"}, {"a: b\nc: d", "{a:b c:d}"}, {"  a: b\n  c: d", "{a:b c:d}"}, {"a:  # x\n\n  # y\n    b  # z", "{a:b}"}, {"a: b\n\n\nc: d\n", "{a:b c:d}"},
		{"- a", "[a]"}, {"- a\n- b", "[a b]"}, {"-\n  a", "[a]"}, {"-\n a\n-\n    b", "[a b]"}, {"- - a\n  - b\n- c", "[[a b] c]"}, {"- - - a", "[[[a]]]"}, {"-   -   a\n    -   b", "[[a b]]"},
		{"- a: b\n  c: d\n- e: f", "[{a:b c:d} {e:f}]"}, {"a:\n  - b\n  - c\nd:\n  - e", "{a:[b c] d:[e]}"}, {"a:\n - b: c\n   d: e\n - f", "{a:[{b:c d:e} f]}"}, {"- a:\n    - b\n  c: d", "[{a:[b] c:d}]"}, {"- a:\n   b", "[{a:b}]"}, {"- a:\n   - b", "[{a:[b]}]"},
		{"domains:\n  - domain: shop\n    descriptors:\n      - key: user\n        rate_limit:\n          unit: minute\n          requests_per_unit: 10\n", "{domains:[{domain:shop descriptors:[{key:user rate_limit:{unit:minute requests_per_unit:10}}]}]}"},
	})
	got := parse("# head\na:\n\n  - b: c\n    # x\n    d: \"e\"\n  - 'f'")
	want := told{doc: api.Doc{Nodes: []api.Node{
		{Kind: api.NMap, Line: 2, Keys: []string{"a"}, Kids: []int{1}},
		{Kind: api.NList, Line: 4, Kids: []int{2, 5}},
		{Kind: api.NMap, Line: 4, Keys: []string{"b", "d"}, Kids: []int{3, 4}},
		{Kind: api.NText, Line: 4, Text: "c"},
		{Kind: api.NText, Line: 6, Text: "e", Quoted: true},
		{Kind: api.NText, Line: 7, Text: "f", Quoted: true},
	}}}
	if !got.same(want) {
		t.Errorf("%v, want %v", got, want)
	}
}

func TestParseFaults(t *testing.T) { // P12.2: each fault of chapters 10, 11 and 12, and its line
	longKey, longWord := strings.Repeat("k", 65), strings.Repeat("v", 201)
	checkTexts(t, []parseCase{
		{strings.Repeat("a", 16385), "FBig 1"}, {strings.Repeat("\n", 16385), "FBig 1"}, {"a: b" + strings.Repeat("\n", 16381), "FBig 1"}, {"a: b" + strings.Repeat("\n", 16380), "{a:b}"},
		{"a\tb", "FByte 1"}, {"a: b\n\tc: d", "FByte 2"}, {"a: b\r\n", "FByte 1"}, {"a: b # \x7f", "FByte 1"}, {"a: 'b\x00'", "FByte 1"},
		{"a: 'b", "FQuote 1"}, {"a: b\nc: \"d", "FQuote 2"}, {"a: b\n\nc: 'd\n'", "FQuote 3"}, // of 10
		{"a: 'b' c", "FQuote 1"}, {"a: b\nc: \"\\q\"", "FQuote 2"}, {"'a': b", "FQuote 1"}, // of 11
		{"a: [b]", "FText 1"}, {"a: b\nc: *d", "FText 2"}, {"a: b: c", "FText 1"}, {"a: - b", "FText 1"}, {"a: " + longWord, "FText 1"}, {"a: b\nc: '" + longWord + "'", "FText 2"}, {"a: |\n  b", "FText 1"},
		{longKey + ": b", "FKey 1"}, {"a: b\n\n" + longKey + ":", "FKey 3"}, {strings.Repeat("k", 64) + ": b", "{" + strings.Repeat("k", 64) + ":b}"},
		{"", "FEmpty 1"}, {"a:", "FEmpty 1"}, {"-", "FEmpty 1"}, {"\n\na:", "FEmpty 3"}, {"a:\nb: c", "FEmpty 1"}, {"a: b\n\nc:", "FEmpty 3"}, {"a:\n- b", "FEmpty 1"}, {"a:\nb", "FEmpty 1"}, {" -\n b", "FEmpty 1"}, {" -\nb", "FEmpty 1"}, {"- a:\n  b", "FEmpty 1"}, {"- a:\n- b", "FEmpty 1"},
		{"a: b\na: c", "FTwice 2"}, {"a: b\nc: d\n\na:", "FTwice 4"}, {"a:\n  a: b\n  c: d\n  a:", "FTwice 4"}, {"- a: b\n  a: c", "FTwice 2"}, {"- a: b\n- a: c", "[{a:b} {a:c}]"},
		{"a\nb", "FIndent 2"}, {"a: b\n  c: d", "FIndent 2"}, {"a: b\n  c", "FIndent 2"}, {"- a\nb: c", "FIndent 2"}, {"a: b\n- c", "FIndent 2"}, {"a:\n  b: c\n d: e", "FIndent 3"}, {"- a\n - b", "FIndent 2"}, {"  a: b\nc: d", "FIndent 2"}, {"a:\n    - b\n  - c", "FIndent 3"}, {"a: b\n\n# x\n 'c'", "FIndent 4"},
		{strings.Repeat("- ", 23) + "a", strings.Repeat("[", 23) + "a" + strings.Repeat("]", 23)}, {strings.Repeat("- ", 24) + "a", "FDeep 1"}, {"-\n " + strings.Repeat("- ", 23) + "a", "FDeep 2"}, {"- a\n- b\n" + strings.Repeat("- ", 30), "FDeep 3"}, {strings.Repeat("- ", 22) + "a: b", strings.Repeat("[", 22) + "{a:b}" + strings.Repeat("]", 22)}, {strings.Repeat("- ", 23) + "a: b", "FDeep 1"},
		{strings.Repeat("- a\n", 1999), "[" + strings.Repeat("a ", 1998) + "a]"}, {strings.Repeat("- a\n", 2000), "FMany 2000"}, {strings.Repeat("- a\n", 2000) + "-", "FMany 2000"}, {strings.Repeat("- - a\n", 1000), "FMany 1000"}, {strings.Repeat("-\n a\n", 2000), "FMany 4000"},
	})
	keys := func(levels int) string { // each key in a row of its own
		var rows []string
		for i := range levels {
			rows = append(rows, strings.Repeat(" ", i)+"k:")
		}
		return strings.Join(rows, "\n")
	}
	checkTexts(t, []parseCase{
		{keys(23), "FEmpty 23"}, {keys(23) + " a", strings.Repeat("{k:", 23) + "a" + strings.Repeat("}", 23)}, {keys(24), "FEmpty 24"}, {keys(24) + " a", "FDeep 24"}, {keys(24) + "\n" + strings.Repeat(" ", 24) + "a", "FDeep 25"}, {keys(25), "FDeep 25"}, {keys(40), "FDeep 25"},
	})
}

func TestParseTwoFaults(t *testing.T) { // P12.2: chapter 10's ahead of 11's ahead of 12's, wherever they stand
	of10 := map[string]string{"x\ty": "FByte", "x: 'y": "FQuote", "\x7f": "FByte", "\"": "FQuote"}
	of11 := map[string]string{"x: [y]": "FText", "x: 'y' z": "FQuote", "x: \"\\q\"": "FQuote", strings.Repeat("k", 65) + ":": "FKey", "x: y: z": "FText"}
	of12 := map[string]string{"x:": "FEmpty", "   y": "FIndent", "-": "FEmpty", "a: z": "FTwice"}
	big := strings.Repeat(" ", 16384)
	pairs := func(first, later map[string]string) {
		for a, kind := range first {
			for b := range later {
				checkTexts(t, []parseCase{
					{"a: b\n" + a + "\n" + b, kind + " 2"}, {"a: b\n" + b + "\n" + a, kind + " 3"}, {b + "\n" + b + "\n\n" + a + "\nc: d", kind + " 4"},
					{"a: b\n" + a + "\n" + b + "\n" + big, "FBig 1"}, {"a: b\n" + b + "\n" + a + "\n" + big, "FBig 1"},
				})
			}
		}
	}
	pairs(of10, of11)
	pairs(of10, of12)
	pairs(of11, of12)
	for _, layer := range []map[string]string{of10, of11} { // of two of one chapter the first line's
		for a, kind := range layer {
			for b := range layer {
				checkTexts(t, []parseCase{{"a: b\n" + a + "\n\n" + b, kind + " 2"}})
			}
		}
	}
	checkTexts(t, []parseCase{
		{"a: b\nx:\na: c", "FEmpty 2"}, {"a: b\na: c\nx:", "FTwice 2"}, {"a: b\n c\na: d", "FIndent 2"}, {"a:\n  - b\n   - c\na:", "FIndent 3"}, {"a: b\na:\nx:", "FTwice 2"}, {"-\n-", "FEmpty 1"}, {"a: b\n  c\n d", "FIndent 2"}, {"x: 'y\tz", "FByte 1"}, {"x: [y\nz:\n-", "FText 1"}, {"a:\nb: [c]\nd: 'e", "FQuote 3"},
	})
}

// row ends the last row, with what says nothing behind it, and begins another one, blanks up to col ahead.
func (m *maker) row(col int) {
	silence := []string{"", "", "", " ", "   ", " # x", "  #'x", " # - a: \"b"}
	if len(m.rows) > 0 {
		m.rows[len(m.rows)-1] += silence[m.source.Intn(len(silence))]
	}
	for m.source.Intn(6) == 0 {
		m.rows = append(m.rows, silence[m.source.Intn(len(silence))])
	}
	m.rows = append(m.rows, strings.Repeat(" ", col))
}

func (m *maker) write(s string) { m.rows[len(m.rows)-1] += s }

// goOn begins a block of a text behind owner: in the same row, or, always if it must, in another one.
func (m *maker) goOn(owner int, newRow bool) int {
	if !newRow && m.source.Intn(3) > 0 {
		m.write(strings.Repeat(" ", 1+m.source.Intn(3)))
		return len(m.rows[len(m.rows)-1])
	}
	col := owner + 1 + m.source.Intn(3)
	m.row(col)
	return col
}

// asText writes x at col, where the last row ends, and tells its number.
func (m *maker) asText(x tree, col int) int {
	number := m.node(api.Node{Kind: x.kind, Line: len(m.rows), Text: x.text, Quoted: x.quoted, Keys: x.keys})
	if x.kind == api.NText {
		m.write(m.said(x))
		return number
	}
	var kids []int
	for i, kid := range x.kids {
		if i > 0 {
			m.row(col)
		}
		if x.kind == api.NMap {
			m.write(x.keys[i] + ":")
		} else {
			m.write("-")
		}
		kids = append(kids, m.asText(kid, m.goOn(col, x.kind == api.NMap && kid.kind != api.NText)))
	}
	m.nodes[number].Kids = kids
	return number
}

// said is a text as it is written.
func (m *maker) said(x tree) string {
	switch {
	case !x.quoted:
		return x.text
	case m.source.Intn(2) == 0:
		return "'" + strings.ReplaceAll(x.text, "'", "''") + "'"
	}
	return `"` + strings.NewReplacer(`\`, `\\`, `"`, `\"`).Replace(x.text) + `"`
}

func TestParseMadeTexts(t *testing.T) { // P12.2: what was written is read as it was
	source := rand.New(rand.NewSource(122))
	nodes := 0
	for range 8000 {
		m := maker{source: source}
		col := source.Intn(4)
		m.row(col)
		m.asText(grow(source, 1+source.Intn(6)), col)
		m.row(0)
		s := strings.Join(m.rows, "\n")
		if len(s) > 16384 || len(m.nodes) > 2000 {
			continue
		}
		nodes += len(m.nodes)
		if got := checkParse(t, s); !got.same(told{doc: api.Doc{Nodes: m.nodes}}) {
			t.Fatalf("Parse(%q) = %v, want %v", s, got, m.nodes)
		}
	}
	if nodes < 40000 {
		t.Errorf("%d nodes in all", nodes)
	}
}

// together is up to most of the parts, as chance has it, one behind another.
func together(source *rand.Rand, parts []string, most int) string {
	var s strings.Builder
	for range source.Intn(most + 1) {
		s.WriteString(parts[source.Intn(len(parts))])
	}
	return s.String()
}

func TestParseWildTexts(t *testing.T) { // P12.2: whatever it is given
	source := rand.New(rand.NewSource(124))
	kinds := map[int]int{}
	signs := strings.Split("\n\n\n--::  ab'\"#", "")
	rough := append(slices.Repeat(signs, 8), "\x00", "\t", "\x7f", "\xff", "é", "[", "*")
	parts := []string{"- ", "-\n", "a: ", "b: ", "c:\n", "x\n", "'y'\n", "\n", "  ", " ", " ", "# z\n", "    ", "\"w\"\n", "[", "d: e\n"}
	for range 40000 {
		kinds[checkParse(t, together(source, rough, 40)).fault.Kind]++
		kinds[checkParse(t, together(source, parts, 13)).fault.Kind]++
	}
	for _, kind := range []int{0, api.FByte, api.FQuote, api.FText, api.FIndent, api.FTwice, api.FEmpty} {
		if kinds[kind] < 50 {
			t.Errorf("%d texts with fault %d", kinds[kind], kind)
		}
	}
}

func TestArgumentsStay(t *testing.T) { // rule 3: neither pieces nor bytes, nor their spare room, are changed, or kept
	for _, c := range []string{"0a: 2- 4b: 6=c 4d: 6'e 0f: 2=g", "0- 2=a 0-", "0a: 2=b 0a: 2=c", "0=a 0=b"} {
		room := append(list(c), list("0- 1k: 2=spare")...)
		before := slices.Clone(room)
		n := len(list(c))
		got := of(room[:n]...)
		if !slices.Equal(room, before) {
			t.Errorf("Of changed %s", c)
		}
		want := of(list(c)...)
		for i := range room {
			room[i] = api.Piece{Kind: 9, Line: 9, Text: "changed"}
		}
		if !got.same(want) {
			t.Errorf("the answer became %v with its argument", got)
		}
	}
	for _, s := range []string{"a:\n  - 'b'\n  - c: d", "a: b\na:", "a: [", "'"} {
		room := []byte(s + "\nspare: 'room")
		before := slices.Clone(room)
		d, f := doc.Parse(room[:len(s)])
		if !slices.Equal(room, before) {
			t.Errorf("Parse changed %q", s)
		}
		for i := range room {
			room[i] = '?'
		}
		if !(told{d, f}).same(parse(s)) {
			t.Errorf("the answer became %v with its argument", d)
		}
	}
}

func TestAnswersAreNew(t *testing.T) { // rule 3: no two lists of one answer, or of two, share any
	l := list("0a: 2- 4b: 6=c 4d: 6'e 2- 4=h 0f: 2- 4=g 2- 4=h 2- 4=i 0j: 2k: 4=l 2m: 4=n")
	calls := []func() told{
		func() told { return of(l...) },
		func() told {
			return parse("a:\n  - b: c\n    d: 'e'\n  - h\nf:\n  - g\n  - h\n  - i\nj:\n  k: l\n  m: n")
		},
	}
	for i, call := range calls {
		want := fmt.Sprint(call())
		count := len(call().doc.Nodes)
		for n := range count {
			first, second := call(), call()
			x := &first.doc.Nodes[n]
			for j := range x.Kids[:cap(x.Kids)] {
				x.Kids[:cap(x.Kids)][j] = -7
			}
			for j := range x.Keys[:cap(x.Keys)] {
				x.Keys[:cap(x.Keys)][j] = "changed"
			}
			clean := call()
			first.doc.Nodes[n] = clean.doc.Nodes[n]
			if !first.same(clean) {
				t.Errorf("call %d: the lists of node %d are others', too", i, n)
			}
			for j := range first.doc.Nodes[:cap(first.doc.Nodes)] {
				first.doc.Nodes[:cap(first.doc.Nodes)][j] = api.Node{Kind: 9}
			}
			if fmt.Sprint(second) != want || fmt.Sprint(call()) != want {
				t.Errorf("call %d: the answer became %v with another", i, second)
			}
		}
	}
}

func FuzzOf(f *testing.F) {
	f.Add([]byte{2, 0, 3, 2, 1, 4, 3, 6})
	f.Add([]byte{1, 0, 1, 1, 1, 2, 3, 3, 1, 1, 3, 2})
	f.Fuzz(func(t *testing.T, b []byte) {
		var l []api.Piece
		for i := 0; i+1 < len(b); i += 2 {
			l = append(l, api.Piece{Kind: int(b[i] % 5), Line: i, Col: int(int8(b[i+1])), Text: strconv.Itoa(int(b[i] / 5 % 4)), Quoted: b[i] > 127})
		}
		checkOf(t, l)
	})
}

func FuzzParse(f *testing.F) {
	for _, s := range []string{"", "a: b", "a:", "- a\n- b", "a:\n  - b: c\n    d: 'e'\n  - f\ng: h", "a: b\na: c", "a: b\n c"} {
		f.Add(s)
	}
	f.Fuzz(func(t *testing.T, s string) { checkParse(t, s) })
}
