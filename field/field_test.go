package field_test

import (
	"fmt"
	"math"
	"math/big"
	"math/rand"
	"reflect"
	"regexp"
	"slices"
	"strconv"
	"strings"
	"testing"

	"turncock/api"
	"turncock/doc"
	"turncock/field"
	"turncock/show"
)

// maxTime is 2^62.
const maxTime = 4611686018427387904

func text(line int, s string) api.Node { return api.Node{Kind: 1, Line: line, Text: s} }

func quoted(line int, s string) api.Node {
	return api.Node{Kind: 1, Line: line, Text: s, Quoted: true}
}

func list(line int, kids ...int) api.Node { return api.Node{Kind: 2, Line: line, Kids: kids} }

// pairs is a map of keys, each with the kid behind it.
func pairs(line int, l ...any) api.Node {
	n := api.Node{Kind: 3, Line: line}
	for i := 0; i < len(l); i += 2 {
		n.Keys = append(n.Keys, l[i].(string))
		n.Kids = append(n.Kids, l[i+1].(int))
	}
	return n
}

func of(l ...api.Node) api.Doc { return api.Doc{Nodes: l} }

func briefly(d api.Doc) string { return fmt.Sprintf("%.900q", fmt.Sprint(d)) }

func fault(kind, line int) api.Fault { return api.Fault{Kind: kind, Line: line} }

// form is a text that is a document of its own, quoted or not.
func form(s string, isQuoted bool) api.Doc {
	return of(api.Node{Kind: 1, Line: 7, Text: s, Quoted: isQuoted})
}

// The model: what a text says is told by expressions of a whole text and by numbers without end, what stands where by copies of
// the nodes; whether a document may be is asked of chapter 13.

var (
	wholeForm = regexp.MustCompile(`^(?:0|[1-9][0-9]*)$`)
	ratioForm = regexp.MustCompile(`^-?(?:0|[1-9][0-9]{0,8})(?:\.[0-9]{1,6})?$`)
	nameForm  = regexp.MustCompile(`^[!-~]{1,64}$`)
)

// node is the model of the words: the node n, false of what is none.
func node(d api.Doc, n int) (api.Node, bool) {
	if show.Check(d) != api.OK {
		return api.Node{}, false
	}
	for i, x := range d.Nodes {
		if i == n {
			return x, true
		}
	}
	return api.Node{}, false
}

func needed(d api.Doc, n, kind int) api.Fault {
	x, ok := node(d, n)
	if !ok {
		return fault(11, 0)
	}
	if x.Kind != kind {
		return fault(11, x.Line)
	}
	return fault(0, 0)
}

func known(d api.Doc, n int, keys []string) api.Fault {
	if f := needed(d, n, 3); f.Kind != 0 {
		return f
	}
	lacks := map[string]bool{}
	for _, key := range d.Nodes[n].Keys {
		lacks[key] = true
	}
	for _, key := range keys {
		delete(lacks, key)
	}
	// From the last one back, so that the first one is what is left.
	line := 0
	for i := len(d.Nodes[n].Keys) - 1; i >= 0; i-- {
		if lacks[d.Nodes[n].Keys[i]] {
			line = d.Nodes[d.Nodes[n].Kids[i]].Line
		}
	}
	if len(lacks) > 0 {
		return fault(5, line)
	}
	return fault(0, 0)
}

func found(d api.Doc, n int, key string) (int, bool) {
	if needed(d, n, 3).Kind != 0 {
		return 0, false
	}
	for i, k := range d.Nodes[n].Keys {
		if k == key {
			return d.Nodes[n].Kids[i], true
		}
	}
	return 0, false
}

func number(x api.Node, least, most int) (int, bool) {
	if x.Quoted || !wholeForm.MatchString(x.Text) {
		return 0, false
	}
	a, _ := new(big.Int).SetString(x.Text, 10)
	if a.Cmp(big.NewInt(maxTime)) > 0 || a.Cmp(big.NewInt(int64(least))) < 0 || a.Cmp(big.NewInt(int64(most))) > 0 {
		return 0, false
	}
	return int(a.Int64()), true
}

func share(x api.Node) (float64, bool) {
	if x.Quoted || !ratioForm.MatchString(x.Text) {
		return 0, false
	}
	r, _ := new(big.Rat).SetString(x.Text)
	if r.Sign() < 0 || r.Cmp(big.NewRat(1, 1)) > 0 {
		return 0, false
	}
	// A number of the library's has one nought, which is +0 as a float64.
	f, _ := r.Float64()
	return f, true
}

// check holds an answer against what the model tells of a text: its fault, a zero beside it.
func check[T comparable](t *testing.T, what string, d api.Doc, n, wrong int, want T, ok bool, got T, f api.Fault) {
	t.Helper()
	wantFault := needed(d, n, 1)
	if wantFault.Kind == 0 && !ok {
		wantFault = fault(wrong, d.Nodes[n].Line)
	}
	var none T
	if wantFault.Kind != 0 {
		want = none
	}
	if got != want || f != wantFault {
		t.Fatalf("%s of %d of %s = %#v, %v, want %#v, %v", what, n, briefly(d), got, f, want, wantFault)
	}
}

// checkTexts holds the five calls that read a text against the model.
func checkTexts(t *testing.T, d api.Doc, n, least, most int) {
	t.Helper()
	x, _ := node(d, n)
	a, f := field.Number(d, n, least, most)
	want, ok := number(x, least, most)
	check(t, fmt.Sprintf("Number(%d, %d)", least, most), d, n, 13, want, ok, a, f)
	b, f := field.Bool(d, n)
	check(t, "Bool", d, n, 14, x.Text == "true", !x.Quoted && slices.Contains([]string{"true", "false"}, x.Text), b, f)
	r, f := field.Ratio(d, n)
	part, ok := share(x)
	// By the bits: -0 must not be told.
	check(t, "Ratio", d, n, 15, math.Float64bits(part), ok, math.Float64bits(r), f)
	s, f := field.Name(d, n)
	check(t, "Name", d, n, 12, x.Text, nameForm.MatchString(x.Text), s, f)
	s, f = field.Word(d, n)
	check(t, "Word", d, n, 12, x.Text, len(x.Text) <= 128, s, f)
}

// checkMaps holds the three calls that look at nodes against the model.
func checkMaps(t *testing.T, d api.Doc, n int, keys []string) {
	t.Helper()
	for kind := -1; kind <= 4; kind++ {
		if got, want := field.Need(d, n, kind), needed(d, n, kind); got != want {
			t.Fatalf("Need(%s, %d, %d) = %v, want %v", briefly(d), n, kind, got, want)
		}
	}
	if got, want := field.Known(d, n, keys...), known(d, n, keys); got != want {
		t.Fatalf("Known(%s, %d, %q) = %v, want %v", briefly(d), n, keys, got, want)
	}
	for _, key := range keys {
		got, ok := field.Find(d, n, key)
		if want, wantOK := found(d, n, key); got != want || ok != wantOK {
			t.Fatalf("Find(%s, %d, %q) = %d, %v, want %d, %v", briefly(d), n, key, got, ok, want, wantOK)
		}
	}
}

// checkNone: no call takes n as a node of d.
func checkNone(t *testing.T, d api.Doc, n int) {
	t.Helper()
	none := fault(11, 0)
	for _, kind := range []int{math.MinInt, -1, 0, 1, 2, 3, 4, 11, math.MaxInt} {
		if f := field.Need(d, n, kind); f != none {
			t.Errorf("Need(%s, %d, %d) = %v", briefly(d), n, kind, f)
		}
	}
	for _, keys := range [][]string{nil, {}, {"a"}, {"a", "b"}, {"a", "b", "c", ""}} {
		if f := field.Known(d, n, keys...); f != none {
			t.Errorf("Known(%s, %d, %q) = %v", briefly(d), n, keys, f)
		}
	}
	for _, key := range []string{"", "a", "b", "c"} {
		if kid, ok := field.Find(d, n, key); kid != 0 || ok {
			t.Errorf("Find(%s, %d, %q) = %d, %v", briefly(d), n, key, kid, ok)
		}
	}
	a, f := field.Number(d, n, math.MinInt, math.MaxInt)
	b, g := field.Bool(d, n)
	r, h := field.Ratio(d, n)
	s, i := field.Name(d, n)
	w, j := field.Word(d, n)
	if a != 0 || b || math.Float64bits(r) != 0 || s != "" || w != "" {
		t.Errorf("of %d of %s: %d, %v, %v, %q, %q", n, briefly(d), a, b, r, s, w)
	}
	for at, got := range []api.Fault{f, g, h, i, j} {
		if got != none {
			t.Errorf("%d: of %d of %s: %v", at, n, briefly(d), got)
		}
	}
}

func sample() api.Doc {
	return of(pairs(3, "a", 1, "b", 2, "c", 4), text(5, "1"), list(7, 3), text(9, "true"), pairs(11, "a", 5), quoted(13, "x"))
}

// The words: an n that is none of the nodes.
func TestNoNode(t *testing.T) {
	for _, d := range []api.Doc{sample(), form("1", false), form("true", false), form("x", true), of(list(2, 1), text(3, "0.5"))} {
		if show.Check(d) != api.OK {
			t.Fatalf("13 refuses %s", briefly(d))
		}
		for _, n := range []int{math.MinInt, math.MinInt + 1, -len(d.Nodes), -2, -1, len(d.Nodes), len(d.Nodes) + 1, 2 * len(d.Nodes), 1 << 32, math.MaxInt} {
			checkNone(t, d, n)
		}
		for n := range d.Nodes {
			if f := field.Need(d, n, d.Nodes[n].Kind); f.Kind != 0 {
				t.Errorf("Need(%s, %d) = %v", briefly(d), n, f)
			}
		}
	}
}

// The words: documents that 13 refuses, whatever the node itself is.
func TestNoDoc(t *testing.T) {
	turns := []func(d *api.Doc){
		func(d *api.Doc) { d.Nodes = nil },
		func(d *api.Doc) { d.Nodes = []api.Node{} },
		func(d *api.Doc) { d.Nodes = d.Nodes[:1] },
		func(d *api.Doc) { d.Nodes = d.Nodes[:5] },
		func(d *api.Doc) { d.Nodes = d.Nodes[1:] },
		func(d *api.Doc) { d.Nodes = append(d.Nodes, text(15, "1")) },
		func(d *api.Doc) { d.Nodes[5] = text(13, "") },
		func(d *api.Doc) { d.Nodes[5] = text(13, " 1") },
		func(d *api.Doc) { d.Nodes[5] = text(13, "1 ") },
		func(d *api.Doc) { d.Nodes[5] = text(13, "a: b") },
		func(d *api.Doc) { d.Nodes[5] = text(13, "a\nb") },
		func(d *api.Doc) { d.Nodes[5].Text = strings.Repeat("x", 201) },
		func(d *api.Doc) { d.Nodes[5].Kind = 0 },
		func(d *api.Doc) { d.Nodes[5].Kind = 4 },
		func(d *api.Doc) { d.Nodes[5].Kind = -1 },
		func(d *api.Doc) { d.Nodes[5].Kids = []int{1} },
		func(d *api.Doc) { d.Nodes[1].Keys = []string{"a"} },
		func(d *api.Doc) { d.Nodes[0].Keys[2] = "a" },
		func(d *api.Doc) { d.Nodes[0].Keys[2] = "" },
		func(d *api.Doc) { d.Nodes[0].Keys[2] = "a b" },
		func(d *api.Doc) { d.Nodes[0].Keys = d.Nodes[0].Keys[:2] },
		func(d *api.Doc) { d.Nodes[0].Keys = append(d.Nodes[0].Keys, "d") },
		func(d *api.Doc) { d.Nodes[0].Kids[2] = 3 },
		func(d *api.Doc) { d.Nodes[0].Kids[2] = 0 },
		func(d *api.Doc) { d.Nodes[0].Kids[0] = -1 },
		func(d *api.Doc) { d.Nodes[0].Kids[2] = 6 },
		func(d *api.Doc) { d.Nodes[4].Kids[0] = math.MaxInt },
		func(d *api.Doc) { d.Nodes[0].Text = "a" },
		func(d *api.Doc) { d.Nodes[0].Quoted = true },
		func(d *api.Doc) { d.Nodes[2].Keys = []string{"a"} },
		func(d *api.Doc) { d.Nodes[2].Text = "a" },
		func(d *api.Doc) { d.Nodes[2] = list(7) },
		func(d *api.Doc) { d.Nodes[4] = pairs(11) },
	}
	for i, turn := range turns {
		d := sample()
		turn(&d)
		if show.Check(d) != api.ErrArg {
			t.Fatalf("%d: 13 takes %s", i, briefly(d))
		}
		for _, n := range []int{math.MinInt, -1, 0, 1, 2, 3, 4, 5, 6, 7, math.MaxInt} {
			checkNone(t, d, n)
		}
	}
	for n := -2; n < 3; n++ {
		checkNone(t, api.Doc{}, n)
	}
}

// The greatest and the deepest documents, and what is one more.
func TestBig(t *testing.T) {
	wide := of(list(1))
	for len(wide.Nodes) < 2000 {
		n := len(wide.Nodes)
		wide.Nodes[0].Kids = append(wide.Nodes[0].Kids, n)
		wide.Nodes = append(wide.Nodes, text(10*n, strconv.Itoa(n)))
	}
	for _, n := range []int{0, 1, 1998, 1999, 2000} {
		checkTexts(t, wide, n, 0, 3000)
		checkMaps(t, wide, n, []string{"a"})
	}
	if a, f := field.Number(wide, 1999, 1999, 1999); a != 1999 || f != fault(0, 0) {
		t.Errorf("the last number is %d, %v", a, f)
	}
	wide.Nodes[0].Kids = append(wide.Nodes[0].Kids, 2000)
	wide.Nodes = append(wide.Nodes, text(1, "1"))
	checkNone(t, wide, 1)
	checkNone(t, wide, 2000)

	steep := of()
	for n := range 23 {
		steep.Nodes = append(steep.Nodes, pairs(2*n+1, "a", n+1))
	}
	deepest := steep
	deepest.Nodes = append(slices.Clone(steep.Nodes), text(99, "x"))
	for n := range 24 {
		checkTexts(t, deepest, n, 0, 9)
		checkMaps(t, deepest, n, []string{"a", "b"})
	}
	for at, f := range faults(deepest, 23) {
		if want := []int{13, 14, 15, 0, 0}[at]; f.Kind != want || want != 0 && f.Line != 99 {
			t.Errorf("%d: of the deepest: %v", at, f)
		}
	}
	for at, f := range faults(deepest, 22) {
		if f != fault(11, 45) {
			t.Errorf("%d: of the one ahead of the deepest: %v", at, f)
		}
	}
	if f := field.Known(deepest, 22); f != fault(5, 99) {
		t.Errorf("the deepest key: %v", f)
	}
	deeper := of(append(slices.Clone(steep.Nodes), pairs(97, "a", 24), text(99, "x"))...)
	for n := range 25 {
		checkNone(t, deeper, n)
	}
}

// faults are those of the five calls that read a text.
func faults(d api.Doc, n int) []api.Fault {
	_, f := field.Number(d, n, math.MinInt, math.MaxInt)
	_, g := field.Bool(d, n)
	_, h := field.Ratio(d, n)
	_, i := field.Name(d, n)
	_, j := field.Word(d, n)
	return []api.Fault{f, g, h, i, j}
}

// P14.1: each Kind against each Kind, and against what is none.
func TestNeed(t *testing.T) {
	d := sample()
	kinds := []int{3, 1, 2, 1, 3, 1}
	for n, has := range kinds {
		for _, kind := range []int{math.MinInt, -3, -2, -1, 0, 1, 2, 3, 4, 5, 11, 257, 258, 259, 1<<32 + 1, math.MaxInt} {
			want := fault(11, 2*n+3)
			if kind == has {
				want = fault(0, 0)
			}
			if got := field.Need(d, n, kind); got != want {
				t.Errorf("Need(%d, %d) = %v, want %v", n, kind, got, want)
			}
		}
	}
	// Whatever number a line has.
	for _, line := range []int{math.MinInt, -1, 0, 1, math.MaxInt} {
		d.Nodes[1].Line = line
		if got := field.Need(d, 1, 2); got != fault(11, line) {
			t.Errorf("in line %d: %v", line, got)
		}
		if got := field.Need(d, 1, 1); got != fault(0, 0) {
			t.Errorf("in line %d, of its own kind: %v", line, got)
		}
		if got := field.Known(d, 0, "b", "c"); got != fault(5, line) {
			t.Errorf("in line %d: Known tells %v", line, got)
		}
	}
}

// P14.1: which keys are known.
func TestKnown(t *testing.T) {
	d := sample()
	for _, c := range []struct {
		n    int
		keys []string
		want api.Fault
	}{
		{0, nil, fault(5, 5)},
		{0, []string{}, fault(5, 5)},
		{0, []string{"a", "b", "c"}, fault(0, 0)},
		{0, []string{"c", "a", "b"}, fault(0, 0)},
		{0, []string{"c", "b", "a"}, fault(0, 0)},
		{0, []string{"a", "b", "c", "d"}, fault(0, 0)},
		{0, []string{"", "x", "a", "aa", "b", "bb", "c", "x"}, fault(0, 0)},
		{0, []string{"a", "a", "b", "b", "c", "c"}, fault(0, 0)},
		{0, []string{"c", "b", "c", "a", "a"}, fault(0, 0)},
		{0, []string{"b", "c"}, fault(5, 5)},
		{0, []string{"a", "c"}, fault(5, 7)},
		{0, []string{"a", "b"}, fault(5, 11)},
		{0, []string{"b", "b", "c"}, fault(5, 5)},
		{0, []string{"a", "a", "a"}, fault(5, 7)},
		{0, []string{"a", "b", "a", "b", "d"}, fault(5, 11)},
		{0, []string{"a"}, fault(5, 7)},
		{0, []string{"b"}, fault(5, 5)},
		{0, []string{"c"}, fault(5, 5)},
		{0, []string{"d", ""}, fault(5, 5)},
		{0, []string{"aa", "bb", "cc"}, fault(5, 5)},
		{0, []string{"A", "b", "c"}, fault(5, 5)},
		{0, []string{"a", "b ", "c"}, fault(5, 7)},
		{4, []string{"a"}, fault(0, 0)},
		{4, []string{"b", "c"}, fault(5, 13)},
		{4, nil, fault(5, 13)},
		{1, nil, fault(11, 5)},
		{1, []string{"a"}, fault(11, 5)},
		{1, []string{"1"}, fault(11, 5)},
		{2, nil, fault(11, 7)},
		{2, []string{"a", "b"}, fault(11, 7)},
		{3, []string{"true"}, fault(11, 9)},
		{5, nil, fault(11, 13)},
	} {
		if got := field.Known(d, c.n, c.keys...); got != c.want {
			t.Errorf("Known(%d, %q) = %v, want %v", c.n, c.keys, got, c.want)
		}
		checkMaps(t, d, c.n, c.keys)
	}
	// The kid's line is told, even if it stands ahead of the map's, or ahead of one that is known.
	d.Nodes[4].Line, d.Nodes[5].Line = 1, 0
	if got := field.Known(d, 4); got != fault(5, 0) {
		t.Errorf("a kid in line 0: %v", got)
	}
	if got := field.Known(d, 0, "a", "b"); got != fault(5, 1) {
		t.Errorf("the last kid in line 1: %v", got)
	}
	// The first one in the map, not the one whose line is least.
	if got := field.Known(d, 0, "a"); got != fault(5, 7) {
		t.Errorf("the last kid in line 1, the one ahead is not known: %v", got)
	}
}

// P14.1: all ways to know some of a map's keys.
func TestKnownAll(t *testing.T) {
	keys := []string{"a", "ab", "b", "b-", "-", "0"}
	d := of(api.Node{Kind: 3, Line: 50})
	for i, key := range keys {
		d.Nodes[0].Keys = append(d.Nodes[0].Keys, key)
		d.Nodes[0].Kids = append(d.Nodes[0].Kids, i+1)
		d.Nodes = append(d.Nodes, text(60-i, "x"))
	}
	for set := range 64 {
		var has []string
		want := fault(0, 0)
		for i := len(keys) - 1; i >= 0; i-- {
			if set>>i&1 == 1 {
				has = append(has, keys[i])
			} else {
				want = fault(5, 60-i)
			}
		}
		if got := field.Known(d, 0, has...); got != want {
			t.Errorf("Known(%q) = %v, want %v", has, got, want)
		}
		if got := field.Known(d, 0, append(append([]string{"c"}, has...), "")...); got != want {
			t.Errorf("Known(%q and others) = %v, want %v", has, got, want)
		}
	}
}

// P14.1: what key has what kid.
func TestFind(t *testing.T) {
	d := of(pairs(1, "key", 1, "ke", 4, "k", 6, "keys", 7), list(2, 2, 3), text(3, "key"), text(4, "b"), pairs(5, "key", 5), text(6, "c"), text(7, "d"), quoted(8, ""))
	for _, c := range []struct {
		n    int
		key  string
		kid  int
		isIn bool
	}{
		{0, "key", 1, true}, {0, "ke", 4, true}, {0, "k", 6, true}, {0, "keys", 7, true},
		{0, "", 0, false}, {0, "e", 0, false}, {0, "ey", 0, false}, {0, "keyss", 0, false}, {0, "Key", 0, false},
		{0, " key", 0, false}, {0, "key ", 0, false}, {0, "key:", 0, false}, {0, "key\x00", 0, false}, {0, "1", 0, false},
		{4, "key", 5, true}, {4, "k", 0, false}, {4, "ke", 0, false}, {4, "keys", 0, false}, {4, "", 0, false},
		{1, "key", 0, false}, {1, "", 0, false}, {1, "2", 0, false}, {1, "b", 0, false},
		{2, "key", 0, false}, {2, "", 0, false}, {7, "", 0, false}, {5, "c", 0, false},
	} {
		if kid, ok := field.Find(d, c.n, c.key); kid != c.kid || ok != c.isIn {
			t.Errorf("Find(%d, %q) = %d, %v, want %d, %v", c.n, c.key, kid, ok, c.kid, c.isIn)
		}
	}
}

// P14.2: numbers, and the bounds that they are held against.
func TestNumber(t *testing.T) {
	wrong := fault(13, 7)
	for _, c := range []struct {
		s           string
		least, most int
		want        int
		f           api.Fault
	}{
		{"3", 3, 10, 3, fault(0, 0)}, {"10", 3, 10, 10, fault(0, 0)}, {"7", 3, 10, 7, fault(0, 0)},
		{"2", 3, 10, 0, wrong}, {"11", 3, 10, 0, wrong}, {"0", 3, 10, 0, wrong}, {"100", 3, 10, 0, wrong},
		{"5", 5, 5, 5, fault(0, 0)}, {"4", 5, 5, 0, wrong}, {"6", 5, 5, 0, wrong},
		{"5", 6, 4, 0, wrong}, {"4", 6, 4, 0, wrong}, {"6", 6, 4, 0, wrong}, {"0", 1, 0, 0, wrong}, {"0", 0, -1, 0, wrong},
		{"0", -5, -1, 0, wrong}, {"1", -5, -1, 0, wrong}, {"-1", -5, -1, 0, wrong}, {"-3", -5, 5, 0, wrong},
		{"0", -5, 0, 0, fault(0, 0)}, {"0", 0, 0, 0, fault(0, 0)}, {"0", -1, 1, 0, fault(0, 0)}, {"1", 0, 0, 0, wrong},
		{"0", math.MinInt, math.MaxInt, 0, fault(0, 0)}, {"0", math.MaxInt, math.MinInt, 0, wrong},
		{"9", math.MinInt, 9, 9, fault(0, 0)}, {"9", math.MinInt, 8, 0, wrong}, {"9", 9, math.MaxInt, 9, fault(0, 0)}, {"9", 10, math.MaxInt, 0, wrong},
		{"4294967295", 0, api.MaxNum, 4294967295, fault(0, 0)}, {"4294967296", 0, api.MaxNum, 0, wrong},
		{"4611686018427387904", 0, maxTime, maxTime, fault(0, 0)}, {"4611686018427387904", 0, math.MaxInt, maxTime, fault(0, 0)},
		{"4611686018427387904", maxTime, maxTime, maxTime, fault(0, 0)}, {"4611686018427387904", 0, maxTime - 1, 0, wrong},
		{"4611686018427387903", 0, maxTime, maxTime - 1, fault(0, 0)}, {"4611686018427387903", maxTime, maxTime, 0, wrong},
		{"4611686018427387905", 0, math.MaxInt, 0, wrong}, {"9223372036854775807", 0, math.MaxInt, 0, wrong},
		{"9223372036854775808", 0, math.MaxInt, 0, wrong}, {"18446744073709551616", 0, math.MaxInt, 0, wrong}, {"18446744073709551621", 0, 9, 0, wrong},
		{strings.Repeat("9", 200), 0, math.MaxInt, 0, wrong}, {"1" + strings.Repeat("0", 199), 0, math.MaxInt, 0, wrong},
		{"00", 0, 9, 0, wrong}, {"05", 0, 9, 0, wrong}, {"+5", 0, 9, 0, wrong}, {"-5", -9, 9, 0, wrong}, {"-0", -9, 9, 0, wrong},
		{"5.0", 0, 9, 0, wrong}, {"5.", 0, 9, 0, wrong}, {".5", 0, 9, 0, wrong}, {"5e0", 0, 9, 0, wrong}, {"0x5", 0, 9, 0, wrong},
		{"5 5", 0, 99, 0, wrong}, {"5_5", 0, 99, 0, wrong}, {"5:5", 0, 99, 0, wrong}, {"x", 0, 9, 0, wrong}, {"5x", 0, 9, 0, wrong}, {"x5", 0, 9, 0, wrong},
		{"-", 0, 9, 0, fault(11, 0)}, {"--", 0, 9, 0, wrong}, {"٥", 0, 9, 0, wrong}, {"\xb5", 0, 9, 0, wrong}, {"true", 0, 9, 0, wrong}, {"nan", 0, 9, 0, wrong},
		// A document that may not be: what is not quoted has no blank at either end.
		{" 5", 0, 9, 0, fault(11, 0)}, {"5 ", 0, 9, 0, fault(11, 0)}, {"", 0, 9, 0, fault(11, 0)}, {"5 # a", 0, 9, 0, fault(11, 0)}, {"5\n", 0, 9, 0, fault(11, 0)},
	} {
		if got, f := field.Number(form(c.s, false), 0, c.least, c.most); got != c.want || f != c.f {
			t.Errorf("Number(%q, %d, %d) = %d, %v, want %d, %v", c.s, c.least, c.most, got, f, c.want, c.f)
		}
		if got, f := field.Number(form(c.s, true), 0, c.least, c.most); got != 0 || f != wrong {
			t.Errorf("Number(%q, %d, %d), quoted = %d, %v", c.s, c.least, c.most, got, f)
		}
		checkTexts(t, form(c.s, false), 0, c.least, c.most)
		checkTexts(t, form(c.s, true), 0, c.least, c.most)
	}
}

// P14.2: numbers beside each other, held against bounds beside each other.
func TestNumberBounds(t *testing.T) {
	var edges []int
	for _, at := range []int{math.MinInt + 2, -maxTime, -1 << 32, 0, 9, 10, api.MaxNum, maxTime, math.MaxInt - 2} {
		for d := -2; d <= 2; d++ {
			edges = append(edges, at+d)
		}
	}
	for _, a := range edges {
		for _, least := range edges {
			for _, most := range edges {
				want, wantFault := 0, fault(13, 7)
				if a >= 0 && a <= maxTime && least <= a && a <= most {
					want, wantFault = a, fault(0, 0)
				}
				if got, f := field.Number(form(strconv.Itoa(a), false), 0, least, most); got != want || f != wantFault {
					t.Fatalf("Number(%d, %d, %d) = %d, %v", a, least, most, got, f)
				}
			}
		}
	}
}

// P14.2: true and false, and what is nearly one of them.
func TestBool(t *testing.T) {
	for _, c := range []struct {
		s    string
		want bool
		f    api.Fault
	}{
		{"true", true, fault(0, 0)}, {"false", false, fault(0, 0)},
		{"True", false, fault(14, 7)}, {"False", false, fault(14, 7)}, {"TRUE", false, fault(14, 7)}, {"FALSE", false, fault(14, 7)},
		{"tRue", false, fault(14, 7)}, {"falsE", false, fault(14, 7)}, {"tru", false, fault(14, 7)}, {"fals", false, fault(14, 7)},
		{"rue", false, fault(14, 7)}, {"alse", false, fault(14, 7)}, {"truee", false, fault(14, 7)}, {"falsee", false, fault(14, 7)},
		{"ttrue", false, fault(14, 7)}, {"ffalse", false, fault(14, 7)}, {"true.", false, fault(14, 7)}, {"false false", false, fault(14, 7)},
		{"true true", false, fault(14, 7)}, {"truefalse", false, fault(14, 7)}, {"yes", false, fault(14, 7)}, {"no", false, fault(14, 7)},
		{"on", false, fault(14, 7)}, {"1", false, fault(14, 7)}, {"0", false, fault(14, 7)}, {"t", false, fault(14, 7)}, {"f", false, fault(14, 7)}, {"nan", false, fault(14, 7)},
		{"", false, fault(11, 0)}, {" true", false, fault(11, 0)}, {"true ", false, fault(11, 0)}, {"true\x00", false, fault(11, 0)}, {"false\n", false, fault(11, 0)},
	} {
		if got, f := field.Bool(form(c.s, false), 0); got != c.want || f != c.f {
			t.Errorf("Bool(%q) = %v, %v, want %v, %v", c.s, got, f, c.want, c.f)
		}
		if got, f := field.Bool(form(c.s, true), 0); got || f != fault(14, 7) {
			t.Errorf("Bool(%q), quoted = %v, %v", c.s, got, f)
		}
	}
}

// P14.2: ratios. What is told is held by its bits: -0 is none of the answers.
func TestRatio(t *testing.T) {
	wrong := fault(15, 7)
	for _, c := range []struct {
		s    string
		want float64
		f    api.Fault
	}{
		{"0.8", 0.8, fault(0, 0)}, {"0.80", 0.8, fault(0, 0)}, {"0.5", 0.5, fault(0, 0)}, {"0.1", 0.1, fault(0, 0)}, {"0.333333", 0.333333, fault(0, 0)},
		{"0", 0, fault(0, 0)}, {"-0", 0, fault(0, 0)}, {"0.0", 0, fault(0, 0)}, {"-0.0", 0, fault(0, 0)}, {"-0.000", 0, fault(0, 0)}, {"0.000000", 0, fault(0, 0)}, {"-0.000000", 0, fault(0, 0)},
		{"1", 1, fault(0, 0)}, {"1.0", 1, fault(0, 0)}, {"1.000000", 1, fault(0, 0)}, {"0.999999", 0.999999, fault(0, 0)}, {"0.000001", 0.000001, fault(0, 0)},
		{"1.000001", 0, wrong}, {"1.1", 0, wrong}, {"1.5", 0, wrong}, {"2", 0, wrong}, {"10", 0, wrong}, {"999999999", 0, wrong}, {"999999999.999999", 0, wrong}, {"1000000000", 0, wrong},
		{"-0.000001", 0, wrong}, {"-0.5", 0, wrong}, {"-0.8", 0, wrong}, {"-1", 0, wrong}, {"-1.0", 0, wrong}, {"-2", 0, wrong},
		{"nan", 0, wrong}, {"inf", 0, wrong}, {"-inf", 0, wrong}, {"-nan", 0, wrong}, {"NaN", 0, wrong}, {"+Inf", 0, wrong},
		{".5", 0, wrong}, {"5.", 0, wrong}, {"0.", 0, wrong}, {"1.", 0, wrong}, {".", 0, wrong}, {"-.5", 0, wrong}, {"-0.", 0, wrong}, {".0", 0, wrong},
		{"0.0000000", 0, wrong}, {"0.5000000", 0, wrong}, {"1.0000000", 0, wrong}, {"0.1234567", 0, wrong}, {"-0.0000000", 0, wrong},
		{"00", 0, wrong}, {"00.5", 0, wrong}, {"01", 0, wrong}, {"+0.5", 0, wrong}, {"--0", 0, wrong}, {"0,5", 0, wrong}, {"5e-1", 0, wrong}, {"1/2", 0, wrong}, {"0x1", 0, wrong}, {"0.5 0.5", 0, wrong}, {"0 .5", 0, wrong}, {"true", 0, wrong}, {"0_1", 0, wrong},
		{"", 0, fault(11, 0)}, {" 0.5", 0, fault(11, 0)}, {"0.5 ", 0, fault(11, 0)}, {"-", 0, fault(11, 0)},
	} {
		got, f := field.Ratio(form(c.s, false), 0)
		if math.Float64bits(got) != math.Float64bits(c.want) || f != c.f {
			t.Errorf("Ratio(%q) = %v (%x), %v, want %v, %v", c.s, got, math.Float64bits(got), f, c.want, c.f)
		}
		if got, f := field.Ratio(form(c.s, true), 0); math.Float64bits(got) != 0 || f != wrong {
			t.Errorf("Ratio(%q), quoted = %v, %v", c.s, got, f)
		}
		checkTexts(t, form(c.s, false), 0, 0, 9)
		checkTexts(t, form(c.s, true), 0, 0, 9)
	}
}

// P14.2: all ratios of up to three signs behind the point, and some of six, with either sign.
func TestRatioAll(t *testing.T) {
	for _, sign := range []string{"", "-"} {
		for places, tens := 1, 10; places <= 3; places, tens = places+1, 10*tens {
			for all := range 2 * tens {
				checkTexts(t, form(fmt.Sprintf("%s%d.%0*d", sign, all/tens, places, all%tens), false), 0, 0, 1)
			}
		}
		for _, at := range []int{0, 333333, 500000, 800000, 1000000, 1999990} {
			for all := max(at-9, 0); all < at+10; all++ {
				checkTexts(t, form(fmt.Sprintf("%s%d.%06d", sign, all/1000000, all%1000000), false), 0, 0, 1)
			}
		}
	}
}

// P14.2: names, quoted or not.
func TestName(t *testing.T) {
	long := strings.Repeat
	for _, c := range []struct {
		s        string
		isQuoted bool
		f        api.Fault
	}{
		{"ab", false, fault(0, 0)}, {"ab", true, fault(0, 0)}, {"0", false, fault(0, 0)}, {"true", false, fault(0, 0)}, {"0.5", true, fault(0, 0)},
		{"a-b_c.d/e:f", false, fault(0, 0)}, {"a=b", false, fault(0, 0)}, {"~", false, fault(0, 0)}, {"$", false, fault(0, 0)},
		{"!", true, fault(0, 0)}, {"!a", true, fault(0, 0)}, {"[a]", true, fault(0, 0)}, {"'", true, fault(0, 0)}, {"\"", true, fault(0, 0)}, {"a:", true, fault(0, 0)}, {"-", true, fault(0, 0)}, {"#", true, fault(0, 0)}, {"\\", true, fault(0, 0)},
		{long("x", 63), false, fault(0, 0)}, {long("x", 64), false, fault(0, 0)}, {long("x", 65), false, fault(12, 7)}, {long("x", 200), false, fault(12, 7)},
		{long("!", 64), true, fault(0, 0)}, {long("!", 65), true, fault(12, 7)}, {long("é", 32), true, fault(12, 7)},
		{"", true, fault(12, 7)}, {"a b", true, fault(12, 7)}, {"a b", false, fault(12, 7)}, {" ", true, fault(12, 7)}, {" a", true, fault(12, 7)}, {"a ", true, fault(12, 7)},
		{"a\x00", true, fault(12, 7)}, {"a\n", true, fault(12, 7)}, {"a\tb", true, fault(12, 7)}, {"\x7f", true, fault(12, 7)}, {"\x80", true, fault(12, 7)}, {"\x80", false, fault(12, 7)}, {"\xff", true, fault(12, 7)}, {"é", false, fault(12, 7)}, {"aé", true, fault(12, 7)},
		{"", false, fault(11, 0)}, {"!", false, fault(11, 0)}, {"a:", false, fault(11, 0)}, {" a", false, fault(11, 0)}, {long("x", 201), true, fault(11, 0)}, {long("x", 201), false, fault(11, 0)},
	} {
		want := c.s
		if c.f.Kind != 0 {
			want = ""
		}
		if got, f := field.Name(form(c.s, c.isQuoted), 0); got != want || f != c.f {
			t.Errorf("Name(%q, %v) = %q, %v, want %v", c.s, c.isQuoted, got, f, c.f)
		}
	}
	for sign := range 256 {
		s := string([]byte{byte(sign)})
		for _, s := range []string{s, "a" + s, s + "a", "a" + s + "b", long("a", 63) + s, long("a", 64) + s} {
			checkTexts(t, form(s, true), 0, 0, 9)
			checkTexts(t, form(s, false), 0, 0, 9)
		}
	}
}

// P14.2: words, quoted or not.
func TestWord(t *testing.T) {
	long := strings.Repeat
	for _, c := range []struct {
		s        string
		isQuoted bool
		f        api.Fault
	}{
		{"ab", false, fault(0, 0)}, {"ab", true, fault(0, 0)}, {"", true, fault(0, 0)}, {" ", true, fault(0, 0)}, {"a b c", false, fault(0, 0)}, {" a: b # c ", true, fault(0, 0)},
		{"\x00\n\t\x7f\xff", true, fault(0, 0)}, {"\xff\xfe", false, fault(0, 0)}, {"5", false, fault(0, 0)}, {"5", true, fault(0, 0)}, {"true", false, fault(0, 0)},
		{long("x", 127), false, fault(0, 0)}, {long("x", 128), false, fault(0, 0)}, {long("x", 129), false, fault(12, 7)}, {long("x", 200), false, fault(12, 7)}, {long("x", 201), false, fault(11, 0)},
		{long("x", 127), true, fault(0, 0)}, {long("x", 128), true, fault(0, 0)}, {long("x", 129), true, fault(12, 7)}, {long("x", 200), true, fault(12, 7)}, {long("x", 201), true, fault(11, 0)},
		// Bytes are counted: neither runes, nor what an escape of a quoted text takes.
		{long("é", 64), false, fault(0, 0)}, {long("é", 64) + "x", false, fault(12, 7)}, {long("é", 65), true, fault(12, 7)}, {long("\x00", 128), true, fault(0, 0)}, {long("\"", 128), true, fault(0, 0)}, {long("\\", 129), true, fault(12, 7)}, {long(" ", 128), true, fault(0, 0)}, {long(" ", 129), true, fault(12, 7)},
		{"", false, fault(11, 0)}, {" a", false, fault(11, 0)}, {"a\n", false, fault(11, 0)},
	} {
		want := c.s
		if c.f.Kind != 0 {
			want = ""
		}
		if got, f := field.Word(form(c.s, c.isQuoted), 0); got != want || f != c.f {
			t.Errorf("Word(%q, %v) = %q, %v, want %v", c.s, c.isQuoted, got, f, c.f)
		}
	}
	for size := range 202 {
		checkTexts(t, form(long("7", size), true), 0, 0, 9)
		checkTexts(t, form(long("7", size), false), 0, 0, 9)
	}
}

// P14.2: a list and a map are no texts, whatever is looked for in them; each fault is told at its own node's line.
func TestLines(t *testing.T) {
	d := of(list(10, 1, 5), pairs(20, "a", 2, "b", 3), text(30, "x y"), list(40, 4), quoted(50, strings.Repeat("1", 129)), pairs(60, "a", 6), pairs(70, "c", 7), text(80, "é"))
	zero := fault(0, 0)
	for n, want := range [][]api.Fault{
		{fault(11, 10), fault(11, 10), fault(11, 10), fault(11, 10), fault(11, 10)},
		{fault(11, 20), fault(11, 20), fault(11, 20), fault(11, 20), fault(11, 20)},
		{fault(13, 30), fault(14, 30), fault(15, 30), fault(12, 30), zero},
		{fault(11, 40), fault(11, 40), fault(11, 40), fault(11, 40), fault(11, 40)},
		{fault(13, 50), fault(14, 50), fault(15, 50), fault(12, 50), fault(12, 50)},
		{fault(11, 60), fault(11, 60), fault(11, 60), fault(11, 60), fault(11, 60)},
		{fault(11, 70), fault(11, 70), fault(11, 70), fault(11, 70), fault(11, 70)},
		{fault(13, 80), fault(14, 80), fault(15, 80), fault(12, 80), zero},
	} {
		if got := faults(d, n); !slices.Equal(got, want) {
			t.Errorf("of %d: %v, want %v", n, got, want)
		}
		checkTexts(t, d, n, 0, 9)
	}
	for _, line := range []int{math.MinInt, -1, 0, math.MaxInt} {
		for n := range d.Nodes {
			d.Nodes[n].Line = line
		}
		for n := range d.Nodes {
			checkTexts(t, d, n, 0, 9)
			checkMaps(t, d, n, []string{"a"})
		}
	}
}

// The chapter's examples.
func TestExamples(t *testing.T) {
	if r, f := field.Ratio(form("0.8", false), 0); r != 0.8 || f != fault(0, 0) {
		t.Errorf("0.8: %v, %v", r, f)
	}
	for _, d := range []api.Doc{form("0.8", true), form("nan", false), form("1.5", false)} {
		if r, f := field.Ratio(d, 0); math.Float64bits(r) != 0 || f != fault(15, 7) {
			t.Errorf("%s: %v, %v", briefly(d), r, f)
		}
	}
}

// What is read of a text stands where its lines say.
func TestParsed(t *testing.T) {
	d, f := doc.Parse([]byte("near: 0.5\nlist:\n  - 12\n  - '12'\n\nmore:\n  on: true\n  off: \"false\"\n  none: -0 # a\n  name: x y\n"))
	if f.Kind != 0 {
		t.Fatal(f)
	}
	find := func(n int, keys ...string) int {
		for _, key := range keys {
			kid, ok := field.Find(d, n, key)
			if !ok {
				t.Fatalf("%d has no %s", n, key)
			}
			n = kid
		}
		return n
	}
	if r, f := field.Ratio(d, find(0, "near")); r != 0.5 || f.Kind != 0 {
		t.Errorf("near: %v, %v", r, f)
	}
	if f := field.Need(d, find(0, "list"), api.NList); f.Kind != 0 {
		t.Errorf("list: %v", f)
	}
	items := d.Nodes[find(0, "list")].Kids
	if a, f := field.Number(d, items[0], 0, 12); a != 12 || f.Kind != 0 {
		t.Errorf("the first item: %d, %v", a, f)
	}
	if a, f := field.Number(d, items[1], 0, 12); a != 0 || f != fault(13, 4) {
		t.Errorf("the second item: %d, %v", a, f)
	}
	if b, f := field.Bool(d, find(0, "more", "on")); !b || f.Kind != 0 {
		t.Errorf("on: %v, %v", b, f)
	}
	if b, f := field.Bool(d, find(0, "more", "off")); b || f != fault(14, 8) {
		t.Errorf("off: %v, %v", b, f)
	}
	if r, f := field.Ratio(d, find(0, "more", "none")); math.Float64bits(r) != 0 || f.Kind != 0 {
		t.Errorf("none: %v, %v", r, f)
	}
	if s, f := field.Name(d, find(0, "more", "name")); s != "" || f != fault(12, 10) {
		t.Errorf("name: %q, %v", s, f)
	}
	if f := field.Known(d, find(0, "more"), "on", "off", "name"); f != fault(5, 9) {
		t.Errorf("more: %v", f)
	}
	if f := field.Need(d, find(0, "more"), api.NList); f != fault(11, 7) {
		t.Errorf("more: %v", f)
	}
	if f := field.Known(d, 0, "near", "more"); f != fault(5, 3) {
		t.Errorf("the root: %v", f)
	}
}

// checkQuoted is P14.3: what is a number, quoted is a text; what is a text quoted or not, is the same one.
func checkQuoted(t *testing.T, s string) (reads int) {
	t.Helper()
	plain, inQuotes := form(s, false), form(s, true)
	checkTexts(t, plain, 0, math.MinInt, math.MaxInt)
	checkTexts(t, inQuotes, 0, math.MinInt, math.MaxInt)
	if len(s) > 200 {
		return 0
	}
	want := []api.Fault{fault(13, 7), fault(14, 7), fault(15, 7)}
	if got := faults(inQuotes, 0)[:3]; !slices.Equal(got, want) {
		t.Fatalf("%q quoted: %v", s, got)
	}
	for _, f := range faults(plain, 0)[:3] {
		if f.Kind == 0 {
			reads++
		}
	}
	if show.Check(plain) == api.OK && !slices.Equal(faults(plain, 0)[3:], faults(inQuotes, 0)[3:]) {
		t.Fatalf("%q: %v, quoted %v", s, faults(plain, 0), faults(inQuotes, 0))
	}
	return reads
}

// P14.3: all short texts of the signs that matter.
func TestShort(t *testing.T) {
	const signs = "0129.-+e "
	reads := 0
	var grow func(s string, left int)
	grow = func(s string, left int) {
		reads += checkQuoted(t, s)
		if left > 0 {
			for _, sign := range []byte(signs) {
				grow(s+string(sign), left-1)
			}
		}
	}
	grow("", 5)
	if reads < 500 {
		t.Errorf("%d were read", reads)
	}
}

// made is a text that is nearly a number, a ratio, a bool, a name.
func made(r *rand.Rand) string {
	digits := func(most int) string {
		b := make([]byte, r.Intn(most+1))
		for i := range b {
			b[i] = "0123456789"[r.Intn(10)]
		}
		return string(b)
	}
	var s string
	switch r.Intn(7) {
	case 0:
		s = digits(20)
	case 1:
		s = digits(1) + "." + digits(7)
	case 2:
		s = "0." + digits(6)
	case 3:
		s = []string{"true", "false", "nan", "inf", "-inf", "-0", "1.000000", "1"}[r.Intn(8)]
	case 4:
		s = strconv.Itoa(maxTime + r.Intn(5) - 2)
	case 5:
		s = strings.Repeat([]string{"a", "1", "é", " ", "\x00"}[r.Intn(5)], r.Intn(210))
	case 6:
		b := make([]byte, r.Intn(8))
		r.Read(b)
		s = string(b)
	}
	if r.Intn(4) == 0 {
		s = "-" + s
	}
	if r.Intn(4) == 0 && s != "" {
		at := r.Intn(len(s))
		s = s[:at] + string("0.- x\""[r.Intn(6)]) + s[at+r.Intn(2):]
	}
	return s
}

// P14.3: made-up texts.
func TestMade(t *testing.T) {
	r := rand.New(rand.NewSource(14))
	reads := 0
	for range 60000 {
		reads += checkQuoted(t, made(r))
	}
	if reads < 5000 {
		t.Errorf("%d were read", reads)
	}
}

// grown puts a block of made-up nodes behind those of d, and answers its number.
func grown(r *rand.Rand, d *api.Doc, depth int) int {
	at := len(d.Nodes)
	d.Nodes = append(d.Nodes, api.Node{Kind: 1, Line: r.Intn(99) - 9, Text: made(r), Quoted: r.Intn(2) == 0})
	if s := d.Nodes[at]; show.Check(of(s)) != api.OK {
		d.Nodes[at] = text(s.Line, []string{"0", "1", "true", "x"}[r.Intn(4)])
	}
	if depth == 1 || r.Intn(4) == 0 {
		return at
	}
	d.Nodes[at] = api.Node{Kind: 2 + r.Intn(2), Line: d.Nodes[at].Line}
	for i := range 1 + r.Intn(4) {
		kid := grown(r, d, depth-1)
		d.Nodes[at].Kids = append(d.Nodes[at].Kids, kid)
		if d.Nodes[at].Kind == 3 {
			d.Nodes[at].Keys = append(d.Nodes[at].Keys, "abcd"[i:i+1+r.Intn(4-i)])
		}
	}
	return at
}

// spoil turns one thing of a node.
func spoil(r *rand.Rand, d *api.Doc) {
	n := &d.Nodes[r.Intn(len(d.Nodes))]
	switch r.Intn(7) {
	case 0:
		n.Kind = r.Intn(6) - 1
	case 1:
		n.Text = made(r)
	case 2:
		n.Quoted = !n.Quoted
	case 3:
		n.Keys = append(n.Keys, "a")
	case 4:
		n.Kids = append(n.Kids, r.Intn(len(d.Nodes)+2)-1)
	case 5:
		if len(n.Kids) > 0 {
			n.Kids[r.Intn(len(n.Kids))] += r.Intn(5) - 2
		}
	case 6:
		d.Nodes = append(d.Nodes, text(1, "a"))
	}
}

// copied is a document that has no memory in common with d, and no room to spare.
func copied(d api.Doc) api.Doc {
	var c api.Doc
	for _, n := range d.Nodes {
		n.Keys, n.Kids = slices.Clone(n.Keys), slices.Clone(n.Kids)
		c.Nodes = append(c.Nodes, n)
	}
	return c
}

// All promises upon made-up documents, spoilt ones too, and rule 3: what is handed in stays as it is.
func TestWild(t *testing.T) {
	r := rand.New(rand.NewSource(1414))
	took := 0
	for range 4000 {
		var d api.Doc
		grown(r, &d, 1+r.Intn(5))
		if r.Intn(3) == 0 {
			spoil(r, &d)
		}
		if show.Check(d) == api.OK {
			took++
		}
		before := copied(d)
		keys := []string{"a", "ab", "abc", "abcd", "b", "bc", "bcd", "c", "cd", "d", "", "x"}
		r.Shuffle(len(keys), func(i, j int) { keys[i], keys[j] = keys[j], keys[i] })
		keys = keys[:r.Intn(len(keys)+1)]
		all := slices.Clone(keys[:cap(keys)])
		// Each call looks at all nodes: of many nodes it is some.
		for range min(len(d.Nodes)+4, 20) {
			n := r.Intn(len(d.Nodes)+4) - 2
			checkTexts(t, d, n, r.Intn(3)-1, r.Intn(30))
			checkMaps(t, d, n, keys)
		}
		if !reflect.DeepEqual(d, before) || !slices.Equal(keys[:cap(keys)], all) {
			t.Fatalf("%s, %q became %s, %q", briefly(before), all, briefly(d), keys[:cap(keys)])
		}
	}
	if took < 2000 || took > 3900 {
		t.Errorf("%d of 4000 may be", took)
	}
}

// Rule 3: the room to spare of what is handed in stays as it is, too.
func TestSpareRoom(t *testing.T) {
	const far = -77
	nodes := append(make([]api.Node, 0, 9), sample().Nodes...)
	kids := append(make([]int, 0, 9), nodes[0].Kids...)
	keys := append(make([]string, 0, 9), nodes[0].Keys...)
	known := append(make([]string, 0, 9), "c", "a")
	for i := range 9 {
		if i >= len(nodes) {
			nodes[:9][i].Line = far
		}
		if i >= len(kids) {
			kids[:9][i], keys[:9][i] = far, "far"
		}
		if i >= len(known) {
			known[:9][i] = "far"
		}
	}
	nodes[0].Kids, nodes[0].Keys = kids, keys
	d := api.Doc{Nodes: nodes}
	for n := -1; n < 8; n++ {
		checkTexts(t, d, n, 0, 9)
		checkMaps(t, d, n, known)
	}
	for i := range 9 {
		if i >= len(nodes) && nodes[:9][i].Line != far || i >= len(kids) && (kids[:9][i] != far || keys[:9][i] != "far") || i >= len(known) && known[:9][i] != "far" {
			t.Errorf("the room to spare at %d is another one", i)
		}
	}
	if !slices.Equal(known, []string{"c", "a"}) || !reflect.DeepEqual(d, sample()) {
		t.Errorf("%q, %s", known, briefly(d))
	}
}

// Rule 4: a document that its owner changes between two calls is looked at anew.
func TestNotKept(t *testing.T) {
	d := sample()
	for range 3 {
		if f := field.Known(d, 0, "a", "b", "c"); f.Kind != 0 {
			t.Fatal(f)
		}
		d.Nodes[0].Keys[1] = "d"
		if f := field.Known(d, 0, "a", "b", "c"); f != fault(5, 7) {
			t.Errorf("another key: %v", f)
		}
		if kid, ok := field.Find(d, 0, "d"); kid != 2 || !ok {
			t.Errorf("another key: %d, %v", kid, ok)
		}
		d.Nodes[0].Keys[1], d.Nodes[5].Text = "b", strings.Repeat("x", 201)
		checkNone(t, d, 1)
		d.Nodes[5].Text = "x"
	}
}

func FuzzTexts(f *testing.F) {
	for _, s := range []string{"", "0", "007", "0.8", "-0", "nan", "true", "a b", strings.Repeat("x", 129)} {
		f.Add(s, 0, 9)
	}
	f.Fuzz(func(t *testing.T, s string, least, most int) {
		checkQuoted(t, s)
		checkTexts(t, form(s, false), 0, least, most)
		checkTexts(t, form(s, true), 0, least, most)
	})
}
