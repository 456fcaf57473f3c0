package show_test

import (
	"bytes"
	"fmt"
	"math"
	"math/rand"
	"reflect"
	"regexp"
	"slices"
	"strings"
	"testing"

	"turncock/api"
	"turncock/doc"
	"turncock/show"
)

func text(s string) api.Node   { return api.Node{Kind: 1, Text: s} }
func quoted(s string) api.Node { return api.Node{Kind: 1, Text: s, Quoted: true} }

func list(kids ...int) api.Node { return api.Node{Kind: 2, Kids: kids} }

// pairs is a map of keys, each with the kid behind it.
func pairs(l ...any) api.Node {
	n := api.Node{Kind: 3}
	for i := 0; i < len(l); i += 2 {
		n.Keys = append(n.Keys, l[i].(string))
		n.Kids = append(n.Kids, l[i+1].(int))
	}
	return n
}

func of(l ...api.Node) api.Doc { return api.Doc{Nodes: l} }

func briefly(d api.Doc) string { return fmt.Sprintf("%.900q", fmt.Sprint(d)) }

// The model of Check (P13.1): what may stand in a node is told by expressions of a whole text, what the numbers are by the sizes
// of blocks, from the last one back.

var (
	keyText = regexp.MustCompile(`^[A-Za-z0-9_.-]{1,64}$`)
	// plainText: a word that is no sign of anything else, and behind it, behind blanks, words and quoted texts that end.
	plainText = regexp.MustCompile(`(?s)^[^][{}&*!|>%@,?\x60 '"#][^ ]*(?: +(?:[^ '"#][^ ]*|'(?:''|[^'])*'(?:[^ '][^ ]*)?|"(?:\\.|[^"\\])*"[^ ]*))*$`)
	noText    = regexp.MustCompile(`^(?:[A-Za-z0-9_.-]+:(?: |$)|-(?: |$))`)
)

func mayBePlain(s string) bool {
	for _, sign := range []byte(s) {
		if sign < ' ' || sign == 0x7f {
			return false
		}
	}
	return plainText.MatchString(s) && !noText.MatchString(s)
}

func mayBeNode(n api.Node) bool {
	if n.Kind == 1 {
		return len(n.Keys)+len(n.Kids) == 0 && len(n.Text) <= 200 && (n.Quoted || mayBePlain(n.Text))
	}
	if n.Kind < 1 || n.Kind > 3 || n.Quoted || n.Text != "" || len(n.Kids) == 0 {
		return false
	}
	if n.Kind == 2 {
		return len(n.Keys) == 0
	}
	for i, key := range n.Keys {
		if !keyText.MatchString(key) || slices.Index(n.Keys, key) != i {
			return false
		}
	}
	return len(n.Keys) == len(n.Kids)
}

func mayBe(d api.Doc) bool {
	count := len(d.Nodes)
	if count < 1 || count > 2000 {
		return false
	}
	size, depth := make([]int, count), make([]int, count)
	for i := count - 1; i >= 0; i-- {
		size[i] = 1
		for _, kid := range d.Nodes[i].Kids {
			if kid != i+size[i] || kid >= count {
				return false
			}
			size[i] += size[kid]
		}
	}
	if size[0] != count {
		return false
	}
	for i, n := range d.Nodes {
		if depth[i] >= 24 || !mayBeNode(n) {
			return false
		}
		for _, kid := range n.Kids {
			depth[kid] = depth[i] + 1
		}
	}
	return true
}

// check holds Check against the model, and Text's code against Check's.
func check(t *testing.T, d api.Doc) bool {
	t.Helper()
	want := api.ErrArg
	if mayBe(d) {
		want = api.OK
	}
	if got := show.Check(d); got != want {
		t.Fatalf("Check(%s) = %d, want %d", briefly(d), got, want)
	}
	return want == api.OK
}

// The model of Text (P13.2): the lines of each block, which what holds it moves to the right.

func escaped(s string) string {
	var b strings.Builder
	for _, sign := range []byte(s) {
		switch {
		case sign == '"':
			b.WriteString("\\\"")
		case sign == '\\':
			b.WriteString("\\\\")
		case sign == 10:
			b.WriteString("\\n")
		case sign == 9:
			b.WriteString("\\t")
		case sign < 32 || sign == 127:
			fmt.Fprintf(&b, "\\x%02x", sign)
		default:
			b.WriteByte(sign)
		}
	}
	return "\"" + b.String() + "\""
}

func moved(l []string) []string {
	var to []string
	for _, row := range l {
		to = append(to, "  "+row)
	}
	return to
}

func rows(d api.Doc, at int) []string {
	n := d.Nodes[at]
	if n.Kind == 1 {
		if n.Quoted {
			return []string{escaped(n.Text)}
		}
		return []string{n.Text}
	}
	var l []string
	for i, kid := range n.Kids {
		under := moved(rows(d, kid))
		switch {
		case n.Kind == 2:
			under[0] = "-" + under[0][1:]
		case d.Nodes[kid].Kind == 1:
			under[0] = n.Keys[i] + ":" + under[0][1:]
		default:
			under = append([]string{n.Keys[i] + ":"}, under...)
		}
		l = append(l, under...)
	}
	return l
}

// checkText holds Text against the model, and tells what it answers.
func checkText(t *testing.T, d api.Doc) (string, api.Errno) {
	t.Helper()
	want, code := "", api.ErrArg
	if check(t, d) {
		want, code = strings.Join(rows(d, 0), "\n")+"\n", api.OK
		if len(want) > 60000 {
			want, code = "", api.ErrBig
		}
	}
	b, e := show.Text(d)
	if string(b) != want || e != code {
		t.Fatalf("Text(%s) = %.900q, %d, want %.900q, %d", briefly(d), b, e, want, code)
	}
	return want, code
}

// checkBack is P13.3: what Text tells is read as Same.
func checkBack(t *testing.T, d api.Doc) string {
	t.Helper()
	s, code := checkText(t, d)
	if code != api.OK {
		return s
	}
	back, fault := doc.Parse([]byte(s))
	if len(s) > 16384 {
		if fault != (api.Fault{Kind: api.FBig, Line: 1}) {
			t.Fatalf("Parse of %d bytes: %v", len(s), fault)
		}
		return s
	}
	if fault.Kind != 0 || !show.Same(d, back) || !show.Same(back, d) {
		t.Fatalf("Text(%s) = %.900q, which is read as %s, %v", briefly(d), s, briefly(back), fault)
	}
	if again, _ := show.Text(back); string(again) != s {
		t.Fatalf("Text(%s) = %.900q, and what is read of it has the text %.900q", briefly(d), s, again)
	}
	return s
}

// P13.1: each edge of the nodes' number, of their kinds, of their depth.
func TestCheckEdges(t *testing.T) {
	long := strings.Repeat
	for i, c := range []struct {
		d  api.Doc
		ok bool
	}{
		{of(), false},
		{api.Doc{Nodes: []api.Node{}}, false},
		{of(api.Node{}), false},
		{of(api.Node{Kind: 4}), false},
		{of(api.Node{Kind: -1}), false},
		{of(api.Node{Kind: 4, Text: "a"}), false},
		{of(api.Node{Kind: 0, Kids: []int{1}}, text("a")), false},
		{of(api.Node{Kind: 4, Kids: []int{1}}, text("a")), false},
		{of(text("a")), true},
		{of(list()), false},
		{of(pairs()), false},
		{of(api.Node{Kind: 1, Line: math.MinInt, Text: "a"}), true},
		{of(list(1), api.Node{Kind: 0, Text: "a"}), false},
		{of(list(1), api.Node{Kind: math.MaxInt, Text: "a"}), false},

		{of(list(1), text("a")), true},
		{of(list(1, 2, 3), text("a"), text("b"), text("a")), true},
		{of(text("a"), list(0)), false},
		{of(list(1, 0), text("a")), false},
		{of(list(0)), false},
		{of(list(0, 1), text("a")), false},
		{of(list(1)), false},
		{of(list(2), text("a")), false},
		{of(list(2), text("a"), text("b")), false},
		{of(list(2, 1), text("a"), text("b")), false},
		{of(list(1, 1), text("a")), false},
		{of(list(1, 1), text("a"), text("b")), false},
		{of(list(1, 3), text("a"), text("b")), false},
		{of(list(1, 3), text("a"), text("b"), text("c")), false},
		{of(list(1, 2, 2), text("a"), text("b")), false},
		{of(list(-1), text("a")), false},
		{of(list(1, -1), text("a")), false},
		{of(list(math.MinInt)), false},
		{of(list(math.MaxInt)), false},
		{of(list(1, math.MaxInt), text("a")), false},
		{of(list(1), text("a"), text("b")), false},
		{of(text("a"), text("b")), false},
		{of(list(1), list(0)), false},
		{of(list(1), list(1)), false},
		{of(list(1), list(2), list(0)), false},
		{of(list(1), list(2), list(1)), false},
		{of(list(1, 3), list(2), text("a"), text("b")), true},
		{of(list(1, 2), list(2), text("a")), false},
		{of(list(1, 2), list(3), text("a"), text("b")), false},
		{of(list(1, 4), list(2), text("a"), text("b")), false},
		{of(list(1, 3, 4), list(2), text("a"), list(2), text("b")), false},
		{of(list(1, 3), list(2), text("a"), list(4), text("b")), true},
		{of(list(1, 3), list(2), text("a"), list(4), text("b"), text("c")), false},
		{of(pairs("a", 1, "b", 3), pairs("a", 2), text("a"), text("b")), true},
		{of(pairs("a", 1, "b", 2), pairs("a", 2), text("a")), false},

		{of(api.Node{Kind: 1, Text: "a", Keys: []string{"a"}}), false},
		{of(api.Node{Kind: 1, Text: "a", Keys: []string{""}}), false},
		{of(api.Node{Kind: 1, Text: "a", Kids: []int{1}}, text("a")), false},
		{of(api.Node{Kind: 1, Text: "a", Kids: []int{1}}), false},
		{of(api.Node{Kind: 1, Text: "a", Kids: []int{0}}), false},
		{of(api.Node{Kind: 1, Text: "a", Quoted: true, Kids: []int{1}}, text("a")), false},
		{of(api.Node{Kind: 1, Text: "a", Quoted: true, Keys: []string{"a"}}), false},
		{of(api.Node{Kind: 1, Text: "a", Keys: []string{"a"}, Kids: []int{1}}, text("a")), false},
		{of(api.Node{Kind: 1, Text: "a", Keys: []string{}, Kids: []int{}}), true},
		{of(text(long("a", 200))), true},
		{of(text(long("a", 201))), false},
		{of(quoted(long("a", 200))), true},
		{of(quoted(long("a", 201))), false},
		{of(quoted(long("\x00", 200))), true},
		{of(text(long("é", 100))), true},
		{of(text(long("é", 100) + "a")), false},
		{of(quoted("")), true},
		{of(text("")), false},

		{of(api.Node{Kind: 2, Kids: []int{1}, Keys: []string{"a"}}, text("a")), false},
		{of(api.Node{Kind: 2, Kids: []int{1}, Keys: []string{}}, text("a")), true},
		{of(api.Node{Kind: 2, Kids: []int{1}, Text: "a"}, text("a")), false},
		{of(api.Node{Kind: 2, Kids: []int{1}, Quoted: true}, text("a")), false},
		{of(api.Node{Kind: 2, Keys: []string{"a"}}), false},
		{of(list(1), list()), false},
		{of(list(1), pairs()), false},

		{of(pairs("a", 1), text("a")), true},
		{of(api.Node{Kind: 3, Kids: []int{1}}, text("a")), false},
		{of(api.Node{Kind: 3, Keys: []string{"a"}}), false},
		{of(api.Node{Kind: 3, Kids: []int{1, 2}, Keys: []string{"a"}}, text("a"), text("b")), false},
		{of(api.Node{Kind: 3, Kids: []int{1}, Keys: []string{"a", "b"}}, text("a")), false},
		{of(api.Node{Kind: 3, Kids: []int{1}, Keys: []string{"a"}, Text: "a"}, text("a")), false},
		{of(api.Node{Kind: 3, Kids: []int{1}, Keys: []string{"a"}, Quoted: true}, text("a")), false},
		{of(pairs("", 1), text("a")), false},
		{of(pairs("a", 1, "", 2), text("a"), text("a")), false},
		{of(pairs(long("k", 64), 1), text("a")), true},
		{of(pairs(long("k", 65), 1), text("a")), false},
		{of(pairs("a", 1, long("k", 65), 2), text("a"), text("a")), false},
		{of(pairs("a", 1, "a", 2), text("a"), text("b")), false},
		{of(pairs("a", 1, "b", 2, "c", 3, "a", 4), text("a"), text("a"), text("a"), text("a")), false},
		{of(pairs("a", 1, "b", 2, "b", 3), text("a"), text("a"), text("a")), false},
		{of(pairs("a", 1, "b", 2, "A", 3), text("a"), text("a"), text("a")), true},
		{of(pairs("a", 1), pairs("a", 2), text("a")), true},
		{of(pairs("a", 1, "b", 3), pairs("b", 2), text("a"), text("b")), true},
		{of(list(1, 3), pairs("a", 2), text("a"), pairs("a", 4), text("b")), true},
		{of(list(1), pairs("a", 2, "a", 3), text("a"), text("b")), false},
		{of(pairs("-", 1, "--", 2, ".", 3, "_", 4, "0", 5), text("a"), text("a"), text("a"), text("a"), text("a")), true},
	} {
		if got := show.Check(c.d); (got == api.OK) != c.ok {
			t.Errorf("%d: Check(%s) = %d, want OK: %v", i, briefly(c.d), got, c.ok)
		}
		checkBack(t, c.d)
	}
}

// P13.1: MaxNodes nodes and one more, as texts of a list, of a map, of lists in a list.
func TestCheckMany(t *testing.T) {
	for _, count := range []int{1, 2, 1998, 1999, 2000, 2001, 2002, 70000} {
		for _, kind := range []int{2, 3} {
			d := of(api.Node{Kind: kind})
			for i := 1; i < count; i++ {
				d.Nodes[0].Kids = append(d.Nodes[0].Kids, i)
				if kind == 3 {
					d.Nodes[0].Keys = append(d.Nodes[0].Keys, fmt.Sprint("k", i))
				}
				d.Nodes = append(d.Nodes, text("a"))
			}
			if ok := check(t, d); ok != (count >= 2 && count <= 2000) {
				t.Errorf("%d nodes in one of kind %d: %v", count, kind, ok)
			}
			checkText(t, d)
		}
		d := of(list())
		for len(d.Nodes)+2 <= count {
			d.Nodes[0].Kids = append(d.Nodes[0].Kids, len(d.Nodes))
			d.Nodes = append(d.Nodes, list(len(d.Nodes)+1), quoted(""))
		}
		if ok := check(t, d); ok != (len(d.Nodes) > 1 && len(d.Nodes) <= 2000) {
			t.Errorf("%d nodes, two by two: %v", len(d.Nodes), ok)
		}
		checkBack(t, d)
	}
}

// steep is a document of so many levels, of one block each; kind tells each one's kind but the last one's.
func steep(depth int, kind func(i int) int) api.Doc {
	var d api.Doc
	for i := 1; i < depth; i++ {
		if kind(i) == 2 {
			d.Nodes = append(d.Nodes, list(i))
		} else {
			d.Nodes = append(d.Nodes, pairs("k", i))
		}
	}
	d.Nodes = append(d.Nodes, text("a"))
	return d
}

// P13.1, P13.2: MaxDepth levels and one more, by lists, by maps and by both, as the first kid and as a further one.
func TestDepth(t *testing.T) {
	for depth := 1; depth <= 40; depth++ {
		for _, kind := range []func(i int) int{
			func(int) int { return 2 },
			func(int) int { return 3 },
			func(i int) int { return 2 + i%2 },
			func(i int) int { return 3 - i%2 },
			func(i int) int { return 2 + i/2%2 },
		} {
			d := steep(depth, kind)
			if ok := check(t, d); ok != (depth <= 24) {
				t.Errorf("%d levels: %v", depth, ok)
			}
			checkBack(t, d)
			under := steep(depth, kind).Nodes
			for i := range under {
				for j := range under[i].Kids {
					under[i].Kids[j] += 2
				}
			}
			further := of(append([]api.Node{list(1, 2), text("a")}, under...)...)
			if ok := check(t, further); ok != (depth <= 23) {
				t.Errorf("%d levels behind another kid: %v", depth, ok)
			}
			checkBack(t, further)
			// What comes behind the deep one is not deep itself.
			behind := of(append(slices.Clone(further.Nodes), text("b"))...)
			behind.Nodes[0] = list(1, 2, len(further.Nodes))
			if ok := check(t, behind); ok != (depth <= 23) {
				t.Errorf("%d levels ahead of another kid: %v", depth, ok)
			}
			checkBack(t, behind)
		}
	}
	for _, depth := range []int{1999, 2000, 2001, 300000} {
		if check(t, steep(depth, func(int) int { return 2 })) {
			t.Errorf("%d levels may be", depth)
		}
	}
}

// P13.1: texts that are not quoted, at each edge that 10 and 11 name.
func TestPlain(t *testing.T) {
	for s, ok := range map[string]bool{
		"a": true, "a b": true, "a  b": true, " a": false, "a ": false, " ": false, "  ": false,
		"#": false, "#a": false, "a#": true, "a#b": true, "a #": false, "a # b": false, "a #b": false, "a  #": false, "a# b": true,
		"a '#": false, "a '#'": true, "a ' #'": true, "a ' # '": true, "a ' #' #": false, "a '' #": false, "a 'b'#": true, "a 'b'# c": true,
		"'": false, "''": false, "'a'": false, "'a": false, "'a' b": false, "a'": true, "a'b": true, "a''": true, "a 'b": false, "a '": false, "a ''": true,
		"a 'b'": true, "a '''": false, "a ''''": true, "a 'b''": false, "a 'b'''": true, "a 'b' 'c": false, "a 'b' 'c'": true, "a 'b'c 'd'": true, "a 'b'c'": true,
		"a 'b' ": false, "a 'b ": false, "a 'b '": true,
		"\"": false, "\"\"": false, "\"a\"": false, "\"a": false, "\"a\" b": false, "a\"": true, "a\"b": true, "a \"b": false, "a \"": false, "a \"\"": true,
		"a \"b\"": true, "a \"\"\"": true, "a \"\"\"\"": true, "a \"\\\"": false, "a \"\\\"\"": true, "a \"\\\\\"": true, "a \"\\": false, "a \"\\q\"": true, "a \"b\"c\"": true,
		"a '\"'": true, "a \"'\"": true, "a '\"": false, "a \"'": false, "a '\\'": true, "a '\\''": false,
		"-": false, "- ": false, "- a": false, "-a": true, "--": true, "-- a": true, "-:": false, "-: a": false, "a -": true, "a - b": true, "--- a": true,
		":": true, ": a": true, ":a": true, "a:": false, "a: ": false, "a: b": false, "a:b": true, "a :": true, "a : b": true, "a::": true, "a:: b": true, "a b:": true, "a b: c": true,
		"é: b": true, "é:": true, "a/b:": true, "a/b: c": true, "_:": false, ".:": false, "0: a": false, "a:b:": true, "a:b: c": true, "A-b.c_9:": false, "1:2": true,
		"[": false, "]": false, "{": false, "}": false, "&": false, "*": false, "!": false, "|": false, ">": false, "%": false, "@": false, ",": false, "?": false, "`": false,
		"[a]": false, "a[": true, "a]": true, "a {": true, "a }": true, "a &": true, "a *": true, "a !": true, "a |": true, "a >": true, "a %": true, "a @": true, "a ,": true, "a ?": true, "a `": true,
		"(": true, "+1": true, "<": true, "=": true, "~": true, "$": true, ";": true, "/": true, "\\": true, "^": true, "\\n": true, "a\\": true,
		"\x80": true, "\xff": true, "é": true, "\xe9 \xe9": true, "a\u00a0": true, "\u00a0": true, "\u2028": true,
		"a\tb": false, "a\n": false, "\n": false, "\x00": false, "a\rb": false, "\x7f": false, "a\x1fb": false, "\t": false, "a \"\t\"": false, "a '\n'": false,
	} {
		if got := show.Check(of(text(s))) == api.OK; got != ok {
			t.Errorf("Check of the text %q that is not quoted: %v, want %v", s, got, ok)
		}
		for _, d := range []api.Doc{
			of(text(s)), of(quoted(s)), of(list(1), text(s)), of(pairs("k", 1), text(s)), of(pairs("k", 1), quoted(s)),
			of(list(1, 2, 3), text(s), quoted(s), text(s)), of(pairs("k", 1, "l", 2), text("a"), text(s)), of(pairs(s, 1), text("a")),
		} {
			checkBack(t, d)
		}
	}
}

// P13.1: each byte alone, first, in the middle, last, behind a blank and ahead of one; in a text, quoted and not, and in a key.
func TestEachByte(t *testing.T) {
	for sign := range 256 {
		b := string([]byte{byte(sign)})
		for _, s := range []string{b, b + "b", "a" + b + "b", "a" + b, "a " + b, "a " + b + "b", "a" + b + " b", b + " b", b + b, "a " + b + b, "a " + b + "c" + b, "a " + b + "c" + b + b, strings.Repeat(b, 200), "a: " + b, "a:" + b, "- " + b, "-" + b} {
			d := of(text(s))
			ok := check(t, d)
			if wrong := sign < 32 || sign == 127; wrong && ok {
				t.Errorf("%q may stand without quotes", s)
			}
			checkBack(t, d)
			checkBack(t, of(quoted(s)))
			checkBack(t, of(pairs("k", 1, "l", 2), quoted(s), text(s)))
			checkBack(t, of(list(1), list(2, 3), text(s), quoted(s)))
			ok = check(t, of(pairs(s, 1), text("a")))
			if want := keyText.MatchString(s); want != ok {
				t.Errorf("%q as a key: %v", s, ok)
			}
			checkBack(t, of(pairs("k", 1, s, 2), text("a"), quoted("")))
			checkBack(t, of(pairs(s, 1), pairs(s, 2), text("a")))
		}
	}
}

// P13.1: all short texts of the signs that matter.
func TestAllShortTexts(t *testing.T) {
	const signs = " #'\"\\-:a["
	var all func(s string, left int)
	all = func(s string, left int) {
		want := mayBePlain(s)
		if got := show.Check(of(text(s))) == api.OK; got != want {
			t.Fatalf("Check of the text %q that is not quoted: %v, want %v", s, got, want)
		}
		if want {
			checkBack(t, of(pairs("k", 1), list(2, 3), text(s), quoted(s)))
		}
		if left > 0 {
			for i := range len(signs) {
				all(s+signs[i:i+1], left-1)
			}
		}
	}
	all("", 5)
}

// P13.1: all numbers of kids of up to four nodes, from below 0 to beyond the last one.
func TestAllNumbers(t *testing.T) {
	for count := 1; count <= 4; count++ {
		most := min(count-1, 3)
		var kids [][]int
		var fill func(l []int)
		fill = func(l []int) {
			kids = append(kids, slices.Clone(l))
			if len(l) < most {
				for kid := -1; kid <= count; kid++ {
					fill(append(l, kid))
				}
			}
		}
		fill(nil)
		if count == 4 { // of four the wild ones are seen at three
			kids = slices.DeleteFunc(kids, func(l []int) bool { return slices.Contains(l, -1) || slices.Contains(l, 4) || len(l) == 3 && l[0] != 1 })
		}
		d := api.Doc{Nodes: make([]api.Node, count)}
		var each func(i int)
		each = func(i int) {
			if i == count {
				check(t, d)
				return
			}
			for _, l := range kids {
				if d.Nodes[i] = list(l...); len(l) == 0 {
					d.Nodes[i] = text("a")
				}
				each(i + 1)
			}
		}
		each(0)
	}
}

// P13.1: all that one node of each kind may have, over no kids, one and two.
func TestAllFields(t *testing.T) {
	keys := []string{"", "a", "b", "a b", "a:", "-", strings.Repeat("k", 64), strings.Repeat("k", 65)}
	var lists [][]string
	lists = append(lists, nil)
	for _, k := range keys {
		lists = append(lists, []string{k})
		for _, l := range keys {
			lists = append(lists, []string{k, l}, []string{k, "z", l})
		}
	}
	mayBeSo := 0
	for kind := -1; kind <= 5; kind++ {
		for _, s := range []string{"", "a", " ", "-", "a: b", "\"\"", "'a'", "\n"} {
			for _, q := range []bool{false, true} {
				for _, l := range lists {
					for _, kids := range [][]int{nil, {1}, {1, 2}, {1, 2, 3}} {
						n := api.Node{Kind: kind, Text: s, Quoted: q, Keys: l, Kids: kids}
						if check(t, of(append([]api.Node{n}, slices.Repeat([]api.Node{text("x")}, len(kids))...)...)) {
							mayBeSo++
						}
						d := of(list(1), n)
						for i := range kids {
							d.Nodes = append(d.Nodes, quoted("x"))
							d.Nodes[1].Kids = slices.Clone(kids)
							for j := range i + 1 {
								d.Nodes[1].Kids[j] = j + 2
							}
						}
						check(t, d)
					}
				}
			}
		}
	}
	if mayBeSo == 0 {
		t.Error("none may be")
	}
}

// P13.1: Same of documents that differ in one thing each, and in Lines alone.
func TestSame(t *testing.T) {
	base := func() api.Doc {
		return of(pairs("a", 1, "b", 3), list(2), text("t"), quoted("q"))
	}
	if !show.Same(base(), base()) || !show.Same(of(), of()) || !show.Same(api.Doc{}, api.Doc{Nodes: []api.Node{}}) {
		t.Error("a document is not as itself")
	}
	for i, turn := range []func(d *api.Doc){
		func(d *api.Doc) { d.Nodes[0].Line = 1 },
		func(d *api.Doc) { d.Nodes[3].Line = -1 },
		func(d *api.Doc) {
			for i := range d.Nodes {
				d.Nodes[i].Line = math.MaxInt - i
			}
		},
		func(d *api.Doc) { d.Nodes[2].Keys, d.Nodes[2].Kids = []string{}, []int{} },
		func(d *api.Doc) { d.Nodes[1].Keys = []string{} },
		func(d *api.Doc) { d.Nodes[0].Keys = append(make([]string, 0, 9), d.Nodes[0].Keys...) },
	} {
		d := base()
		turn(&d)
		if !show.Same(d, base()) || !show.Same(base(), d) {
			t.Errorf("%d: %s is not the same as %s", i, briefly(d), briefly(base()))
		}
	}
	turns := []func(d *api.Doc){
		func(d *api.Doc) { d.Nodes = nil },
		func(d *api.Doc) { d.Nodes = d.Nodes[:3] },
		func(d *api.Doc) { d.Nodes = append(d.Nodes, api.Node{}) },
		func(d *api.Doc) { d.Nodes = append(d.Nodes, text("t")) },
		func(d *api.Doc) { d.Nodes = d.Nodes[1:] },
		func(d *api.Doc) { d.Nodes[1], d.Nodes[2] = d.Nodes[2], d.Nodes[1] },
		func(d *api.Doc) { d.Nodes[0].Keys[0] = "b" },
		func(d *api.Doc) { d.Nodes[0].Keys[1] = "a" },
		func(d *api.Doc) { d.Nodes[0].Keys = d.Nodes[0].Keys[:1] },
		func(d *api.Doc) { d.Nodes[0].Keys = append(d.Nodes[0].Keys, "") },
		func(d *api.Doc) { d.Nodes[0].Keys = nil },
		func(d *api.Doc) { d.Nodes[0].Kids = nil },
		func(d *api.Doc) { d.Nodes[0].Kids = d.Nodes[0].Kids[:1] },
		func(d *api.Doc) { d.Nodes[0].Kids[0] = 2 },
		func(d *api.Doc) { d.Nodes[0].Kids[1] = 2 },
		func(d *api.Doc) { d.Nodes[0].Kids = append(d.Nodes[0].Kids, 0) },
		func(d *api.Doc) { d.Nodes[1].Keys = []string{""} },
		func(d *api.Doc) { d.Nodes[2].Kids = []int{0} },
	}
	for at := range 4 {
		turns = append(turns,
			func(d *api.Doc) { d.Nodes[at].Kind++ },
			func(d *api.Doc) { d.Nodes[at].Kind = 0 },
			func(d *api.Doc) { d.Nodes[at].Text += "x" },
			func(d *api.Doc) { d.Nodes[at].Text = "u" },
			func(d *api.Doc) { d.Nodes[at].Quoted = !d.Nodes[at].Quoted },
		)
	}
	docs := []api.Doc{base()}
	for i, turn := range turns {
		d := base()
		turn(&d)
		docs = append(docs, d)
		if show.Same(d, base()) || show.Same(base(), d) {
			t.Errorf("%d: %s is the same as %s", i, briefly(d), briefly(base()))
		}
	}
	// Each against each, those that may not be, too: alike but for Lines, and lists that are nil.
	plain := func(d api.Doc) string {
		var b strings.Builder
		for _, n := range d.Nodes {
			fmt.Fprintf(&b, "%d %q %v %q %d;", n.Kind, n.Text, n.Quoted, n.Keys, n.Kids)
		}
		return b.String()
	}
	for _, a := range docs {
		for _, b := range docs {
			if show.Same(a, b) != (plain(a) == plain(b)) {
				t.Errorf("Same(%s, %s) = %v", briefly(a), briefly(b), show.Same(a, b))
			}
		}
	}
}

// P13.2: the chapter's example, and lists and maps in each other.
func TestTextForms(t *testing.T) {
	for i, c := range []struct {
		d    api.Doc
		text string
	}{
		{of(pairs("a", 1), list(2, 3), text("b"), quoted("c")), "a:\n  - b\n  - \"c\"\n"},
		{of(text("a b")), "a b\n"},
		{of(quoted("")), "\"\"\n"},
		{of(list(1), text("a")), "- a\n"},
		{of(list(1, 2), text("a"), text("b")), "- a\n- b\n"},
		{of(pairs("k", 1, "l", 2), text("a"), quoted("b")), "k: a\nl: \"b\"\n"},
		{of(list(1), list(2), list(3), text("a")), "- - - a\n"},
		{of(list(1, 4), list(2, 3), text("a"), text("b"), list(5, 6), text("c"), text("d")), "- - a\n  - b\n- - c\n  - d\n"},
		{of(list(1, 2), text("a"), list(3, 4), text("b"), text("c")), "- a\n- - b\n  - c\n"},
		{of(list(1), list(2, 5), list(3, 4), text("a"), text("b"), text("c")), "- - - a\n    - b\n  - c\n"},
		{of(pairs("k", 1), pairs("l", 2), pairs("m", 3), text("a")), "k:\n  l:\n    m: a\n"},
		{of(pairs("k", 1, "n", 4), pairs("l", 2, "m", 3), text("a"), text("b"), pairs("o", 5, "p", 6), text("c"), text("d")), "k:\n  l: a\n  m: b\nn:\n  o: c\n  p: d\n"},
		{of(pairs("k", 1, "l", 2), text("a"), pairs("m", 3, "n", 4), text("b"), text("c")), "k: a\nl:\n  m: b\n  n: c\n"},
		{of(list(1, 4), pairs("k", 2, "l", 3), text("a"), text("b"), pairs("m", 5, "n", 6), text("c"), text("d")), "- k: a\n  l: b\n- m: c\n  n: d\n"},
		{of(list(1), pairs("k", 2, "m", 5), pairs("l", 3, "n", 4), text("a"), text("b"), text("c")), "- k:\n    l: a\n    n: b\n  m: c\n"},
		{of(list(1), list(2), pairs("k", 3, "l", 5), list(4), text("a"), text("b")), "- - k:\n      - a\n    l: b\n"},
		{of(pairs("k", 1, "l", 4), list(2, 3), text("a"), text("b"), list(5, 6), text("c"), text("d")), "k:\n  - a\n  - b\nl:\n  - c\n  - d\n"},
		{of(pairs("k", 1), list(2, 4), list(3), text("a"), pairs("l", 5, "m", 6), text("b"), list(7), text("c")), "k:\n  - - a\n  - l: b\n    m:\n      - c\n"},
	} {
		if got := checkBack(t, c.d); got != c.text {
			t.Errorf("%d: Text(%s) = %q, want %q", i, briefly(c.d), got, c.text)
		}
	}
}

// P13.2: each byte in a quoted text, and each pair that escapes are made of.
func TestEscapes(t *testing.T) {
	for sign := range 256 {
		b := string([]byte{byte(sign)})
		want := b
		switch {
		case sign == 9:
			want = `\t`
		case sign == 10:
			want = `\n`
		case sign < 32, sign == 127:
			want = fmt.Sprintf(`\x%02x`, sign)
		case sign == 34, sign == 92:
			want = `\` + b
		}
		if got := checkBack(t, of(quoted(b))); got != `"`+want+"\"\n" {
			t.Errorf("byte %d quoted: %q", sign, got)
		}
		if got := checkBack(t, of(quoted(b+"a"+b))); got != `"`+want+"a"+want+"\"\n" {
			t.Errorf("byte %d twice, quoted: %q", sign, got)
		}
		for other := range 256 {
			checkBack(t, of(quoted(string([]byte{byte(sign), byte(other)}))))
		}
	}
	for _, s := range []string{`\`, `\\`, `\n`, `\"`, `\x41`, `\x`, `"`, `""`, "'", "''", "# a", " #", "a # b", " ", "  ", "a: b", "- a", "é", "\xc3"} {
		checkBack(t, of(quoted(s)))
		checkBack(t, of(list(1, 2), quoted(s), pairs("k", 3), quoted(s+s)))
	}
}

// row is a list of so many quoted texts, whose text has size bytes in all; the last text has what is left.
func row(t *testing.T, size, count int) api.Doc {
	t.Helper()
	d := of(list())
	for i := range count {
		each := size / (count - i)
		size -= each
		d.Nodes[0].Kids = append(d.Nodes[0].Kids, i+1)
		d.Nodes = append(d.Nodes, quoted(strings.Repeat("x", each-5)))
	}
	return d
}

// P13.2: ErrArg ahead of ErrBig; MaxReport bytes and one more.
func TestTextBig(t *testing.T) {
	for _, size := range []int{59998, 59999, 60000, 60001, 60002, 61000, 80000} {
		for _, count := range []int{400, 401, 1999} {
			d := row(t, size, count)
			got, code := checkText(t, d)
			if want := size <= 60000; want != (code == api.OK) || want && len(got) != size {
				t.Errorf("a text of %d bytes: %d bytes, %d", size, len(got), code)
			}
			d.Nodes[count].Kids = []int{0}
			if b, code := show.Text(d); len(b) != 0 || code != api.ErrArg {
				t.Errorf("a text of %d bytes that may not be: %d bytes, %d", size, len(b), code)
			}
		}
	}
	// What an escape takes counts.
	d := row(t, 59000, 400)
	d.Nodes[400].Text = strings.Repeat("\x01", len(d.Nodes[400].Text))
	checkText(t, d)
	for i := range 7 {
		d.Nodes[i+1].Text = strings.Repeat("\x01", len(d.Nodes[i+1].Text))
		checkText(t, d)
	}
	// The most that may be.
	d = steep(23, func(int) int { return 3 })
	last := len(d.Nodes) - 1
	d.Nodes[last] = list()
	for len(d.Nodes) < 2000 {
		d.Nodes[last].Kids = append(d.Nodes[last].Kids, len(d.Nodes))
		d.Nodes = append(d.Nodes, quoted(strings.Repeat("\x00", 200)))
	}
	if _, code := checkText(t, d); code != api.ErrBig {
		t.Errorf("the greatest document's text: %d", code)
	}
}

// P13.3: a text of MaxText bytes and one more.
func TestBackBig(t *testing.T) {
	for _, size := range []int{16382, 16383, 16384, 16385, 16386} {
		d := row(t, size, 100)
		s := checkBack(t, d)
		_, fault := doc.Parse([]byte(s))
		if len(s) != size || (fault.Kind == 0) != (size <= 16384) {
			t.Errorf("%d bytes: %d bytes, read with %v", size, len(s), fault)
		}
	}
}

// tree is a made-up document, ahead of its numbers.
type tree struct {
	node api.Node
	kids []tree
}

func (x tree) put(d *api.Doc) {
	at := len(d.Nodes)
	d.Nodes = append(d.Nodes, x.node)
	for _, kid := range x.kids {
		// What stands at at may move, as the list grows.
		number := len(d.Nodes)
		kid.put(d)
		d.Nodes[at].Kids = append(d.Nodes[at].Kids, number)
	}
}

func wildText(r *rand.Rand, most int) string {
	const signs = "aab:-# '\"\\\\nx.[é\x80\x00\n\t\x7f,"
	b := make([]byte, r.Intn(most))
	for i := range b {
		if b[i] = signs[r.Intn(len(signs))]; r.Intn(9) == 0 {
			b[i] = byte(r.Intn(256))
		}
	}
	return string(b)
}

func wildNode(r *rand.Rand) api.Node {
	for {
		if s := wildText(r, 12); r.Intn(2) == 0 {
			return quoted(s)
		} else if mayBePlain(s) {
			return text(s)
		}
	}
}

func wildTree(r *rand.Rand, depth int) tree {
	if depth == 1 || r.Intn(4) == 0 {
		return tree{node: wildNode(r)}
	}
	x := tree{node: api.Node{Kind: 2 + r.Intn(2)}}
	for i := range 1 + r.Intn(4) {
		x.kids = append(x.kids, wildTree(r, depth-1))
		if x.node.Kind == 3 {
			x.node.Keys = append(x.node.Keys, strings.Repeat(string("k-._Z9"[r.Intn(6)]), 1+r.Intn(3))+fmt.Sprint(i))
		}
	}
	return x
}

func wildDoc(r *rand.Rand) api.Doc {
	var d api.Doc
	wildTree(r, 1+r.Intn(6)).put(&d)
	for i := range d.Nodes {
		d.Nodes[i].Line = r.Intn(9) - 4
	}
	return d
}

// P13.1, P13.2, P13.3: made-up documents.
func TestWild(t *testing.T) {
	r := rand.New(rand.NewSource(13))
	for range 12000 {
		d := wildDoc(r)
		if !mayBe(d) {
			t.Fatalf("the model refuses %s", briefly(d))
		}
		checkBack(t, d)
	}
}

// spoil turns one thing of a node.
func spoil(r *rand.Rand, d *api.Doc) {
	n := &d.Nodes[r.Intn(len(d.Nodes))]
	switch r.Intn(10) {
	case 0:
		n.Kind = r.Intn(6) - 1
	case 1:
		n.Text = wildText(r, 5)
	case 2:
		n.Quoted = !n.Quoted
	case 3:
		n.Keys = append(n.Keys, wildText(r, 3))
	case 4:
		n.Kids = append(n.Kids, r.Intn(len(d.Nodes)+2)-1)
	case 5:
		if len(n.Kids) > 0 {
			n.Kids[r.Intn(len(n.Kids))] += r.Intn(5) - 2
		}
	case 6:
		if len(n.Keys) > 0 {
			n.Keys[r.Intn(len(n.Keys))] = wildText(r, 4)
		}
	case 7:
		if len(n.Keys) > 0 {
			n.Keys[r.Intn(len(n.Keys))] = n.Keys[r.Intn(len(n.Keys))]
		}
	case 8:
		d.Nodes = append(d.Nodes, text("a"))
	case 9:
		d.Nodes = d.Nodes[:len(d.Nodes)-1]
	}
}

// P13.1: made-up documents of which one thing was turned, or two.
func TestSpoilt(t *testing.T) {
	r := rand.New(rand.NewSource(1313))
	took := 0
	for range 12000 {
		d := wildDoc(r)
		for range 1 + r.Intn(2) {
			if len(d.Nodes) > 0 {
				spoil(r, &d)
			}
		}
		if check(t, d) {
			took++
		}
		checkBack(t, d)
	}
	if took == 0 || took == 12000 {
		t.Errorf("%d of 12000 may be", took)
	}
}

// P13.3: whatever 12 reads a text as may be, and is read back.
func TestRead(t *testing.T) {
	r := rand.New(rand.NewSource(131313))
	parts := []string{"a", "b: ", "- ", "-", "\n", "\n  ", "\n    ", "  ", "'c'", "\"d\\x00\"", " # e", "f:\n", "g 'h' i", "#", "j: k\n", "\"", "é", ":"}
	read := 0
	for range 60000 {
		var b strings.Builder
		for range r.Intn(12) {
			b.WriteString(parts[r.Intn(len(parts))])
		}
		d, fault := doc.Parse([]byte(b.String()))
		if fault.Kind != 0 {
			continue
		}
		read++
		if show.Check(d) != api.OK {
			t.Fatalf("Check of what %q is read as: %s", b.String(), briefly(d))
		}
		checkBack(t, d)
	}
	if read < 1000 {
		t.Errorf("%d texts were read", read)
	}
}

// Rule 3: what is handed in stays as it is, and what is told is new memory.
func TestArgumentsStay(t *testing.T) {
	r := rand.New(rand.NewSource(31))
	for range 300 {
		a, b := wildDoc(r), api.Doc{}
		for _, n := range a.Nodes {
			n.Keys, n.Kids = slices.Clone(n.Keys), slices.Clone(n.Kids)
			b.Nodes = append(b.Nodes, n)
		}
		show.Check(a)
		first, _ := show.Text(a)
		kept := slices.Clone(first)
		for i := range first {
			first[i] = '!'
		}
		if again, _ := show.Text(a); !bytes.Equal(again, kept) {
			t.Fatalf("Text(%s) tells %q behind a change of what it told: %q", briefly(a), again, kept)
		}
		show.Same(a, b)
		if !reflect.DeepEqual(a, b) {
			t.Fatalf("%s became %s", briefly(b), briefly(a))
		}
	}
}

func FuzzRead(f *testing.F) {
	for _, s := range []string{"a: b", "- a\n- 'b'", "a:\n  - b\n  - \"c\\x00\"", "a 'b # c'"} {
		f.Add(s)
	}
	f.Fuzz(func(t *testing.T, s string) {
		d, fault := doc.Parse([]byte(s))
		if fault.Kind == 0 {
			if show.Check(d) != api.OK {
				t.Fatalf("Check of what %q is read as: %s", s, briefly(d))
			}
			checkBack(t, d)
		}
		checkBack(t, of(text(s)))
		checkBack(t, of(pairs(s, 1), quoted(s)))
	})
}
