package lex_test

import (
	"fmt"
	"math/rand"
	"regexp"
	"slices"
	"strconv"
	"strings"
	"testing"

	"turncock/api"
	"turncock/lex"
	"turncock/line"
)

// told is what Row and All answer.
type told struct {
	pieces []api.Piece
	fault  api.Fault
}

func (a told) same(b told) bool {
	return slices.Equal(a.pieces, b.pieces) && a.fault == b.fault
}

func (a told) String() string {
	return fmt.Sprintf("%.900q %v", fmt.Sprint(a.pieces), a.fault)
}

func row(l api.Line) told {
	p, f := lex.Row(l)
	return told{p, f}
}

func all(l ...api.Line) told {
	p, f := lex.All(l)
	return told{p, f}
}

// What a line is made of, by P11.1, as expressions of a whole line and of what is left of it for a text.
const (
	keyForm   = `[A-Za-z0-9_.\-]+`
	digit16   = `[0-9a-f]`
	escapes   = `\\(?:[\\"nt]|x` + digit16 + digit16 + `)`
	barsForm  = `[\[\]{}&*!|>%@,?\x60]`
	blankForm = `(?: +|\z)`
)

var (
	rowForm    = regexp.MustCompile(`(?s)\A *((?:-` + blankForm + `)*)(?:(` + keyForm + `):` + blankForm + `)?(.*)\z`)
	singleForm = regexp.MustCompile(`(?s)\A'((?:[^']|'')*)'\z`)
	doubleForm = regexp.MustCompile(`(?s)\A"((?:[^"\\]|` + escapes + `)*)"\z`)
	escapeForm = regexp.MustCompile(escapes)
	noPlain    = regexp.MustCompile(`(?s)\A(?:` + barsForm + `|-` + blankForm + `|` + keyForm + `:` + blankForm + `)`)
)

func unescape(s string) string {
	sign, _, _, err := strconv.UnquoteChar(s, '"')
	if err != nil {
		panic(err)
	}
	return string([]byte{byte(sign)})
}

// textModel is what a text says, whether it is quoted, and what is wrong with it.
func textModel(s string) (string, bool, int) {
	said, quoted := s, true
	switch s[0] {
	case '\'':
		m := singleForm.FindStringSubmatch(s)
		if m == nil {
			return "", false, 3
		}
		said = strings.ReplaceAll(m[1], "''", "'")
	case '"':
		m := doubleForm.FindStringSubmatch(s)
		if m == nil {
			return "", false, 3
		}
		said = escapeForm.ReplaceAllStringFunc(m[1], unescape)
	default:
		quoted = false
		if noPlain.MatchString(s) {
			return "", false, 4
		}
	}
	if len(said) > 200 {
		return "", false, 4
	}
	return said, quoted, 0
}

// rowModel is P11.1 by expressions.
func rowModel(l api.Line) told {
	wrong := func(kind int) told { return told{nil, api.Fault{Kind: kind, Line: l.No}} }
	if l.Indent < 0 || l.Indent > 16384 {
		return wrong(6)
	}
	var out told
	put := func(kind, at int, text string, quoted bool) {
		out.pieces = append(out.pieces, api.Piece{Kind: kind, Line: l.No, Col: l.Indent + at, Text: text, Quoted: quoted})
	}
	m := rowForm.FindStringSubmatchIndex(l.Text)
	for at := m[2]; at < m[3]; at++ {
		if l.Text[at] == '-' {
			put(1, at, "", false)
		}
	}
	if m[4] >= 0 {
		if m[5]-m[4] > 64 {
			return wrong(5)
		}
		put(2, m[4], l.Text[m[4]:m[5]], false)
	}
	if m[6] < m[7] {
		said, quoted, kind := textModel(l.Text[m[6]:])
		if kind != 0 {
			return wrong(kind)
		}
		put(3, m[6], said, quoted)
	}
	return out
}

// checkRow holds Row against the model.
func checkRow(t *testing.T, l api.Line) told {
	t.Helper()
	got, want := row(l), rowModel(l)
	if !got.same(want) {
		t.Fatalf("Row(%.400q) = %v, want %v", fmt.Sprint(l), got, want)
	}
	return got
}

// each calls f with each text of up to most of the signs, once.
func each(signs string, most int, f func(s string)) {
	f("")
	if most == 0 {
		return
	}
	for i := range len(signs) {
		each(signs, most-1, func(s string) { f(signs[i:i+1] + s) })
	}
}

// short tells pieces as dash@Col, key@Col=Text, text@Col=Text, quoted@Col=Text, and a fault as its kind's name; the line's number
// must stand in each.
func short(t *testing.T, a told, no int) string {
	t.Helper()
	if a.fault.Kind != 0 {
		if a.fault.Line != no || len(a.pieces) != 0 {
			t.Errorf("a fault of line %d tells %v", no, a)
		}
		name, ok := map[int]string{3: "FQuote", 4: "FText", 5: "FKey", 6: "FIndent"}[a.fault.Kind]
		if !ok {
			t.Errorf("a fault of kind %d", a.fault.Kind)
		}
		return name
	}
	if a.fault != (api.Fault{}) {
		t.Errorf("beside pieces the fault %v", a.fault)
	}
	var out []string
	for _, p := range a.pieces {
		name := []string{"?", "dash", "key", "text"}[p.Kind]
		if p.Kind == api.PText && p.Quoted {
			name = "quoted"
		}
		if p.Line != no || p.Quoted != (name == "quoted") || p.Kind == api.PDash && p.Text != "" {
			t.Errorf("of line %d the piece %v", no, p)
		}
		if p.Kind != api.PDash {
			name += "=" + p.Text
		}
		out = append(out, fmt.Sprintf("%d:%s", p.Col, name))
	}
	return strings.Join(out, " ; ")
}

// rowCase is a line's Text, and what must be told of it, as short tells it at Indent 0.
type rowCase struct{ s, want string }

func checkCases(t *testing.T, cases []rowCase) {
	t.Helper()
	for _, c := range cases {
		for _, a := range []told{row(api.Line{No: 5, Text: c.s}), rowModel(api.Line{No: 5, Text: c.s})} {
			if got := short(t, a, 5); got != c.want {
				t.Errorf("Row(%.300q) = %.300q, want %.300q", c.s, got, c.want)
			}
		}
	}
}

func TestExample(t *testing.T) { // P11.1, P11.2: the chapter's example
	l := api.Line{No: 4, Indent: 2, Text: `- key: "a b"`}
	want := told{[]api.Piece{{Kind: api.PDash, Line: 4, Col: 2}, {Kind: api.PKey, Line: 4, Col: 4, Text: "key"}, {Kind: api.PText, Line: 4, Col: 9, Text: "a b", Quoted: true}}, api.Fault{}}
	for _, got := range []told{row(l), all(l), rowModel(l)} {
		if !got.same(want) {
			t.Errorf("%v, want %v", got, want)
		}
	}
}

func TestRowOfNothing(t *testing.T) { // P11.1: no Text, or blanks alone
	for _, s := range []string{"", " ", "     ", strings.Repeat(" ", 1000)} {
		for _, indent := range []int{0, 1, 7, api.MaxText} {
			if got := row(api.Line{No: 3, Indent: indent, Text: s}); len(got.pieces) != 0 || got.fault != (api.Fault{}) {
				t.Errorf("Row of %d blanks at %d is %v", len(s), indent, got)
			}
		}
	}
}

func TestRowIndent(t *testing.T) { // P11.1: the edges of Indent, ahead of all that may be wrong in a Text
	texts := []string{"", " ", "a", "- k: v", "'a", "[", "- - 'x' ", strings.Repeat("k", 65) + ":", strings.Repeat("v", 201)}
	for _, s := range texts {
		for _, indent := range []int{-1, -2, -api.MaxText, -1 << 63, api.MaxText + 1, api.MaxText + 2, 1 << 31, 1<<63 - 1} {
			for _, no := range []int{0, 1, 9, -3, 1 << 40} {
				got := row(api.Line{No: no, Indent: indent, Text: s})
				if !got.same(told{nil, api.Fault{Kind: api.FIndent, Line: no}}) {
					t.Errorf("Row of %.20q at %d is %v", s, indent, got)
				}
			}
		}
		for _, indent := range []int{0, 1, 2, 63, api.MaxText - 1, api.MaxText} {
			if got := checkRow(t, api.Line{No: 2, Indent: indent, Text: s}); got.fault.Kind == api.FIndent {
				t.Errorf("Row of %.20q at %d is %v", s, indent, got)
			}
		}
	}
	got := row(api.Line{No: 1, Indent: api.MaxText, Text: "- k: v"})
	if s := short(t, got, 1); s != "16384:dash ; 16386:key=k ; 16389:text=v" {
		t.Error(s)
	}
}

func TestRowLineAndCol(t *testing.T) { // P11.1: each piece's Line is No, its Col counts from Indent on
	texts := []string{"", "-", "- - -", "a", "k:", "k: v", "- k: v", "  -   - k:   'v'", "- \"\\x41\"", "   'it''s'", " a  ", "k:    "}
	for _, s := range texts {
		base := row(api.Line{Text: s})
		for _, no := range []int{1, 2, 16384, 0, -1, 1<<63 - 1} {
			for _, indent := range []int{0, 1, 2, 10, 999, api.MaxText} {
				want := slices.Clone(base.pieces)
				for i := range want {
					want[i].Line, want[i].Col = no, want[i].Col+indent
				}
				if got := row(api.Line{No: no, Indent: indent, Text: s}); !got.same(told{want, api.Fault{}}) {
					t.Errorf("Row of %q, line %d at %d, is %v, want %v", s, no, indent, got, want)
				}
			}
		}
	}
	for _, s := range []string{"'a", "[", strings.Repeat("k", 65) + ":"} { // a fault's Line is No, whatever No is
		for _, no := range []int{1, 7, 0, -1, 1<<63 - 1} {
			if got := row(api.Line{No: no, Indent: 3, Text: s}); got.fault.Line != no || got.fault.Kind == 0 {
				t.Errorf("Row of %.9q, line %d, is %v", s, no, got)
			}
		}
	}
}

func TestRowDashes(t *testing.T) { // P11.1
	checkCases(t, []rowCase{
		{"-", "0:dash"}, {" -", "1:dash"}, {"- ", "0:dash"}, {"-    ", "0:dash"}, {"- -", "0:dash ; 2:dash"}, {"-   -", "0:dash ; 4:dash"}, {"- - -", "0:dash ; 2:dash ; 4:dash"}, {"  -  -   - ", "2:dash ; 5:dash ; 9:dash"},
		{"- a", "0:dash ; 2:text=a"}, {"-  a", "0:dash ; 3:text=a"}, {"- - a", "0:dash ; 2:dash ; 4:text=a"}, {"- -a", "0:dash ; 2:text=-a"}, {"-a", "0:text=-a"}, {"-1", "0:text=-1"}, {"--", "0:text=--"}, {"-- a", "0:text=-- a"}, {"- --", "0:dash ; 2:text=--"}, {"--- -", "0:text=--- -"},
		{"a -", "0:text=a -"}, {"a - b", "0:text=a - b"}, {"-a - b", "0:text=-a - b"}, {"- a -", "0:dash ; 2:text=a -"}, {"-\t", "0:text=-\t"}, {"-\ta", "0:text=-\ta"}, {"-'a'", "0:text=-'a'"}, {"-\n", "0:text=-\n"}, {"-\xa0a", "0:text=-\xa0a"}, {"-[", "0:text=-["}, {"- [", "FText"}, {"- 'a'", "0:dash ; 2:quoted=a"},
		{"'-'", "0:quoted=-"}, {"- '-'", "0:dash ; 2:quoted=-"}, {"- '- a'", "0:dash ; 2:quoted=- a"},
	})
	for n := range 300 {
		for _, tail := range []string{"", " ", "k: v"} {
			s := strings.Repeat("- ", n) + tail
			got := checkRow(t, api.Line{No: 1, Text: s})
			if want := n + len(strings.Fields(tail)); len(got.pieces) != want {
				t.Errorf("%d dashes and %q: %d pieces, want %d", n, tail, len(got.pieces), want)
			}
		}
	}
}

func TestRowKeys(t *testing.T) { // P11.1: what follows a key, what stands ahead of it
	checkCases(t, []rowCase{
		{"a:", "0:key=a"}, {"a: ", "0:key=a"}, {"a:    ", "0:key=a"}, {"a: b", "0:key=a ; 3:text=b"}, {"a:   b", "0:key=a ; 5:text=b"}, {"   a: b", "3:key=a ; 6:text=b"}, {"a: b  ", "0:key=a ; 3:text=b  "}, {"a:b", "0:text=a:b"}, {"a:b c", "0:text=a:b c"}, {"a:b: c", "0:text=a:b: c"}, {"a::", "0:text=a::"}, {"a:: b", "0:text=a:: b"}, {"a: :", "0:key=a ; 3:text=:"}, {"a:\t", "0:text=a:\t"}, {"a:\tb", "0:text=a:\tb"}, {"a:'b'", "0:text=a:'b'"}, {"a:- b", "0:text=a:- b"},
		{":", "0:text=:"}, {": ", "0:text=: "}, {": a", "0:text=: a"}, {" : a", "1:text=: a"}, {"- :", "0:dash ; 2:text=:"}, {"- : a", "0:dash ; 2:text=: a"}, {"::", "0:text=::"}, {"a :", "0:text=a :"}, {"a : b", "0:text=a : b"}, {"a b: c", "0:text=a b: c"}, {"a", "0:text=a"}, {"a b:", "0:text=a b:"}, {"é: a", "0:text=é: a"}, {"a\xff: b", "0:text=a\xff: b"},
		{"- a: b", "0:dash ; 2:key=a ; 5:text=b"}, {"- - a:", "0:dash ; 2:dash ; 4:key=a"}, {"-  a:  b", "0:dash ; 3:key=a ; 7:text=b"}, {"-a: b", "0:key=-a ; 4:text=b"}, {"-: b", "0:key=- ; 3:text=b"}, {"-:", "0:key=-"}, {"--: b", "0:key=-- ; 4:text=b"}, {"- -: b", "0:dash ; 2:key=- ; 5:text=b"}, {"- -a: b", "0:dash ; 2:key=-a ; 6:text=b"}, {".: a", "0:key=. ; 3:text=a"}, {"_: a", "0:key=_ ; 3:text=a"}, {"0: a", "0:key=0 ; 3:text=a"}, {"_.-9aZ: :", "0:key=_.-9aZ ; 8:text=:"},
		{"a: b: c", "FText"}, {"a: b:", "FText"}, {"a:  b:  ", "FText"}, {"a: b:c", "0:key=a ; 3:text=b:c"}, {"a: b :c", "0:key=a ; 3:text=b :c"}, {"a: b c: d", "0:key=a ; 3:text=b c: d"}, {"a: - b", "FText"}, {"a: -", "FText"}, {"a: -  ", "FText"}, {"a: -b", "0:key=a ; 3:text=-b"}, {"a: -1", "0:key=a ; 3:text=-1"}, {"a: -:", "FText"}, {"a: -b: c", "FText"}, {"- a: b: c", "FText"}, {"- a: - b", "FText"}, {"a: b - c", "0:key=a ; 3:text=b - c"}, {"a: 'b': c", "FQuote"}, {"a: 'b: c'", "0:key=a ; 3:quoted=b: c"}, {"a: '- c'", "0:key=a ; 3:quoted=- c"}, {"a: \"b: c\"", "0:key=a ; 3:quoted=b: c"},
		{"'a': b", "FQuote"}, {"\"a\": b", "FQuote"}, {"'a: b'", "0:quoted=a: b"}, {"?: a", "FText"}, {"[a]: b", "FText"}, {"a?: b", "0:text=a?: b"}, {"a#: b", "0:text=a#: b"}, {"#: b", "0:text=#: b"},
		{"key: a", "0:key=key ; 5:text=a"}, {"requests_per_unit: 10", "0:key=requests_per_unit ; 19:text=10"}, {"rate_limit:", "0:key=rate_limit"},
	})
}

func isKeySign(i int) bool {
	return strings.IndexByte("abcdefghijklmnopqrstuvwxyzABCDEFGHIJKLMNOPQRSTUVWXYZ0123456789_-.", byte(i)) >= 0
}

func TestRowKeyOfEachByte(t *testing.T) { // P11.1: each byte alone, first, between and last, and behind the ':'
	for i := range 256 {
		sign := string([]byte{byte(i)})
		for _, key := range []string{sign, sign + "b", "a" + sign + "b", "a" + sign, sign + sign + sign} {
			for _, tail := range []string{":", ": v", ": 'v'", ":  ", ": [", ":v"} {
				for _, front := range []string{"", "- ", "  ", "k: "} {
					got := checkRow(t, api.Line{No: 1, Text: front + key + tail})
					isKey := len(got.pieces) > 0 && slices.ContainsFunc(got.pieces, func(p api.Piece) bool { return p.Kind == api.PKey && p.Text == key })
					if front != "k: " && tail != ":v" && tail != ": [" && isKey != isKeySign(i) {
						t.Errorf("Row of %q is %v", front+key+tail, got)
					}
				}
			}
		}
		got := checkRow(t, api.Line{No: 1, Text: "a:" + sign})
		if isKey := got.pieces[0].Kind == api.PKey; isKey != (i == 32) {
			t.Errorf("Row of %q is %v", "a:"+sign, got)
		}
		got = checkRow(t, api.Line{No: 1, Text: "a:" + sign + "b"})
		if isKey := got.pieces[0].Kind == api.PKey; isKey != (i == 32) {
			t.Errorf("Row of %q is %v", "a:"+sign+"b", got)
		}
		got = checkRow(t, api.Line{No: 1, Text: "-" + sign + "b"})
		if isDash := got.pieces[0].Kind == api.PDash; isDash != (i == 32) {
			t.Errorf("Row of %q is %v", "-"+sign+"b", got)
		}
	}
}

func TestRowKeyLength(t *testing.T) { // P11.1: MaxName bytes, and one more
	for _, n := range []int{1, 2, 63, 64, 65, 66, 128, 200, 201, 5000} {
		for _, sign := range []string{"k", "K", "0", "_", "-", "."} {
			key := strings.Repeat(sign, n)
			for _, c := range []rowCase{{"", ""}, {" ", ""}, {" v", " ; %d:text=v"}, {" 'v'", " ; %d:quoted=v"}, {" 'v", "FQuote"}, {" [", "FText"}, {" j: v", "FText"}, {" - v", "FText"}, {" " + strings.Repeat("v", 201), "FText"}} {
				want := fmt.Sprintf("0:key=%s", key) + strings.ReplaceAll(c.want, "%d", fmt.Sprint(n+2))
				if strings.HasPrefix(c.want, "F") {
					want = c.want
				}
				if n > 64 {
					want = "FKey"
				}
				checkCases(t, []rowCase{{key + ":" + c.s, want}})
			}
		}
	}
	long := strings.Repeat("k", 65)
	checkCases(t, []rowCase{
		{"- " + long + ":", "FKey"}, {"- - " + long + ": 'x", "FKey"}, {long, "0:text=" + long}, {long + ":v", "0:text=" + long + ":v"}, {long + " :", "0:text=" + long + " :"}, {"k: " + long + ": v", "FText"}, {"k: " + long, "0:key=k ; 3:text=" + long}, {"'" + long + ": v'", "0:quoted=" + long + ": v"},
		{strings.Repeat("k", 32) + " " + strings.Repeat("k", 65) + ":", "0:text=" + strings.Repeat("k", 32) + " " + strings.Repeat("k", 65) + ":"},
	})
}

func TestRowSingleQuotes(t *testing.T) { // P11.1
	checkCases(t, []rowCase{
		{"''", "0:quoted="}, {"'a'", "0:quoted=a"}, {"' '", "0:quoted= "}, {"'a b'", "0:quoted=a b"}, {"  'a'", "2:quoted=a"}, {"''''", "0:quoted='"}, {"''''''", "0:quoted=''"}, {"'''a'", "0:quoted='a"}, {"'a'''", "0:quoted=a'"}, {"'it''s'", "0:quoted=it's"}, {"'''a''b'''", "0:quoted='a'b'"}, {"'a''''b'", "0:quoted=a''b"}, {"'a'' ''b'", "0:quoted=a' 'b"},
		{"'", "FQuote"}, {"'a", "FQuote"}, {"'''", "FQuote"}, {"'''''", "FQuote"}, {"'a''", "FQuote"}, {"'a''b", "FQuote"}, {"'''a", "FQuote"}, {"'a ", "FQuote"},
		{"'' ", "FQuote"}, {"'a' ", "FQuote"}, {"'a'b", "FQuote"}, {"'a' b", "FQuote"}, {"'a' 'b'", "FQuote"}, {"'a'\"b\"", "FQuote"}, {"'a''' ", "FQuote"}, {"'a'''b", "FQuote"}, {"''a''", "FQuote"}, {"''a", "FQuote"}, {"'a':", "FQuote"}, {"'a'\t", "FQuote"}, {"'a' #", "FQuote"},
		{"'\\'", "0:quoted=\\"}, {"'\\n'", "0:quoted=\\n"}, {"'\\x41'", "0:quoted=\\x41"}, {"'\\''", "FQuote"}, {"'\\'''", "0:quoted=\\'"}, {"'\\\\'", "0:quoted=\\\\"}, {"'\"'", "0:quoted=\""}, {"'\"\"'", "0:quoted=\"\""}, {"'[a]'", "0:quoted=[a]"}, {"'k: v'", "0:quoted=k: v"}, {"'- a'", "0:quoted=- a"}, {"'-'", "0:quoted=-"}, {"'a # b'", "0:quoted=a # b"}, {"'a\n\tb'", "0:quoted=a\n\tb"}, {"'\x00\xff'", "0:quoted=\x00\xff"},
		{"- 'a'", "0:dash ; 2:quoted=a"}, {"k: ''", "0:key=k ; 3:quoted="}, {"k:  'a'", "0:key=k ; 4:quoted=a"}, {"- k: 'a b'", "0:dash ; 2:key=k ; 5:quoted=a b"}, {"k: 'a", "FQuote"}, {"- 'a' ", "FQuote"}, {"k: 'a' b", "FQuote"},
		{"a'b'", "0:text=a'b'"}, {"a 'b", "0:text=a 'b"}, {"k:'a'", "0:text=k:'a'"}, {"k: a'", "0:key=k ; 3:text=a'"},
	})
}

func TestRowDoubleQuotes(t *testing.T) { // P11.1
	checkCases(t, []rowCase{
		{`""`, "0:quoted="}, {`"a"`, "0:quoted=a"}, {`" "`, "0:quoted= "}, {`"a b"`, "0:quoted=a b"}, {`  "a"`, "2:quoted=a"}, {`"\\"`, `0:quoted=\`}, {`"\""`, `0:quoted="`}, {`"\n"`, "0:quoted=\n"}, {`"\t"`, "0:quoted=\t"}, {`"\x41"`, "0:quoted=A"}, {`"\x00"`, "0:quoted=\x00"}, {`"\xff"`, "0:quoted=\xff"}, {`"\x0a"`, "0:quoted=\n"}, {`"\xa0"`, "0:quoted=\xa0"}, {`"\x22"`, `0:quoted="`}, {`"\x5c"`, `0:quoted=\`}, {`"\x5cn"`, `0:quoted=\n`}, {`"\x5c\x5c"`, `0:quoted=\\`},
		{`"a\\\"\x41\xff"`, "0:quoted=a\\\"A\xff"}, {`"\\\\"`, `0:quoted=\\`}, {`"\\n"`, `0:quoted=\n`}, {`"\\x41"`, `0:quoted=\x41`}, {`"\\\n"`, "0:quoted=\\\n"}, {`"\"\""`, `0:quoted=""`}, {`"a\nb\tc"`, "0:quoted=a\nb\tc"}, {`"\x4142"`, "0:quoted=A42"}, {`"\x41\x42"`, "0:quoted=AB"}, {`"n"`, "0:quoted=n"}, {`"x41"`, "0:quoted=x41"},
		{`"`, "FQuote"}, {`"a`, "FQuote"}, {`"\"`, "FQuote"}, {`"a\"`, "FQuote"}, {`"\\\"`, "FQuote"}, {`"\`, "FQuote"}, {`"a\`, "FQuote"}, {`"\\`, "FQuote"}, {`"\n`, "FQuote"}, {`"\x41`, "FQuote"}, {`"a `, "FQuote"},
		{`"\x"`, "FQuote"}, {`"\x`, "FQuote"}, {`"\x4"`, "FQuote"}, {`"\x4`, "FQuote"}, {`"\x4g"`, "FQuote"}, {`"\xg4"`, "FQuote"}, {`"\xAF"`, "FQuote"}, {`"\xaF"`, "FQuote"}, {`"\xAf"`, "FQuote"}, {`"\X41"`, "FQuote"}, {`"\x 1"`, "FQuote"}, {`"\x4 "`, "FQuote"}, {`"\x-1"`, "FQuote"}, {`"\x""`, "FQuote"}, {`"\x4""`, "FQuote"}, {`"\x\x"`, "FQuote"},
		{`"\q"`, "FQuote"}, {`"\'"`, "FQuote"}, {`"\ "`, "FQuote"}, {`"\N"`, "FQuote"}, {`"\T"`, "FQuote"}, {`"\r"`, "FQuote"}, {`"\0"`, "FQuote"}, {`"\u0041"`, "FQuote"}, {`"\a"`, "FQuote"}, {"\"\\\n\"", "FQuote"}, {`"\/"`, "FQuote"}, {`"a" "\q"`, "FQuote"},
		{`"" `, "FQuote"}, {`"a" `, "FQuote"}, {`"a"b`, "FQuote"}, {`"a" b`, "FQuote"}, {`"a" "b"`, "FQuote"}, {`"a""b"`, "FQuote"}, {`""""`, "FQuote"}, {`"""`, "FQuote"}, {`"a"'b'`, "FQuote"}, {`"a":`, "FQuote"}, {"\"a\"\t", "FQuote"}, {`"a" #`, "FQuote"}, {`"a"\`, "FQuote"},
		{`"'"`, "0:quoted='"}, {`"''"`, "0:quoted=''"}, {`"it's"`, "0:quoted=it's"}, {`"[a]"`, "0:quoted=[a]"}, {`"k: v"`, "0:quoted=k: v"}, {`"- a"`, "0:quoted=- a"}, {`"a # b"`, "0:quoted=a # b"}, {"\"a\n\tb\"", "0:quoted=a\n\tb"}, {"\"\x00\xff\"", "0:quoted=\x00\xff"},
		{`- "a"`, "0:dash ; 2:quoted=a"}, {`k: ""`, "0:key=k ; 3:quoted="}, {`k:  "a"`, "0:key=k ; 4:quoted=a"}, {`- k: "a b"`, "0:dash ; 2:key=k ; 5:quoted=a b"}, {`k: "a`, "FQuote"}, {`- "a" `, "FQuote"}, {`k: "a" b`, "FQuote"},
		{`a"b"`, `0:text=a"b"`}, {`a "b`, `0:text=a "b`}, {`k:"a"`, `0:text=k:"a"`}, {`a\n`, `0:text=a\n`}, {`\`, `0:text=\`}, {`\"a"`, `0:text=\"a"`},
	})
}

func TestRowEachByteBehindBackslash(t *testing.T) { // P11.1: the five that may stand there, and all others
	stands := map[int]string{'\\': "\\", '"': "\"", 'n': "\n", 't': "\t"}
	for i := range 256 {
		sign := string([]byte{byte(i)})
		for _, front := range []string{"", "a", `\\`, `\x41`} {
			s := `"` + front + `\` + sign + `z"`
			got := checkRow(t, api.Line{No: 1, Text: s})
			said, ok := stands[i]
			if ok != (got.fault.Kind == 0) || !ok && got.fault.Kind != api.FQuote || ok && !strings.HasSuffix(got.pieces[0].Text, said+"z") {
				t.Errorf("Row of %q is %v", s, got)
			}
			s = `"` + front + `\` + sign + `"`
			got = checkRow(t, api.Line{No: 1, Text: s})
			if ok != (got.fault.Kind == 0) {
				t.Errorf("Row of %q is %v", s, got)
			}
			checkRow(t, api.Line{No: 1, Text: `"` + front + `\` + sign + `""`})
			checkRow(t, api.Line{No: 1, Text: `"` + front + `\` + sign})
		}
	}
}

func TestRowEachTwoDigits(t *testing.T) { // P11.1: all pairs of bytes behind backslash and x
	right := 0
	for i := range 256 {
		for j := range 256 {
			s := string([]byte{'"', '\\', 'x', byte(i), byte(j), '"'})
			got := checkRow(t, api.Line{No: 1, Text: s})
			high, low := strings.IndexByte("0123456789abcdef", byte(i)), strings.IndexByte("0123456789abcdef", byte(j))
			if high < 0 || low < 0 {
				if got.fault.Kind != api.FQuote {
					t.Errorf("Row of %q is %v", s, got)
				}
				continue
			}
			right++
			if got.fault.Kind != 0 || got.pieces[0].Text != string([]byte{byte(high*16 + low)}) {
				t.Errorf("Row of %q is %v", s, got)
			}
		}
	}
	if right != 256 {
		t.Errorf("%d bytes can be told", right)
	}
}

func TestRowEachByteBehindQuoted(t *testing.T) { // P11.1: nothing may stand there
	for i := range 256 {
		sign := string([]byte{byte(i)})
		for _, s := range []string{"''", "'a'", "'it''s'", `""`, `"a"`, `"\""`, "k: 'a'", `- "a"`} {
			got := checkRow(t, api.Line{No: 8, Text: s + sign})
			if !got.same(told{nil, api.Fault{Kind: api.FQuote, Line: 8}}) {
				t.Errorf("Row of %q is %v", s+sign, got)
			}
			checkRow(t, api.Line{No: 8, Text: s + sign + "'"})
			checkRow(t, api.Line{No: 8, Text: s + sign + `"`})
		}
	}
}

func TestRowPlainFronts(t *testing.T) { // P11.1: the signs that what is not quoted may not begin with; further on they may stand
	const bars = "[]{}&*!|>%@,?`"
	for i := range 256 {
		sign := string([]byte{byte(i)})
		barred := strings.IndexByte(bars, byte(i)) >= 0
		for _, front := range []string{"", "  ", "- ", "k: ", "- - k:  "} {
			for _, tail := range []string{"", "a", " ", " a", "]", "'"} {
				s := front + sign + tail
				got := checkRow(t, api.Line{No: 1, Text: s})
				if barred && !got.same(told{nil, api.Fault{Kind: api.FText, Line: 1}}) {
					t.Errorf("Row of %q is %v", s, got)
				}
				// A quote opens a text, a blank is passed by, and behind a key a dash is none.
				if !barred && strings.IndexByte(`'" -`, byte(i)) < 0 && got.fault.Kind != 0 {
					t.Errorf("Row of %q is %v", s, got)
				}
			}
			for _, s := range []string{"a" + sign, "a" + sign + "b", "a " + sign, "a " + sign + " b", "/" + sign, "\\" + sign} {
				got := checkRow(t, api.Line{No: 1, Text: front + s})
				keyBehindKey := sign == ":" && strings.Contains(front, "k:")
				if !keyBehindKey && got.fault.Kind != 0 {
					t.Errorf("Row of %q is %v", front+s, got)
				}
			}
		}
	}
	if len(bars) != 14 || bars[13] != 96 {
		t.Error("which signs they are")
	}
}

func TestRowEachByteInText(t *testing.T) { // P11.1: it is told as it came
	for i := range 256 {
		sign := string([]byte{byte(i)})
		s := "a" + sign + "b"
		want := api.Piece{Kind: api.PText, Line: 1, Text: s}
		if got := checkRow(t, api.Line{No: 1, Text: s}); !got.same(told{[]api.Piece{want}, api.Fault{}}) {
			t.Errorf("Row of %q is %v", s, got)
		}
		want.Quoted = true
		if got := checkRow(t, api.Line{No: 1, Text: "'" + s + "'"}); i != '\'' && !got.same(told{[]api.Piece{want}, api.Fault{}}) {
			t.Errorf("Row of ' and %q is %v", s, got)
		}
		if got := checkRow(t, api.Line{No: 1, Text: `"` + s + `"`}); i != '"' && i != '\\' && !got.same(told{[]api.Piece{want}, api.Fault{}}) {
			t.Errorf("Row of \" and %q is %v", s, got)
		}
	}
}

func TestRowTextLength(t *testing.T) { // P11.1: MaxWord bytes as it is read, and one more; what is wrong with a quote ahead of that
	for _, n := range []int{199, 200, 201, 202, 400, 10000} {
		x := strings.Repeat("x", n)
		texts := map[string]string{
			x: x, "'" + x + "'": x, `"` + x + `"`: x, x[1:] + " ": x[1:] + " ", x[:n-2] + ": ": "",
			"'" + strings.Repeat("''", n) + "'":   strings.Repeat("'", n),
			`"` + strings.Repeat(`\"`, n) + `"`:   strings.Repeat(`"`, n),
			`"` + strings.Repeat(`\\`, n) + `"`:   strings.Repeat(`\`, n),
			`"` + strings.Repeat(`\n`, n) + `"`:   strings.Repeat("\n", n),
			`"` + strings.Repeat(`\x41`, n) + `"`: strings.Repeat("A", n),
			`"` + x[1:] + `\xff"`:                 x[1:] + "\xff",
			"'" + x[1:] + "'''":                   x[1:] + "'",
		}
		for s, said := range texts {
			got := checkRow(t, api.Line{No: 2, Text: s})
			checkRow(t, api.Line{No: 2, Text: "- k: " + s})
			switch {
			case said == "": // a key that is too long
				if got.fault.Kind != api.FKey {
					t.Errorf("Row of %.20q is %v", s, got)
				}
			case n > 200:
				if !got.same(told{nil, api.Fault{Kind: api.FText, Line: 2}}) {
					t.Errorf("Row of %.20q (%d) is %v", s, n, got)
				}
			default:
				if len(got.pieces) != 1 || got.pieces[0].Text != said {
					t.Errorf("Row of %.20q (%d) is %v", s, n, got)
				}
			}
		}
		for _, s := range []string{"'" + x, `"` + x, "'" + x + "' ", `"` + x + `"b`, `"` + x + `\q"`, `"\q` + x + `"`, `"` + x + `\`, `"` + x + `\x4"`} {
			if got := checkRow(t, api.Line{No: 2, Text: s}); got.fault.Kind != api.FQuote {
				t.Errorf("Row of %.20q (%d) is %v", s, n, got)
			}
		}
		for _, s := range []string{"[" + x, "`" + x, "k: - " + x, "k: j: " + x} {
			if got := checkRow(t, api.Line{No: 2, Text: s}); got.fault.Kind != api.FText {
				t.Errorf("Row of %.20q (%d) is %v", s, n, got)
			}
		}
	}
	blanks := strings.Repeat(" ", 5000) // those between pieces are of no Text
	checkCases(t, []rowCase{{blanks + "-" + blanks + "k:" + blanks + "'v'", "5000:dash ; 10001:key=k ; 15003:quoted=v"}, {"k:" + blanks, "0:key=k"}, {"a" + blanks, "FText"}})
}

func TestRowOfShortTexts(t *testing.T) { // P11.1: all of up to seven of the signs that matter
	count := map[string]int{}
	each(`-: a'"\`, 7, func(s string) {
		got := checkRow(t, api.Line{No: 1, Text: s})
		count[fmt.Sprintf("fault %d, pieces %d", got.fault.Kind, len(got.pieces))]++
	})
	each(`"\x4f'`, 7, func(s string) { checkRow(t, api.Line{No: 1, Text: `"` + s}) })
	for _, want := range []string{"fault 0, pieces 0", "fault 0, pieces 1", "fault 0, pieces 2", "fault 0, pieces 3", "fault 3, pieces 0", "fault 4, pieces 0"} {
		if count[want] == 0 {
			t.Errorf("no text with %s", want)
		}
	}
}

// wild is a text of up to most bytes, most of them signs.
func wild(source *rand.Rand, signs string, most int) string {
	var b []byte
	for range source.Intn(most + 1) {
		if source.Intn(12) == 0 {
			b = append(b, byte(source.Intn(256)))
		} else {
			b = append(b, signs[source.Intn(len(signs))])
		}
	}
	return string(b)
}

func TestRowOfWildTexts(t *testing.T) { // P11.1
	source := rand.New(rand.NewSource(11))
	for range 30000 {
		l := api.Line{No: source.Intn(9) - 2, Indent: source.Intn(40) - 1, Text: wild(source, `--  ::''""\\xnt4afAZ_.[?`, 40)}
		checkRow(t, l)
		l.Text = []string{"- ", "k: ", "- k: ", "'", `"`, `k: "`}[source.Intn(6)] + l.Text
		checkRow(t, l)
		l.Text += []string{"'", `"`}[source.Intn(2)]
		checkRow(t, l)
	}
}

func TestRowOfLongTexts(t *testing.T) { // P11.1: no line is too long for Row
	const n = 1 << 20
	dashes := row(api.Line{No: 1, Text: strings.Repeat("- ", n)})
	if len(dashes.pieces) != n || dashes.pieces[n-1] != (api.Piece{Kind: api.PDash, Line: 1, Col: 2*n - 2}) {
		t.Errorf("%d dashes of %d", len(dashes.pieces), n)
	}
	for s, kind := range map[string]int{strings.Repeat("a", n): 4, strings.Repeat("a", n) + ":": 5, "'" + strings.Repeat("''", n) + "'": 4, "'" + strings.Repeat("''", n): 3, `"` + strings.Repeat(`\x41`, n): 3, `"` + strings.Repeat(`\x41`, n) + `"`: 4, strings.Repeat(" ", n): 0, strings.Repeat(" ", n) + "a": 0, strings.Repeat("-", n): 4, strings.Repeat("- ", n) + "'": 3} {
		if got := row(api.Line{No: 1, Text: s}); got.fault.Kind != kind || kind != 0 && len(got.pieces) != 0 {
			t.Errorf("Row of %.20q .. is %v", s, got.fault)
		}
	}
}

// made is a line put together of parts, and the pieces that it is made of.
func made(source *rand.Rand, no int) (api.Line, []api.Piece) {
	l := api.Line{No: no, Indent: source.Intn(20)}
	var want []api.Piece
	put := func(p api.Piece, written string, least int) {
		p.Line, p.Col = no, l.Indent+len(l.Text)
		want = append(want, p)
		l.Text += written + strings.Repeat(" ", least+source.Intn(3))
	}
	l.Text = strings.Repeat(" ", source.Intn(3))
	for range source.Intn(4) {
		put(api.Piece{Kind: api.PDash}, "-", 1)
	}
	if source.Intn(2) == 0 {
		key := strings.Trim(wild(source, "abcXYZ019_.-", 12), "-") + "k"
		key = regexp.MustCompile(`[^A-Za-z0-9_.\-]`).ReplaceAllString(key, "_")
		put(api.Piece{Kind: api.PKey, Text: key}, key+":", 1)
	}
	said := wild(source, "ab -:'\"\\#[x", 30)
	p := api.Piece{Kind: api.PText, Text: said, Quoted: true}
	p.Line, p.Col = no, l.Indent+len(l.Text)
	switch source.Intn(4) {
	case 0:
		l.Text += "'" + strings.ReplaceAll(said, "'", "''") + "'"
	case 1:
		l.Text += doubled(source, said)
	case 2:
		p.Text, p.Quoted = "/"+said, false
		l.Text += p.Text
	default:
		return l, want
	}
	return l, append(want, p)
}

// doubled is a text as " may have it, each byte in one of the forms that it may have.
func doubled(source *rand.Rand, said string) string {
	out := `"`
	for i := range len(said) {
		sign := said[i : i+1]
		form := strings.NewReplacer(`\`, `\\`, `"`, `\"`, "\n", `\n`, "\t", `\t`).Replace(sign)
		if source.Intn(4) == 0 {
			form = fmt.Sprintf(`\x%02x`, sign)
		}
		out += form
	}
	return out + `"`
}

func TestRowOfMadeLines(t *testing.T) { // P11.1: what was put together is told apart
	source := rand.New(rand.NewSource(111))
	for range 20000 {
		l, want := made(source, 1+source.Intn(100))
		if got := checkRow(t, l); !got.same(told{want, api.Fault{}}) {
			t.Fatalf("Row(%q) = %v, want %v", fmt.Sprint(l), got, want)
		}
	}
}

// allModel is P11.2 upon the model of Row.
func allModel(l []api.Line) told {
	var out told
	for _, x := range l {
		one := rowModel(x)
		if one.fault.Kind != 0 {
			return one
		}
		out.pieces = append(out.pieces, one.pieces...)
	}
	return out
}

func checkAll(t *testing.T, l ...api.Line) told {
	t.Helper()
	got, want := all(l...), allModel(l)
	if !got.same(want) {
		t.Fatalf("All(%.400q) = %v, want %v", fmt.Sprint(l), got, want)
	}
	return got
}

func TestAll(t *testing.T) { // P11.2: none, one, many
	for _, l := range [][]api.Line{nil, {}, {{}}, {{No: 1}, {No: 2, Text: "  "}}} {
		if got := all(l...); len(got.pieces) != 0 || got.fault != (api.Fault{}) {
			t.Errorf("All(%v) = %v", l, got)
		}
	}
	got := checkAll(t, api.Line{No: 1, Text: "domains:"}, api.Line{No: 2, Indent: 2, Text: "- domain: shop"}, api.Line{No: 5, Indent: 4, Text: "'x'"}, api.Line{No: 5}, api.Line{No: 4, Text: "- -"})
	if s := fmt.Sprint(got.pieces); s != "[{2 1 0 domains false} {1 2 2  false} {2 2 4 domain false} {3 2 12 shop false} {3 5 4 x true} {1 4 0  false} {1 4 2  false}]" {
		t.Error(s)
	}
	var many []api.Line
	for i := range 16384 {
		many = append(many, api.Line{No: i + 1, Indent: i, Text: "- a:"})
	}
	if got := checkAll(t, many...); len(got.pieces) != 2*16384 {
		t.Errorf("%d pieces", len(got.pieces))
	}
}

func TestAllFirstFault(t *testing.T) { // P11.2: a wrong line first, between and last; the first of two
	wrong := map[int]api.Line{api.FIndent: {Indent: -1, Text: "a"}, api.FKey: {Text: strings.Repeat("k", 65) + ":"}, api.FQuote: {Text: "'a"}, api.FText: {Text: "[a"}}
	right := func(no int) api.Line { return api.Line{No: no, Text: "- a: b"} }
	for kind, bad := range wrong {
		for n := 1; n <= 6; n++ {
			for at := range n {
				var l []api.Line
				for i := range n {
					l = append(l, right(10*i+10))
				}
				bad.No = 10*at + 10
				l[at] = bad
				want := told{nil, api.Fault{Kind: kind, Line: 10*at + 10}}
				if got := checkAll(t, l...); !got.same(want) {
					t.Errorf("All of %d lines, number %d wrong: %v, want %v", n, at, got, want)
				}
				for _, later := range wrong {
					for behind := at + 1; behind < n; behind++ {
						two := slices.Clone(l)
						later.No = 10*behind + 10
						two[behind] = later
						if got := checkAll(t, two...); !got.same(want) {
							t.Errorf("All of %d lines, %d and %d wrong: %v, want %v", n, at, behind, got, want)
						}
					}
				}
			}
		}
	}
	// The order is that of the list, not of the numbers.
	if got := all(api.Line{No: 9, Text: "'"}, api.Line{No: 1, Text: "["}); !got.same(told{nil, api.Fault{Kind: api.FQuote, Line: 9}}) {
		t.Error(got)
	}
}

func TestAllOfWildLines(t *testing.T) { // P11.2: Row of each, in order
	source := rand.New(rand.NewSource(112))
	for range 3000 {
		var l []api.Line
		var want []api.Piece
		for i := range source.Intn(12) {
			x, pieces := made(source, i+1)
			l, want = append(l, x), append(want, pieces...)
		}
		if got := checkAll(t, l...); !got.same(told{want, api.Fault{}}) {
			t.Fatalf("All(%q) = %v, want %v", fmt.Sprint(l), got, want)
		}
		for i := range l {
			if source.Intn(4) == 0 {
				l[i].Text = wild(source, `--  ::''""\\xnt4afAZ_.[?`, 20)
			}
		}
		checkAll(t, l...)
	}
}

// checkRising says of pieces whether each stands behind the one ahead of it: in its line further right, or in a later line.
func checkRising(t *testing.T, of string, pieces []api.Piece) {
	t.Helper()
	for i := 1; i < len(pieces); i++ {
		a, b := pieces[i-1], pieces[i]
		if b.Line < a.Line || b.Line == a.Line && b.Col <= a.Col {
			t.Fatalf("of %q the pieces %v, %v", of, a, b)
		}
	}
}

func TestPiecesStandBehind(t *testing.T) { // P11.3
	each(`-: a'"`, 7, func(s string) {
		got := row(api.Line{No: 1, Indent: 4, Text: s})
		checkRising(t, s, got.pieces)
		for i, p := range got.pieces { // within the line, and a text last, a key once
			if p.Col < 4 || p.Col >= 4+len(s) || p.Kind == api.PText && i != len(got.pieces)-1 || i > 0 && p.Kind < got.pieces[i-1].Kind || i > 0 && p.Kind == api.PKey && got.pieces[i-1].Kind == api.PKey {
				t.Fatalf("Row(%q) = %v", s, got)
			}
		}
	})
	source := rand.New(rand.NewSource(113))
	for range 5000 {
		text := wild(source, "--  ::aab'\"\n\n\n#", 80)
		lines, fault := line.Lines([]byte(text))
		if fault.Kind != 0 {
			continue
		}
		pieces, _ := lex.All(lines)
		checkRising(t, text, pieces)
	}
}

func TestArgumentsStay(t *testing.T) { // rule 3: neither the list nor its spare room is changed
	room := []api.Line{{No: 1, Text: "- a: 'b'"}, {No: 2, Indent: 2, Text: "c"}, {No: 3, Text: "'"}, {No: 4, Text: "[spare"}}
	before := slices.Clone(room)
	for n := range len(room) + 1 {
		lex.All(room[:n])
		if !slices.Equal(room, before) {
			t.Fatalf("All of %d changed what it was given: %v", n, room)
		}
	}
}

func TestAnswersAreNew(t *testing.T) { // rule 3: what one answer holds no other one does
	l := []api.Line{{No: 1, Text: "- a: 'b'"}, {No: 2, Indent: 2, Text: "- c"}}
	calls := []func() []api.Piece{
		func() []api.Piece { p, _ := lex.Row(l[0]); return p },
		func() []api.Piece { p, _ := lex.All(l); return p },
	}
	for i, call := range calls {
		first, second := call(), call()
		want := slices.Clone(first)
		for j := range first[:cap(first)] {
			first[:cap(first)][j] = api.Piece{Kind: 9}
		}
		if third := call(); !slices.Equal(second, want) || !slices.Equal(third, want) {
			t.Errorf("call %d: %v and %v, want %v", i, second, third, want)
		}
	}
}

func FuzzRow(f *testing.F) {
	for _, s := range []string{"", "- key: \"a b\"", "- - a: 'it''s'", `"\x41\n\q"`, "k: j: v", "k: - v", "[a", "-:"} {
		f.Add(3, s)
	}
	f.Fuzz(func(t *testing.T, indent int, s string) {
		l := api.Line{No: 2, Indent: indent, Text: s}
		got := checkRow(t, l)
		checkRising(t, s, got.pieces)
		if again := all(l); !again.same(got) {
			t.Fatalf("Row(%q) = %v, All = %v", s, got, again)
		}
	})
}
