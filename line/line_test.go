package line_test

import (
	"fmt"
	"math/rand"
	"regexp"
	"slices"
	"strings"
	"testing"

	"turncock/api"
	"turncock/line"
)

// stripped is what Strip answers.
type stripped struct {
	text string
	ok   bool
}

func (x stripped) String() string {
	return fmt.Sprintf("%q %v", x.text, x.ok)
}

func strip(s string) stripped {
	text, ok := line.Strip(s)
	return stripped{text, ok}
}

// What a line is made of, by P10.1: words with blanks between, and a remark. A word that a quote opens goes on behind the
// text's end up to the next blank; behind a text that a ' opened no other ' can stand, since two are passed by together.
const (
	single = `'(?:[^']|'')*'(?:[^ '][^ ]*)?`
	double = `"(?:[^"\\]|\\.)*"[^ ]*`
	bare   = `[^ '"#][^ ]*`
	word   = `(?:` + single + `|` + double + `|` + bare + `)`
)

var rowForm = regexp.MustCompile(`(?s)\A((?: *` + word + `(?: +` + word + `)*)?)(?:(?:\A| +)#.*| *)\z`)

// stripModel is P10.1 by an expression of a whole line.
func stripModel(s string) stripped {
	m := rowForm.FindStringSubmatch(s)
	if m == nil {
		return stripped{}
	}
	return stripped{m[1], true}
}

// checkStrip holds Strip against the model.
func checkStrip(t *testing.T, s string) stripped {
	t.Helper()
	got, want := strip(s), stripModel(s)
	if got != want {
		t.Fatalf("Strip(%q) = %v, want %v", s, got, want)
	}
	return got
}

// each calls f with each text of up to most of the signs, once.
func each(signs string, most int, f func(s string)) {
	f("")
	if most == 0 {
		return
	}
	for i := range len(signs) {
		each(signs, most-1, func(s string) { f(signs[i:i+1] + s) })
	}
}

// stripCase is a text, and what must be left of it; wrong: it has a quoted text that does not end.
type stripCase struct {
	s, want string
	wrong   bool
}

func checkStripCases(t *testing.T, cases []stripCase) {
	t.Helper()
	for _, c := range cases {
		if got, want := strip(c.s), (stripped{c.want, !c.wrong}); got != want {
			t.Errorf("Strip(%q) = %v, want %v", c.s, got, want)
		}
		if got, want := stripModel(c.s), (stripped{c.want, !c.wrong}); got != want {
			t.Errorf("the model of Strip(%q) = %v, want %v", c.s, got, want)
		}
	}
}

func TestStripRemarks(t *testing.T) { // P10.1: where a '#' stands
	checkStripCases(t, []stripCase{
		{"", "", false},
		{"a: b  # c", "a: b", false},
		{"#", "", false}, {"# c", "", false}, {"#c", "", false}, {"##", "", false}, {"# #", "", false},
		{" #", "", false}, {" # c", "", false}, {"   #c", "", false},
		{"a #", "a", false}, {"a #b", "a", false}, {"a   #b", "a", false}, {"a # b # c", "a", false}, {"a b #c", "a b", false},
		{"a#", "a#", false}, {"a#b", "a#b", false}, {"a# b", "a# b", false}, {"a## b", "a## b", false}, {"a#b #c", "a#b", false}, {"a# #", "a#", false},
		{"a\t#b", "a\t#b", false}, {"a\n#b", "a\n#b", false}, {"\t#b", "\t#b", false}, {"\\# b", "\\# b", false}, {"\\ # b", "\\", false}, {"a\x00#b", "a\x00#b", false}, {"a\u00a0#b", "a\u00a0#b", false},
		{"'a' # b", "'a'", false}, {"'a'# b", "'a'# b", false}, {"'a'#b #c", "'a'#b", false}, {"'a' #", "'a'", false}, {"'a'#", "'a'#", false},
		{"\"a\" # b", "\"a\"", false}, {"\"a\"# b", "\"a\"# b", false}, {"\"a\"#b #c", "\"a\"#b", false}, {"\"a\" #", "\"a\"", false}, {"\"a\"#", "\"a\"#", false},
		{"' '#b", "' '#b", false}, {"\" \"#b", "\" \"#b", false}, {"' ' #b", "' '", false}, {"\" \" #b", "\" \"", false},
	})
}

func TestStripRemarksHideQuotes(t *testing.T) { // P10.1: all behind the sign is the remark
	checkStripCases(t, []stripCase{
		{"# 'a", "", false}, {"# \"a", "", false}, {"#'", "", false}, {"#\"", "", false}, {"a # 'b", "a", false}, {"a # \"b", "a", false}, {"a #' ", "a", false}, {"'a' # it's 'b", "'a'", false}, {"\"a\" # \"b \\", "\"a\"", false},
		{"# a\n'b", "", false}, {"a # b\nc", "a", false},
	})
}

func TestStripOpeningQuotes(t *testing.T) { // P10.1: where a quote stands
	checkStripCases(t, []stripCase{
		{"'a'", "'a'", false}, {"'a", "", true}, {"'", "", true}, {"''", "''", false}, {" '", "", true}, {" 'a'", " 'a'", false}, {"b 'a", "", true}, {"b 'a'", "b 'a'", false}, {"b '", "", true}, {"b  '", "", true},
		{"b'a", "b'a", false}, {"b'", "b'", false}, {"b'a # c", "b'a", false}, {"b' # c", "b'", false}, {"b'a # c'", "b'a", false}, {"it's # 'x", "it's", false}, {":'a # b'", ":'a", false}, {"\t'a", "\t'a", false}, {"\\'a", "\\'a", false},
		{"\"a\"", "\"a\"", false}, {"\"a", "", true}, {"\"", "", true}, {"\"\"", "\"\"", false}, {" \"", "", true}, {" \"a\"", " \"a\"", false}, {"b \"a", "", true}, {"b \"a\"", "b \"a\"", false}, {"b \"", "", true}, {"b  \"", "", true},
		{"b\"a", "b\"a", false}, {"b\"", "b\"", false}, {"b\"a # c", "b\"a", false}, {"b\" # c", "b\"", false}, {"b\"a # c\"", "b\"a", false}, {":\"a # b\"", ":\"a", false}, {"\t\"a", "\t\"a", false}, {"\\\"a", "\\\"a", false},
		{"#'a", "", false}, {"-'a", "-'a", false}, {"- 'a", "", true}, {"- 'a'", "- 'a'", false},
	})
}

func TestStripSingleQuotes(t *testing.T) { // P10.1: two ' side by side
	checkStripCases(t, []stripCase{
		{"'''", "", true}, {"''''", "''''", false}, {"'''''", "", true}, {"''''''", "''''''", false},
		{"'''a'", "'''a'", false}, {"'''a", "", true}, {"'''a # b'", "'''a # b'", false}, {"'''a' # b", "'''a'", false}, {"''' # '", "''' # '", false}, {"''' # ' # x", "''' # '", false},
		{"'a'''", "'a'''", false}, {"'a''", "", true}, {"'a''' # b", "'a'''", false}, {"'a'' # b", "", true}, {"'a'' # b'", "'a'' # b'", false}, {"'a''''", "", true},
		{"'it''s'", "'it''s'", false}, {"'it''s # one' b", "'it''s # one' b", false}, {"'a''b''c' # d", "'a''b''c'", false}, {"'a'' ''b # c' # d", "'a'' ''b # c'", false},
		{"'' # a", "''", false}, {"''# a", "''# a", false}, {"''a # b", "''a", false}, {"'' 'a", "", true}, {"'' ''", "'' ''", false}, {"'' '", "", true}, {"'a' '", "", true}, {"'a'b'c # d", "'a'b'c", false}, {"'a'b''c # d'", "'a'b''c", false},
		{"'a\\'", "'a\\'", false}, {"'a\\' # b", "'a\\'", false}, {"'a\\'b # c'", "'a\\'b", false}, {"'\\\\'", "'\\\\'", false}, {"'\\", "", true}, {"'a\\''", "", true},
	})
}

func TestStripDoubleQuotes(t *testing.T) { // P10.1: a backslash, ahead of what, and two " side by side
	checkStripCases(t, []stripCase{
		{"\"\\\"", "", true}, {"\"\\\"\"", "\"\\\"\"", false}, {"\"a\\\" # b\"", "\"a\\\" # b\"", false}, {"\"a\\\" # b\" # c", "\"a\\\" # b\"", false}, {"\"a\\\" # b", "", true},
		{"\"\\\\\"", "\"\\\\\"", false}, {"\"\\\\\" # a", "\"\\\\\"", false}, {"\"\\\\\\\"", "", true}, {"\"\\\\\\\"\"", "\"\\\\\\\"\"", false}, {"\"\\\\\\\\\" # a\"", "\"\\\\\\\\\"", false}, {"\"\\\\ # a", "", true},
		{"\"\\a\"", "\"\\a\"", false}, {"\"\\a\" # b", "\"\\a\"", false}, {"\"\\ \"", "\"\\ \"", false}, {"\"\\ # a\" # b", "\"\\ # a\"", false}, {"\"\\#\" # b", "\"\\#\"", false}, {"\"\\'\" # b", "\"\\'\"", false}, {"\"\\x41\" # b", "\"\\x41\"", false},
		{"\"\\", "", true}, {"\"a\\", "", true}, {"\"a # b\\", "", true}, {"a \"\\", "", true}, {"\"\\\\\\", "", true},
		{"\"a\"\\", "\"a\"\\", false}, {"\"a\"\\\" # b", "\"a\"\\\"", false}, {"a\\\" # b", "a\\\"", false}, {"\\", "\\", false}, {"\\\"", "\\\"", false}, {"\\ \"a", "", true}, {"\\ \"a\"", "\\ \"a\"", false}, {"a \\\"b", "a \\\"b", false},
		{"\"a\"\"", "\"a\"\"", false}, {"\"a\"\"b # c\"", "\"a\"\"b", false}, {"\"\"\"", "\"\"\"", false}, {"\"\"\"\"", "\"\"\"\"", false}, {"\"\"\" # a\"", "\"\"\"", false}, {"\"\" \"", "", true}, {"\"\" # \"", "\"\"", false}, {"\"\"# \"", "", true},
	})
}

func TestStripQuotesInQuotes(t *testing.T) { // P10.1: the one in what the other opened, and a remark's sign in each
	checkStripCases(t, []stripCase{
		{"'\"'", "'\"'", false}, {"'a \"b' # c\"", "'a \"b'", false}, {"' \" '", "' \" '", false}, {"' \" ' # x", "' \" '", false}, {"' \" '# x", "' \" '# x", false}, {"'\"", "", true}, {"'\"\"", "", true}, {"'a \"b' c\"", "'a \"b' c\"", false}, {"'a \\\"' # b", "'a \\\"'", false},
		{"\"'\"", "\"'\"", false}, {"\"a 'b\" # c'", "\"a 'b\"", false}, {"\" ' \"", "\" ' \"", false}, {"\" ' \" # x", "\" ' \"", false}, {"\" ' \"# x", "\" ' \"# x", false}, {"\"'", "", true}, {"\"''", "", true}, {"\"a 'b\" c'", "\"a 'b\" c'", false}, {"\"a ''\" # b", "\"a ''\"", false},
		{"' # '", "' # '", false}, {"'a # b'", "'a # b'", false}, {"a 'x # y' # z", "a 'x # y'", false}, {"'#'", "'#'", false}, {"'# a", "", true}, {"' # a", "", true}, {"a 'b # c", "", true}, {"'a #", "", true}, {"a ' #' #'", "a ' #'", false},
		{"\" # \"", "\" # \"", false}, {"\"a # b\"", "\"a # b\"", false}, {"a \"x # y\" # z", "a \"x # y\"", false}, {"\"#\"", "\"#\"", false}, {"\"# a", "", true}, {"\" # a", "", true}, {"a \"b # c", "", true}, {"\"a #", "", true}, {"a \" #\" #\"", "a \" #\"", false},
	})
}

func TestStripTwoQuotedTexts(t *testing.T) { // P10.1: behind the first one all goes on likewise
	for _, a := range []string{"'x # y'", "\"x # y\"", "'it''s # '", "\"\\\" # \"", "''", "\"\"", "' \"'", "\" '\""} {
		for _, b := range []string{"'z # w'", "\"z # w\"", "''' # '", "\"\\\\ # \"", "''", "\"\"", "'\" '", "\"' \""} {
			s := a + " " + b
			checkStripCases(t, []stripCase{
				{s, s, false}, {s + " # c", s, false}, {s + "# c", s + "# c", false}, {a + " c " + b + " #", a + " c " + b, false}, {"k: " + s + "  # 'c", "k: " + s, false},
				{s + " 'c", "", true}, {s + " \"c", "", true}, {s + "c'd # e", s + "c'd", false}, {a + " " + b[:len(b)-1], "", true}, {a + " # " + b[:len(b)-1], a, false},
			})
		}
	}
	checkStripCases(t, []stripCase{
		{"'a''b # c'", "'a''b # c'", false}, {"'a'\"b # c\"", "'a'\"b", false}, {"\"a\"'b # c'", "\"a\"'b", false}, {"\"a\"\"b # c\"", "\"a\"\"b", false}, {"'a'b 'c # d' # e", "'a'b 'c # d'", false}, {"'a' 'b' 'c' # d", "'a' 'b' 'c'", false}, {"'a' 'b' 'c # d", "", true},
	})
}

func TestStripBlanks(t *testing.T) { // P10.1: those at the end go, and byte 32 alone is one
	checkStripCases(t, []stripCase{
		{" ", "", false}, {"    ", "", false}, {"  a", "  a", false}, {"a  ", "a", false}, {"  a  ", "  a", false}, {"a b", "a b", false}, {"a   b ", "a   b", false}, {"  a   b  # c  ", "  a   b", false},
		{"'a'  ", "'a'", false}, {"' a '  ", "' a '", false}, {"\" a \"  ", "\" a \"", false}, {"' '", "' '", false}, {"\" \" ", "\" \"", false}, {"'a  ", "", true}, {"\"a  ", "", true}, {"a '  ", "", true},
		{"a\t", "a\t", false}, {"a \t", "a \t", false}, {"a\t ", "a\t", false}, {"a\n ", "a\n", false}, {"a \r", "a \r", false}, {"a\u00a0", "a\u00a0", false}, {"a\u2003 ", "a\u2003", false}, {"\t", "\t", false}, {"a\v\f ", "a\v\f", false}, {"a\x00 ", "a\x00", false}, {"a\t# ", "a\t#", false}, {"a\t #b", "a\t", false},
	})
}

func TestStripOfEachByte(t *testing.T) { // P10.1: each byte ahead of, behind and in all that a line is made of
	frames := []string{"?", "a?", "?a", "a?b", " ?", "? ", " ? ", "?#b", "a?#b", "?'b", "a?'b", "?\"b", "a?\"b", "a #?", "# ?'", "'?'", "'?", "'a?' # b", "\"?\"", "\"?", "\"\\?\" # b", "\"\\?", "\"a?\" # b", "'a'? # b", "\"a\"? # b", "'a'?'b", "\"a\"?\"b", "'? # ?'", "? # ?"}
	for i := range 256 {
		for _, f := range frames {
			checkStrip(t, strings.ReplaceAll(f, "?", string([]byte{byte(i)})))
		}
	}
}

func TestStripOfShortTexts(t *testing.T) { // P10.1
	right, cut, wrong := 0, 0, 0
	each(`'"# \a`, 7, func(s string) {
		switch got := checkStrip(t, s); {
		case !got.ok:
			wrong++
		case got.text != s:
			cut++
		default:
			right++
		}
	})
	if right < 10000 || cut < 10000 || wrong < 10000 {
		t.Errorf("%d stay, %d are cut, %d are wrong", right, cut, wrong)
	}
}

// wild is a text of up to most bytes, most of them signs.
func wild(source *rand.Rand, signs string, most int) string {
	var b []byte
	for range source.Intn(most + 1) {
		if source.Intn(12) == 0 {
			b = append(b, byte(source.Intn(256)))
		} else {
			b = append(b, signs[source.Intn(len(signs))])
		}
	}
	return string(b)
}

func TestStripOfWildTexts(t *testing.T) { // P10.1
	source := rand.New(rand.NewSource(10))
	for range 20000 {
		checkStrip(t, wild(source, `''""## \abcdefgh:-`, 60))
	}
}

func TestStripOfLongTexts(t *testing.T) { // P10.1: no text is too long for Strip
	const n = 1 << 20
	long := strings.Repeat("ab", n)
	checkStripCasesLong(t, []stripCase{
		{long, long, false}, {long + " # " + long, long, false}, {"# " + long, "", false}, {"'" + long, "", true}, {"\"" + long, "", true}, {"'" + long + "' # " + long, "'" + long + "'", false}, {strings.Repeat(" ", n), "", false}, {"a" + strings.Repeat(" ", n), "a", false},
		{strings.Repeat("'", n), strings.Repeat("'", n), false}, {strings.Repeat("'", n+1), "", true}, {"\"" + strings.Repeat("\\\"", n), "", true}, {"\"" + strings.Repeat("\\\"", n) + "\" #", "\"" + strings.Repeat("\\\"", n) + "\"", false}, {strings.Repeat("'a' ", n), strings.Repeat("'a' ", n)[:4*n-1], false},
	})
}

// checkStripCasesLong tells no text whole, and does not ask the model.
func checkStripCasesLong(t *testing.T, cases []stripCase) {
	t.Helper()
	for _, c := range cases {
		if got := strip(c.s); got != (stripped{c.want, !c.wrong}) {
			t.Errorf("Strip(%.20q ..) = %.20q .. (%d bytes), %v", c.s, got.text, len(got.text), got.ok)
		}
	}
}

func TestStripAgain(t *testing.T) { // P10.3: of what is left nothing goes any more, and a remark and blanks behind it go
	each(`'"# \a`, 6, func(s string) {
		got := strip(s)
		if !got.ok {
			return
		}
		for _, tail := range []string{"", " ", "    ", " #", " # a", "  # 'a", " #\"", "  ## # '' \"\\  "} {
			if again := strip(got.text + tail); again != got {
				t.Fatalf("Strip(%q) = %v, and Strip(%q) = %v", s, got, got.text+tail, again)
			}
		}
	})
}

// told is what Lines answers.
type told struct {
	lines []api.Line
	fault api.Fault
}

func lines(s string) told {
	l, f := line.Lines([]byte(s))
	return told{l, f}
}

func (a told) same(b told) bool {
	return slices.Equal(a.lines, b.lines) && a.fault == b.fault
}

var wrongByte = regexp.MustCompile(`[\x00-\x1f\x7f]`)

// linesModel is P10.2 upon the model of Strip.
func linesModel(s string) told {
	if len(s) > 16384 {
		return told{nil, api.Fault{Kind: 1, Line: 1}}
	}
	var out told
	for i, row := range strings.Split(s, "\n") {
		indent := 0
		for indent < len(row) && row[indent] == 32 {
			indent++
		}
		left := stripModel(row[indent:])
		switch {
		case wrongByte.MatchString(row):
			return told{nil, api.Fault{Kind: 2, Line: i + 1}}
		case !left.ok:
			return told{nil, api.Fault{Kind: 3, Line: i + 1}}
		case left.text != "":
			out.lines = append(out.lines, api.Line{No: i + 1, Indent: indent, Text: left.text})
		}
	}
	return out
}

func checkLines(t *testing.T, s string) told {
	t.Helper()
	got, want := lines(s), linesModel(s)
	if !got.same(want) {
		t.Fatalf("Lines(%.300q) = %.300q, want %.300q", s, fmt.Sprint(got), fmt.Sprint(want))
	}
	return got
}

// linesCase is a text and what must be told of it, as fmt tells it.
type linesCase struct{ s, want string }

func checkLinesCases(t *testing.T, cases []linesCase) {
	t.Helper()
	for _, c := range cases {
		if got := fmt.Sprint(lines(c.s)); got != c.want {
			t.Errorf("Lines(%q) = %q, want %q", c.s, got, c.want)
		}
		if got := fmt.Sprint(linesModel(c.s)); got != c.want {
			t.Errorf("the model of Lines(%q) = %q, want %q", c.s, got, c.want)
		}
	}
}

func TestLinesExample(t *testing.T) { // P10.2: the chapter's example, and the whole's first one
	checkLinesCases(t, []linesCase{
		{"  a: b  # c", "{[{1 2 a: b}] {0 0}}"},
		{"domains:\n  - domain: shop\n    descriptors:\n      - key: user\n        rate_limit:\n          unit: minute\n          requests_per_unit: 10\n", "{[{1 0 domains:} {2 2 - domain: shop} {3 4 descriptors:} {4 6 - key: user} {5 8 rate_limit:} {6 10 unit: minute} {7 10 requests_per_unit: 10}] {0 0}}"},
	})
}

func TestLinesCounted(t *testing.T) { // P10.2: No, Indent, and lines of which nothing is left
	checkLinesCases(t, []linesCase{
		{"", "{[] {0 0}}"}, {"\n", "{[] {0 0}}"}, {"\n\n\n", "{[] {0 0}}"}, {" ", "{[] {0 0}}"}, {"   \n  ", "{[] {0 0}}"}, {"#", "{[] {0 0}}"}, {"# a\n  # b\n", "{[] {0 0}}"},
		{"a", "{[{1 0 a}] {0 0}}"}, {"a\n", "{[{1 0 a}] {0 0}}"}, {"a\nb", "{[{1 0 a} {2 0 b}] {0 0}}"}, {"a\nb\n", "{[{1 0 a} {2 0 b}] {0 0}}"}, {"a\nb\n\n", "{[{1 0 a} {2 0 b}] {0 0}}"}, {"a\n  b", "{[{1 0 a} {2 2 b}] {0 0}}"}, {"a\n  b\n", "{[{1 0 a} {2 2 b}] {0 0}}"},
		{"\na", "{[{2 0 a}] {0 0}}"}, {"\n\n\n   a", "{[{4 3 a}] {0 0}}"}, {"   \na", "{[{2 0 a}] {0 0}}"}, {"# x\na", "{[{2 0 a}] {0 0}}"}, {"   # x\n a", "{[{2 1 a}] {0 0}}"},
		{"a\n\nb\n   \nc\n# x\nd\n   # y\ne", "{[{1 0 a} {3 0 b} {5 0 c} {7 0 d} {9 0 e}] {0 0}}"}, {"a: b # c\n\n   # d\n  - x  \ny", "{[{1 0 a: b} {4 2 - x} {5 0 y}] {0 0}}"},
		{" a", "{[{1 1 a}] {0 0}}"}, {"          a", "{[{1 10 a}] {0 0}}"}, {"     a b  ", "{[{1 5 a b}] {0 0}}"}, {"  a\n a\na\n   a", "{[{1 2 a} {2 1 a} {3 0 a} {4 3 a}] {0 0}}"}, {"a\na\na", "{[{1 0 a} {2 0 a} {3 0 a}] {0 0}}"},
		{" '  '", "{[{1 1 '  '}] {0 0}}"}, {"''", "{[{1 0 ''}] {0 0}}"}, {"\"\"", "{[{1 0 \"\"}] {0 0}}"},
	})
}

func TestLinesFronts(t *testing.T) { // P10.2: a quote and a remark's sign behind the blanks at a line's front
	for _, front := range []string{"", " ", "  ", "       "} {
		n := len(front)
		checkLinesCases(t, []linesCase{
			{front + "# a", "{[] {0 0}}"}, {front + "#", "{[] {0 0}}"}, {front + "'a # b' # c", fmt.Sprintf("{[{1 %d 'a # b'}] {0 0}}", n)}, {front + "\"a # b\" # c", fmt.Sprintf("{[{1 %d \"a # b\"}] {0 0}}", n)}, {front + "a'b # c", fmt.Sprintf("{[{1 %d a'b}] {0 0}}", n)},
			{front + "'a", "{[] {3 1}}"}, {front + "\"a", "{[] {3 1}}"}, {front + "'", "{[] {3 1}}"}, {front + "\"", "{[] {3 1}}"}, {front + "# 'a", "{[] {0 0}}"}, {front + "'''", "{[] {3 1}}"}, {front + "\"\\\"", "{[] {3 1}}"},
			{"a\n" + front + "'b", "{[] {3 2}}"}, {"a\n" + front + "#'b\nc", "{[{1 0 a} {3 0 c}] {0 0}}"},
		})
	}
}

func TestLinesOfEachByte(t *testing.T) { // P10.2: alone, behind blanks, in a remark, in a quoted text, and elsewhere
	for i := range 256 {
		sign := string([]byte{byte(i)})
		for _, f := range []string{"?", "  ?", "# ?", "a # b?", "'a?b'", "\"a?b\"", "a?", "?a", "a?b", "  a ?", "a: b ?  ", "\"a\\?\"", "a\n?", "?\na", "a\n  # ?\nb", "a\n'?'\nb"} {
			s := strings.ReplaceAll(f, "?", sign)
			got := checkLines(t, s)
			if i == 10 { // ends the line
				continue
			}
			if wrong := got.fault.Kind == api.FByte; wrong != (i < 32 || i == 127) {
				t.Errorf("Lines(%q) tells %v", s, got.fault)
			}
			if want := 1 + strings.Count(strings.Split(f, "?")[0], "\n"); got.fault.Kind != 0 && got.fault.Line != want {
				t.Errorf("Lines(%q) tells %v, want line %d", s, got.fault, want)
			}
		}
	}
	checkLinesCases(t, []linesCase{
		{"a\n\tb", "{[] {2 2}}"}, {"a\nb\x7f", "{[] {2 2}}"}, {"a\r\nb", "{[] {2 1}}"}, {"a\nb\r\n", "{[] {2 2}}"}, {"\x00", "{[] {2 1}}"}, {"a\nb\n# c\t", "{[] {2 3}}"}, {"\x1f", "{[] {2 1}}"},
		{"\x80\xff", "{[{1 0 \x80\xff}] {0 0}}"}, {"a\nx\x80y", "{[{1 0 a} {2 0 x\x80y}] {0 0}}"}, {"~", "{[{1 0 ~}] {0 0}}"}, {"'é' # ü", "{[{1 0 'é'}] {0 0}}"},
	})
}

func TestLinesFirstFault(t *testing.T) { // P10.2: line by line; in one line the byte first
	checkLinesCases(t, []linesCase{
		{"'a\x01", "{[] {2 1}}"}, {"\x01'a", "{[] {2 1}}"}, {"\x01 'a", "{[] {2 1}}"}, {" \"a\t", "{[] {2 1}}"}, {"'a # \x7f", "{[] {2 1}}"}, {"b\n'a\x01\n'", "{[] {2 2}}"},
		{"'a\n\x01", "{[] {3 1}}"}, {"\x01\n'a", "{[] {2 1}}"}, {"a\n'b\nc\n\x01", "{[] {3 2}}"}, {"a\n\x01\nc\n'b", "{[] {2 2}}"}, {"'a\n'b", "{[] {3 1}}"}, {"\x01\n\x02", "{[] {2 1}}"}, {"\n\n# x\n  'b\n\x7f", "{[] {3 4}}"}, {"\n\n# x\n  b\x7f\n'c", "{[] {2 4}}"},
		{"a 'b\nc'", "{[] {3 1}}"}, {"\"a\\\nb\"", "{[] {3 1}}"}, {"a\nb 'c' d\ne \"f", "{[] {3 3}}"}, {"a # 'b\nc'", "{[{1 0 a} {2 0 c'}] {0 0}}"},
	})
}

func TestLinesLength(t *testing.T) { // P10.2: MaxText bytes, and one more
	const most = 16384
	big := told{nil, api.Fault{Kind: api.FBig, Line: 1}}
	for _, sign := range []string{"a", "\n", " ", "#", "'", "\"", "\x01", "\x7f", "\xff", "a\n", "  a # b\n", "'\n", "\x01\n"} {
		full := strings.Repeat(sign, most)[:most]
		if got := checkLines(t, full); got.fault.Kind == api.FBig {
			t.Errorf("Lines of %d times %q tells %v", most, sign, got.fault)
		}
		checkLines(t, full[:most-1])
		for _, more := range []string{sign[:1], "\x01", "'", "\n"} {
			for _, s := range []string{full + more, more + full, full + strings.Repeat(more, 1000), full + strings.Repeat(more, 1<<20)} {
				if got := lines(s); !got.same(big) {
					t.Errorf("Lines of %d bytes of %q and %q tells %d lines and %v", len(s), sign, more, len(got.lines), got.fault)
				}
			}
		}
	}
	rows := lines(strings.Repeat("a\n", most/2))
	if len(rows.lines) != most/2 || rows.lines[most/2-1] != (api.Line{No: most / 2, Text: "a"}) {
		t.Errorf("%d lines of %d", len(rows.lines), most/2)
	}
	deep := lines(strings.Repeat(" ", most-1) + "a")
	if !slices.Equal(deep.lines, []api.Line{{No: 1, Indent: most - 1, Text: "a"}}) {
		t.Errorf("a line of %d blanks ahead tells %v", most-1, deep)
	}
	wide := lines("\n" + strings.Repeat("x", most-1))
	if !slices.Equal(wide.lines, []api.Line{{No: 2, Text: strings.Repeat("x", most-1)}}) {
		t.Errorf("a line of %d bytes tells %d lines", most-1, len(wide.lines))
	}
	last := lines(strings.Repeat("\n", most-1) + "'")
	if !last.same(told{nil, api.Fault{Kind: api.FQuote, Line: most}}) {
		t.Errorf("a quote in line %d tells %v", most, last)
	}
}

func TestLinesOfShortTexts(t *testing.T) { // P10.2
	kinds := map[int]int{}
	each("\n'\"# a\x01", 6, func(s string) {
		kinds[checkLines(t, s).fault.Kind]++
	})
	if kinds[0] < 10000 || kinds[api.FByte] < 10000 || kinds[api.FQuote] < 10000 {
		t.Errorf("of each kind: %v", kinds)
	}
}

func TestLinesOfWildTexts(t *testing.T) { // P10.2
	source := rand.New(rand.NewSource(11))
	for range 10000 {
		checkLines(t, wild(source, "\n\n\n''\"\"##    \\abcdefgh:-", 80))
		s := wild(source, "\n\n\n''\"\"##    \\abcdefgh:-", 80)
		checkLines(t, wrongByte.ReplaceAllString(s, "\n"))
	}
}

func TestLinesAreStripped(t *testing.T) { // P10.2: what Strip tells of what stands behind the blanks
	each("'\"# \\a", 6, func(s string) {
		got, want := lines(s), strip(strings.TrimLeft(s, " "))
		if (got.fault == api.Fault{}) != want.ok {
			t.Fatalf("Lines(%q) = %v, and Strip tells %v", s, got, want)
		}
		if want.text == "" && len(got.lines) != 0 || want.text != "" && (len(got.lines) != 1 || got.lines[0].Text != want.text) {
			t.Fatalf("Lines(%q) = %v, and Strip tells %v", s, got, want)
		}
	})
}

// silence is what says nothing behind a line that says something, and in a line of its own.
var silence = []string{"", " ", "     ", " #", " # a", "  # it's \"so", " #'", "   # # \\ \xff"}

// spread puts what says nothing behind each row of s and in rows between, and tells in which row each of them stands then.
func spread(source *rand.Rand, s string) (string, []int) {
	var rows []string
	var place []int
	quiet := func() string { return silence[source.Intn(len(silence))] }
	for _, row := range strings.Split(s, "\n") {
		for range source.Intn(3) {
			rows = append(rows, quiet())
		}
		rows = append(rows, row+quiet())
		place = append(place, len(rows))
	}
	for range source.Intn(3) {
		rows = append(rows, quiet())
	}
	return strings.Join(rows, "\n"), place
}

func TestWhatSaysNothing(t *testing.T) { // P10.3
	source := rand.New(rand.NewSource(12))
	said := 0
	for range 20000 {
		s := wrongByte.ReplaceAllString(wild(source, "\n\n'\"#    \\abcdefgh:-", 40), "\n")
		before := lines(s)
		if before.fault.Kind != 0 {
			continue
		}
		wide, place := spread(source, s)
		want := slices.Clone(before.lines)
		for i := range want {
			want[i].No = place[want[i].No-1]
			said++
		}
		if got := lines(wide); !got.same(told{lines: want}) {
			t.Fatalf("Lines(%q) = %v, and Lines(%q) = %v", s, before, wide, got)
		}
	}
	if said < 10000 {
		t.Errorf("only %d lines", said)
	}
}

func TestWhatSaysNothingAheadOfFaults(t *testing.T) { // P10.3: lines that say nothing turn a fault's line alone
	for _, wrong := range []string{"'a", "  \"a", "a\x01", "# \t", "b\n'a", "b # c\n\n\x7f"} {
		before := lines(wrong)
		for n, quiet := range silence {
			want := told{fault: api.Fault{Kind: before.fault.Kind, Line: before.fault.Line + n}}
			for _, tail := range []string{"", "\n", "\n" + quiet, "\n" + quiet + "\n"} {
				if got := lines(strings.Repeat(quiet+"\n", n) + wrong + tail); before.fault.Kind == 0 || !got.same(want) {
					t.Errorf("%d times %q ahead of %q: %v, want %v", n, quiet, wrong, got, want)
				}
			}
		}
	}
}

func TestArgumentsStay(t *testing.T) {
	for _, s := range []string{"  a: b  # c\n'd'  \n", "a\n'b", "a\x01", "", strings.Repeat("a\n", 10000)} {
		room := []byte(s + "spare 'room \x01")
		before := slices.Clone(room)
		line.Lines(room[:len(s)])
		if !slices.Equal(room, before) {
			t.Errorf("Lines changed %.100q", s)
		}
	}
}

func TestAnswersAreNew(t *testing.T) {
	text := []byte("  a: b  # c\n\n'd'\nx")
	want := []api.Line{{No: 1, Indent: 2, Text: "a: b"}, {No: 3, Text: "'d'"}, {No: 4, Text: "x"}}
	first, _ := line.Lines(text)
	second, _ := line.Lines(text)
	for i := range text {
		text[i] = '?'
	}
	if !slices.Equal(first, want) {
		t.Errorf("the answer became %v with its argument", first)
	}
	first[1].Text = "changed"
	_ = append(first[:1], api.Line{})
	if !slices.Equal(second, want) {
		t.Errorf("the answer became %v with another", second)
	}
	if got := lines("  a: b  # c\n\n'd'\nx"); !got.same(told{lines: want}) {
		t.Errorf("another time Lines tells %v", got)
	}
	if l, f := line.Lines(nil); len(l) != 0 || f != (api.Fault{}) {
		t.Errorf("Lines(nil) = %v, %v", l, f)
	}
}

func FuzzStrip(f *testing.F) {
	for _, s := range []string{"", "a: b  # c", "'it''s # one' b", "\"x\\\" # y\" # z", "a 'b'# c"} {
		f.Add(s)
	}
	f.Fuzz(func(t *testing.T, s string) { checkStrip(t, s) })
}

func FuzzLines(f *testing.F) {
	for _, s := range []string{"", "  a: b  # c", "a\n 'b", "a\nb\x7f", "a\n\n  # b\nc\n"} {
		f.Add(s)
	}
	f.Fuzz(func(t *testing.T, s string) { checkLines(t, s) })
}
