package desc_test

import (
	"fmt"
	"math/rand"
	"net/url"
	"reflect"
	"regexp"
	"slices"
	"strings"
	"testing"

	"turncock/api"
	"turncock/desc"
)

// own are the signs that stand for themselves, written out one by one.
const own = "abcdefghijklmnopqrstuvwxyzABCDEFGHIJKLMNOPQRSTUVWXYZ0123456789-_./:"

// of makes a descriptor of keys and values, by turns.
func of(words ...string) api.Desc {
	var d api.Desc
	for i := 0; i < len(words); i += 2 {
		d.Entries = append(d.Entries, api.Entry{Key: words[i], Value: words[i+1]})
	}
	return d
}

// many has n entries that differ in their values.
func many(n int) api.Desc {
	var d api.Desc
	for i := range n {
		d.Entries = append(d.Entries, api.Entry{Key: "k", Value: fmt.Sprint(i)})
	}
	return d
}

// allBytes is each byte once.
func allBytes() string {
	var b []byte
	for i := range 256 {
		b = append(b, byte(i))
	}
	return string(b)
}

func TestNameLength(t *testing.T) { // P6.1
	for n := range 300 {
		want := n >= 1 && n <= 64
		for _, sign := range []string{"x", "!", "~", "="} {
			if got := desc.Name(strings.Repeat(sign, n)); got != want {
				t.Errorf("Name of %d times %q = %v, want %v", n, sign, got, want)
			}
		}
	}
	for _, n := range []int{1 << 16, 1<<16 + 1, 1 << 20} {
		if desc.Name(strings.Repeat("x", n)) {
			t.Errorf("Name of %d bytes", n)
		}
	}
}

func TestNameBytes(t *testing.T) { // P6.1: each byte alone, and at either end and in the middle of what is a name else
	for i := range 256 {
		sign := string([]byte{byte(i)})
		want := i >= 33 && i <= 126
		for _, s := range []string{sign, sign + "a", "a" + sign, "a" + sign + "a", strings.Repeat("a", 63) + sign, sign + strings.Repeat("a", 63)} {
			if got := desc.Name(s); got != want {
				t.Errorf("Name(%q) = %v, want %v", s, got, want)
			}
		}
	}
	for _, s := range []string{"é", "日本", "a\u00a0b", "\u2028", "a\n", "\ta", "a b"} {
		if desc.Name(s) {
			t.Errorf("Name(%q)", s)
		}
	}
	for _, s := range []string{"!~", "user", "=", ",", "%", "a=b,c", "#", "|", "\"'`"} {
		if !desc.Name(s) {
			t.Errorf("not Name(%q)", s)
		}
	}
}

var nameForm = regexp.MustCompile(`\A[!-~]{1,64}\z`)

// checkModel is P6.1's Check.
func checkModel(d api.Desc) api.Errno {
	ok := 1 <= len(d.Entries) && len(d.Entries) <= 8
	for _, e := range d.Entries {
		ok = ok && nameForm.MatchString(e.Key) && len(e.Value) <= 128
	}
	if ok {
		return api.OK
	}
	return api.ErrArg
}

// edgeDescs are descriptors at each of Check's edges, right ones and wrong ones.
func edgeDescs() []api.Desc {
	list := []api.Desc{{}, {Entries: []api.Entry{}}}
	for n := range 12 {
		list = append(list, many(n))
	}
	list = append(list, many(1000))
	x, v := strings.Repeat("x", 64), strings.Repeat("v", 128)
	words := []string{"a", "", x, x + "x", "a b", "!~", "\x7f", "\xe9", "=", ",", "%", "\n"}
	values := []string{"", "v", v, v + "v", strings.Repeat("\x00", 128), strings.Repeat("\xff", 128), strings.Repeat("é", 64), strings.Repeat("é", 64) + "x", strings.Repeat("é", 65), allBytes()[:128], allBytes()[128:], allBytes(), "=", ",", "%", "\n"}
	for _, key := range words {
		for _, value := range values {
			list = append(list, of(key, value), of("a", "b", key, value), of(key, value, "a", "b"), of("a", "b", key, value, "c", "d"))
			full, over := many(7), many(8)
			full.Entries = append(full.Entries, api.Entry{Key: key, Value: value})
			over.Entries = append(over.Entries, api.Entry{Key: key, Value: value})
			list = append(list, full, over)
		}
	}
	return list
}

func TestCheck(t *testing.T) { // P6.1
	right := 0
	for _, d := range edgeDescs() {
		got, want := desc.Check(d), checkModel(d)
		if got != want {
			t.Errorf("Check(%.200q) = %d, want %d", d, got, want)
		}
		if got == api.OK {
			right++
		}
	}
	if right < 100 {
		t.Errorf("only %d are right", right)
	}
}

func TestCheckCases(t *testing.T) { // P6.1
	v := strings.Repeat("v", 128)
	cases := []struct {
		d    api.Desc
		want api.Errno
	}{
		{api.Desc{}, api.ErrArg}, {many(1), api.OK}, {many(7), api.OK}, {many(8), api.OK}, {many(9), api.ErrArg}, {many(16), api.ErrArg}, {many(257), api.ErrArg},
		{of("a", ""), api.OK}, {of("a", v), api.OK}, {of("a", v+"v"), api.ErrArg}, {of("a", v+v), api.ErrArg}, {of("a", allBytes()[128:]), api.OK}, {of("a", allBytes()[:128]), api.OK},
		{of("", "v"), api.ErrArg}, {of("a b", "v"), api.ErrArg}, {of("a", "b", "", "c"), api.ErrArg}, {of("a", "b", "c", v+"v"), api.ErrArg},
		{of("a", "b", "a", "b"), api.OK}, {of("a", "b", "a", "c"), api.OK}, {of("=", "=", ",", ",", "%", "%"), api.OK},
		{of(strings.Repeat("k", 64), ""), api.OK}, {of(strings.Repeat("k", 65), ""), api.ErrArg},
	}
	for _, c := range cases {
		if got := desc.Check(c.d); got != c.want {
			t.Errorf("Check(%.200q) = %d, want %d", c.d, got, c.want)
		}
	}
}

func TestSame(t *testing.T) { // P6.1
	list := []api.Desc{
		of(), of("a", "b"), of("a", "c"), of("b", "a"), of("c", "b"), of("ab", ""), of("", "ab"), of("", ""), of("a", ""), of("", "a"), of("A", "b"), of("a", "b "), of("a", "b\x00"),
		of("a", "b", "c", "d"), of("c", "d", "a", "b"), of("a", "d", "c", "b"), of("a", "b", "a", "b"), of("a", "b", "a", "c"), of("a", "c", "a", "b"), of("a", "b", "", ""), of("", "", "a", "b"), of("a", "b", "c", "d", "e", "f"),
		many(8), many(9), many(10), of("a b", strings.Repeat("v", 129)), of("a b", strings.Repeat("v", 130)), of("\xff", "\xfe"), of("\xfe", "\xfe"), of("a", "\xff"), of("a", "\ufffd"),
	}
	for i, a := range list {
		for j, b := range list {
			other := api.Desc{Entries: append(make([]api.Entry, 0, 20), b.Entries...)}
			if got := desc.Same(a, other); got != (i == j) {
				t.Errorf("Same(%.100q, %.100q) = %v", a, b, got)
			}
		}
	}
	if !desc.Same(api.Desc{}, api.Desc{Entries: []api.Entry{}}) || !desc.Same(api.Desc{Entries: []api.Entry{}}, api.Desc{}) {
		t.Error("no entries and none are not the same")
	}
}

// escapeModel is P6.2's Escape, by a search in a text and the library's digits.
func escapeModel(s string) string {
	var b strings.Builder
	for i := range len(s) {
		if strings.IndexByte(own, s[i]) >= 0 {
			b.WriteByte(s[i])
		} else {
			fmt.Fprintf(&b, "%%%02X", s[i])
		}
	}
	return b.String()
}

func TestEscapeOfEachByte(t *testing.T) { // P6.2
	itself := 0
	for i := range 256 {
		s := string([]byte{byte(i)})
		want := escapeModel(s)
		if got := desc.Escape(s); got != want {
			t.Errorf("Escape(%q) = %q, want %q", s, got, want)
		}
		if got := desc.Escape("a" + s + "%" + s); got != "a"+want+"%25"+want {
			t.Errorf("Escape(%q) = %q", "a"+s+"%"+s, got)
		}
		if desc.Escape(s) == s {
			itself++
		}
	}
	if itself != 26+26+10+5 {
		t.Errorf("%d bytes stand for themselves", itself)
	}
}

func TestEscape(t *testing.T) { // P6.2
	cases := []struct{ s, want string }{
		{"", ""}, {"user", "user"}, {own, own}, {"a b", "a%20b"}, {"%", "%25"}, {"%20", "%2520"}, {"%%", "%25%25"}, {"=,", "%3D%2C"}, {"|", "%7C"}, {"\x00", "%00"}, {"\x0f", "%0F"}, {"\xf0", "%F0"}, {"\xff", "%FF"}, {"\xab\xcd\xef", "%AB%CD%EF"},
		{"`az{", "%60az%7B"}, {"@AZ[", "%40AZ%5B"}, {"/09:", "/09:"}, {"+,-./0", "%2B%2C-./0"}, {"9:;", "9:%3B"}, {"^_`", "%5E_%60"}, {"~\x7f\x80", "%7E%7F%80"}, {"é", "%C3%A9"}, {"\n\t ", "%0A%09%20"}, {"!\"#$&'()*<>?\\]", "%21%22%23%24%26%27%28%29%2A%3C%3E%3F%5C%5D"},
	}
	for _, c := range cases {
		if got := desc.Escape(c.s); got != c.want {
			t.Errorf("Escape(%q) = %q, want %q", c.s, got, c.want)
		}
	}
	long := strings.Repeat(allBytes(), 1000)
	if got := desc.Escape(long); got != escapeModel(long) {
		t.Error("Escape of a long text is not its bytes in order")
	}
}

// textModel is P6.2's Text.
func textModel(d api.Desc) string {
	if checkModel(d) != api.OK {
		return ""
	}
	s := ""
	for i, e := range d.Entries {
		if i > 0 {
			s += ","
		}
		s += escapeModel(e.Key) + "=" + escapeModel(e.Value)
	}
	return s
}

func TestText(t *testing.T) { // P6.2
	cases := []struct {
		d    api.Desc
		want string
	}{
		{of("user", "a b"), "user=a%20b"}, {of("k", "v", "x", ""), "k=v,x="}, {of("k", ""), "k="}, {of("=", ","), "%3D=%2C"}, {of("%", "%"), "%25=%25"}, {of("a", "b", "a", "b"), "a=b,a=b"}, {of("b", "2", "a", "1"), "b=2,a=1"}, {of("a", "\xff\x00"), "a=%FF%00"},
		{many(8), "k=0,k=1,k=2,k=3,k=4,k=5,k=6,k=7"}, {of("a", strings.Repeat("\x01", 128)), "a=" + strings.Repeat("%01", 128)}, {of(strings.Repeat("|", 64), ""), strings.Repeat("%7C", 64) + "="},
		{api.Desc{}, ""}, {many(9), ""}, {of("", "v"), ""}, {of("a b", "c"), ""}, {of("a", strings.Repeat("v", 129)), ""}, {of("a", "b", "", ""), ""}, {of("a", "b", "\x7f", ""), ""}, {of("\xe9", "b", "a", ""), ""}, {of(strings.Repeat("k", 65), ""), ""},
	}
	for _, c := range cases {
		if got := desc.Text(c.d); got != c.want {
			t.Errorf("Text(%.200q) = %q, want %q", c.d, got, c.want)
		}
	}
}

// checkBack: the text is the model's, and is read back just if Check takes the descriptor.
func checkBack(t *testing.T, d api.Desc) {
	t.Helper()
	s := desc.Text(d)
	if want := textModel(d); s != want {
		t.Errorf("Text(%.200q) = %q, want %q", d, s, want)
	}
	back, ok := desc.Read(s)
	if ok != (desc.Check(d) == api.OK) {
		t.Errorf("Read(%q), the text of %.200q, is %v", s, d, ok)
	}
	if ok && (!desc.Same(back, d) || !reflect.DeepEqual(back, d)) {
		t.Errorf("Read(%q) = %.200q, want %.200q", s, back, d)
	}
	if !ok && !reflect.ValueOf(back).IsZero() {
		t.Errorf("Read(%q) = %.200q beside false", s, back)
	}
}

func TestReadOfText(t *testing.T) { // P6.2
	for _, d := range edgeDescs() {
		checkBack(t, d)
	}
	for i := range 256 {
		sign := string([]byte{byte(i)})
		for _, d := range []api.Desc{of("k", sign), of("k", sign+sign, "l", "x"+sign), of(sign, sign), of("k"+sign, "v"), of("k", strings.Repeat(sign, 128)), of(strings.Repeat(sign, 64), "")} {
			checkBack(t, d)
		}
	}
}

// randomText has up to most bytes, of few kinds, so that marks come often.
func randomText(source *rand.Rand, most int) string {
	signs := "ab=,%2C3Df \x00\xff!~|"
	var b []byte
	for range source.Intn(most + 1) {
		if source.Intn(4) == 0 {
			b = append(b, byte(source.Intn(256)))
		} else {
			b = append(b, signs[source.Intn(len(signs))])
		}
	}
	return string(b)
}

func TestReadOfTextOfManyDescs(t *testing.T) { // P6.2
	source := rand.New(rand.NewSource(6))
	for range 3000 {
		var d api.Desc
		for range source.Intn(10) {
			key := desc.Escape(randomText(source, 15))
			if source.Intn(3) > 0 {
				key = strings.Repeat("=,%~", 16)[source.Intn(64):]
			}
			d.Entries = append(d.Entries, api.Entry{Key: key, Value: randomText(source, 129)})
		}
		checkBack(t, d)
	}
}

// readModel is P6.2's Read: the form of a text as an expression of all that Escape may tell, undone by the library.
func readModel(form *regexp.Regexp, s string) (api.Desc, bool) {
	if !form.MatchString(s) {
		return api.Desc{}, false
	}
	var d api.Desc
	for _, part := range strings.Split(s, ",") {
		both := strings.Split(part, "=")
		key, e1 := url.PathUnescape(both[0])
		value, e2 := url.PathUnescape(both[1])
		if e1 != nil || e2 != nil {
			return api.Desc{}, false
		}
		d.Entries = append(d.Entries, api.Entry{Key: key, Value: value})
	}
	if checkModel(d) != api.OK {
		return api.Desc{}, false
	}
	return d, true
}

func textForm() *regexp.Regexp {
	var signs []string
	for i := range 256 {
		signs = append(signs, regexp.QuoteMeta(escapeModel(string([]byte{byte(i)}))))
	}
	sign := "(?:" + strings.Join(signs, "|") + ")"
	entry := sign + "+=" + sign + "*"
	return regexp.MustCompile(`\A` + entry + "(?:," + entry + `)*\z`)
}

func checkRead(t *testing.T, form *regexp.Regexp, s string) bool {
	t.Helper()
	got, ok := desc.Read(s)
	want, is := readModel(form, s)
	if ok != is || !reflect.DeepEqual(got, want) {
		t.Errorf("Read(%.300q) = %.300q, %v, want %.300q, %v", s, got, ok, want, is)
	}
	if ok && desc.Text(got) != s {
		t.Errorf("Read(%.300q) = %.300q, whose text is %.300q", s, got, desc.Text(got))
	}
	return ok
}

func TestRead(t *testing.T) { // P6.2
	cases := []struct {
		s    string
		want api.Desc
	}{
		{"user=a%20b", of("user", "a b")}, {"k=v,x=", of("k", "v", "x", "")}, {"k=", of("k", "")}, {"%3D=%2C", of("=", ",")}, {"a=%7C", of("a", "|")}, {"a=%FF%00", of("a", "\xff\x00")}, {"a=%2541", of("a", "%41")}, {"a=b,a=b", of("a", "b", "a", "b")}, {"%25=%25", of("%", "%")}, {"%21=%7E", of("!", "~")},
		{own[:52] + "=" + own, of(own[:52], own)}, {"k=0,k=1,k=2,k=3,k=4,k=5,k=6,k=7", many(8)}, {strings.Repeat("%7C", 64) + "=" + strings.Repeat("%01", 128), of(strings.Repeat("|", 64), strings.Repeat("\x01", 128))},
	}
	for _, c := range cases {
		got, ok := desc.Read(c.s)
		if !ok || !reflect.DeepEqual(got, c.want) {
			t.Errorf("Read(%q) = %q, %v, want %q", c.s, got, ok, c.want)
		}
	}
}

func TestReadNone(t *testing.T) { // P6.2
	cases := []string{
		"", "=", ",", "%", "a", "a,b", "a=b,c", "c,a=b", "=b", "=", "=,=", "a=b,=c", "a==", "a==b", "a=b=", "a=b=c", "a=b,c=d=e", "a=b=c,d=e",
		",a=b", "a=b,", "a=b,,c=d", ",,", "a=b,,", ",,a=b", "a=,", ",a=",
		"a=%", "a=%2", "a=b%", "a=b%2", "a%=b", "a%2=b", "%=b", "%2=b", "a=%,b=c", "a=%2,b=c", "a=%2%20", "a=%%", "a=%%%", "a=%%20", "a=%=", "a=%20%",
		"a=%2f", "a=%2c", "a=%3d", "a=%ff", "a=%fF", "a=%Ff", "a=%0a", "%3d=b", "%3d=%2C", "a=%7c", "a=%c3%a9",
		"a=%2G", "a=%G0", "a=%/0", "a=%:0", "a=%@0", "a=%0@", "a=% 0", "a=%0 ", "a=%+1", "a=%-1", "a=%0x", "a=%\xff\xff", "a=%1\x00", "a=%u0041",
		"%41=b", "a=%41", "a=%5A", "a=%61", "a=%7A", "a=%30", "a=%39", "a=%2D", "a=%5F", "a=%2E", "a=%2F", "a=%3A", "a=b%61", "%61=b",
		"a=a b", "a b=c", "a=b ", " a=b", "a =b", "a= b", "a=|", "a=!", "!=a", "~=a", "a=~", "a=+", "a=;", "a=@", "a=[", "a=`", "a={", "a=^", "a=*", "a=\x00", "a=\x7f", "a=\x80", "a=\xff", "a=é", "é=a", "a=\n", "a=b\n", "\na=b", "a=\"b\"", "a&b=c",
		"%20=b", "%00=b", "%1F=b", "%7F=b", "%80=b", "%FF=b", "a%20=b", "%C3%A9=b", "a=b,%20=c",
		strings.Repeat("k", 65) + "=v", strings.Repeat("%7C", 65) + "=v", "a=b," + strings.Repeat("k", 65) + "=v", "a=" + strings.Repeat("v", 129), "a=" + strings.Repeat("%00", 129), "a=b,c=" + strings.Repeat("v", 129),
		strings.Repeat("a=b,", 8) + "a=b", strings.Repeat("a=b,", 8), strings.Repeat("a=b,", 9) + "a=b", strings.Repeat("a=,", 8) + "a=", strings.Repeat(",", 7), strings.Repeat(",", 8), strings.Repeat(",", 1<<16), strings.Repeat("=", 1<<16), strings.Repeat("%", 1<<16), strings.Repeat("a", 1<<16), strings.Repeat("a=b,", 1<<16), "a=" + strings.Repeat("%20", 1<<16),
	}
	for _, s := range cases {
		got, ok := desc.Read(s)
		if ok || got.Entries != nil {
			t.Errorf("Read(%.100q) = %.100q, %v, want none", s, got, ok)
		}
	}
}

func TestReadOfEachEscape(t *testing.T) { // P6.2: '%' ahead of all pairs of bytes
	right := map[string]api.Desc{}
	for b := range 256 {
		if strings.IndexByte(own, byte(b)) < 0 {
			right[fmt.Sprintf("a=%%%02X", b)] = of("a", string([]byte{byte(b)}))
		}
	}
	for i := range 256 {
		for j := range 256 {
			s := "a=%" + string([]byte{byte(i), byte(j)})
			want, is := right[s]
			if got, ok := desc.Read(s); ok != is || !reflect.DeepEqual(got, want) {
				t.Errorf("Read(%q) = %q, %v, want %q, %v", s, got, ok, want, is)
			}
		}
	}
}

func TestReadOfShortTexts(t *testing.T) { // P6.2: all texts of up to 6 of these signs, each byte alone, and as a key's, a value's
	form := textForm()
	signs := "a=,%2C|"
	right := 0
	var each func(s string)
	each = func(s string) {
		if checkRead(t, form, s) {
			right++
		}
		if len(s) == 6 {
			return
		}
		for i := range len(signs) {
			each(s + signs[i:i+1])
		}
	}
	each("")
	if right < 100 {
		t.Errorf("only %d are right", right)
	}
	for i := range 256 {
		sign := string([]byte{byte(i)})
		for _, s := range []string{sign, "a=" + sign, sign + "=a", "a=b" + sign, "a" + sign + "=b", sign + "a=b", "a=b" + sign + "c=d", fmt.Sprintf("%%%02X=b", i), fmt.Sprintf("a=%%%02X", i), fmt.Sprintf("a=%%%02x", i)} {
			checkRead(t, form, s)
		}
	}
}

func TestReadOfSpoiltTexts(t *testing.T) { // P6.2: a right text with one byte gone, turned or more
	form := textForm()
	source := rand.New(rand.NewSource(7))
	for range 50 {
		var d api.Desc
		for range 1 + source.Intn(8) {
			d.Entries = append(d.Entries, api.Entry{Key: "=,%ab~"[source.Intn(6):], Value: randomText(source, 6)})
		}
		s := desc.Text(d)
		for i := range len(s) {
			checkRead(t, form, s[:i])
			checkRead(t, form, s[:i]+s[i+1:])
			for _, sign := range []string{"=", ",", "%", "a", "F", "f", "0", " ", "\xff"} {
				checkRead(t, form, s[:i]+sign+s[i+1:])
				checkRead(t, form, s[:i]+sign+s[i:])
			}
		}
	}
}

func TestUnlikeTexts(t *testing.T) { // P6.3: all descriptors of one and two entries of these keys and values, and of three of few
	seen := map[string]api.Desc{}
	put := func(d api.Desc) {
		s := desc.Text(d)
		if other, there := seen[s]; there || s == "" {
			t.Errorf("%q has the text %q, as %q has", d, s, other)
		}
		seen[s] = d
	}
	parts := []string{"a", "aa", "=", ",", "%", "a=", "=a", ",a", "a,", "a=a", "a,a", "a=,", ",=", "%3D", "%2C", "%25", "%253D", "A", "%61", "a,a=a"}
	var entries []api.Entry
	for _, key := range parts {
		for _, value := range append([]string{"", " ", "\x00"}, parts...) {
			entries = append(entries, api.Entry{Key: key, Value: value})
		}
	}
	few := entries[:40]
	for _, e := range entries {
		put(api.Desc{Entries: []api.Entry{e}})
		for _, f := range entries {
			put(api.Desc{Entries: []api.Entry{e, f}})
		}
	}
	for _, e := range few {
		for _, f := range few {
			for _, g := range few {
				put(api.Desc{Entries: []api.Entry{e, f, g}})
			}
		}
	}
}

func TestUnlikePairs(t *testing.T) { // P6.3
	pairs := [][2]api.Desc{
		{of("a", "b", "c", "d"), of("c", "d", "a", "b")}, {of("ab", "c"), of("a", "bc")}, {of("a=", "b"), of("a", "=b")}, {of("a", "b,c=d"), of("a", "b", "c", "d")}, {of("a", "b,c", "d", ""), of("a", "b", "c,d", "")},
		{of("a", "%20"), of("a", " ")}, {of("a", ""), of("a", "", "a", "")}, {of("a", "A"), of("a", "a")}, {of("a", "\x00"), of("a", "")}, {of("a", "\xff"), of("a", "\ufffd")}, {many(7), many(8)},
	}
	for _, p := range pairs {
		if desc.Same(p[0], p[1]) || desc.Text(p[0]) == desc.Text(p[1]) || desc.Text(p[0]) == "" || desc.Text(p[1]) == "" {
			t.Errorf("%q and %q have the texts %q and %q", p[0], p[1], desc.Text(p[0]), desc.Text(p[1]))
		}
	}
}

func TestArgumentsStay(t *testing.T) {
	room := []api.Entry{{Key: "a", Value: "b c"}, {Key: "=", Value: ""}, {Key: "spare", Value: "room"}, {Key: "a b", Value: "x"}}
	before := slices.Clone(room)
	for n := range 3 {
		d := api.Desc{Entries: room[:n]}
		desc.Check(d)
		desc.Text(d)
		desc.Same(d, api.Desc{Entries: room[1:3]})
	}
	if !slices.Equal(room, before) {
		t.Errorf("%q became %q", before, room)
	}
}

func TestAnswersAreNew(t *testing.T) {
	first, _ := desc.Read("a=b,c=d")
	first.Entries[0].Key = "changed"
	_ = append(first.Entries, api.Entry{Key: "more"})
	second, ok := desc.Read("a=b,c=d")
	if !ok || !desc.Same(second, of("a", "b", "c", "d")) {
		t.Errorf("Read answers %q", second)
	}
	second.Entries[1].Value = "changed"
	if !desc.Same(first, of("changed", "b", "c", "d")) {
		t.Error("two answers share their entries")
	}
}

func FuzzRead(f *testing.F) {
	for _, s := range []string{"", "user=a%20b", "k=v,x=", "%3D=%2C", "a=%2f", "a=%41", "a=b,"} {
		f.Add(s)
	}
	form := textForm()
	f.Fuzz(func(t *testing.T, s string) {
		checkRead(t, form, s)
		if got := desc.Escape(s); got != escapeModel(s) {
			t.Errorf("Escape(%q) = %q", s, got)
		}
	})
}

func FuzzText(f *testing.F) {
	f.Add("a", "b", "c", "d")
	f.Add("=", ",", "%", "\xff")
	f.Fuzz(func(t *testing.T, k1, v1, k2, v2 string) {
		checkBack(t, of(k1, v1))
		checkBack(t, of(k1, v1, k2, v2))
	})
}
