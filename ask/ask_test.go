package ask_test

import (
	"bytes"
	"encoding/binary"
	"fmt"
	"math"
	"math/rand"
	"reflect"
	"regexp"
	"slices"
	"strings"
	"testing"

	"turncock/api"
	"turncock/ask"
)

// of makes a descriptor of keys and values, by turns.
func of(words ...string) api.Desc {
	var d api.Desc
	for i := 0; i < len(words); i += 2 {
		d.Entries = append(d.Entries, api.Entry{Key: words[i], Value: words[i+1]})
	}
	return d
}

// wide has n entries that differ in their values.
func wide(n int) api.Desc {
	var d api.Desc
	for i := range n {
		d.Entries = append(d.Entries, api.Entry{Key: "k", Value: fmt.Sprint(i)})
	}
	return d
}

// many is n descriptors that differ in their values.
func many(n int) []api.Desc {
	var l []api.Desc
	for i := range n {
		l = append(l, of("k", fmt.Sprint(i)))
	}
	return l
}

// plain is a request that Check takes.
func plain() api.Ask {
	return api.Ask{ID: 1, Domain: "a", Descs: []api.Desc{of("k", "v")}}
}

// turned is a plain request of which one thing is turned.
func turned(turn func(a *api.Ask)) api.Ask {
	a := plain()
	turn(&a)
	return a
}

// allBytes is each byte once.
func allBytes() string {
	var b []byte
	for i := range 256 {
		b = append(b, byte(i))
	}
	return string(b)
}

var nameForm = regexp.MustCompile(`\A[!-~]{1,64}\z`)

// taken is P7.1's Check.
func taken(a api.Ask) bool {
	ok := 0 <= a.ID && a.ID <= 2147483647 && nameForm.MatchString(a.Domain) && 0 <= a.Hits && a.Hits <= 4294967295
	ok = ok && 1 <= len(a.Descs) && len(a.Descs) <= 16
	for _, d := range a.Descs {
		ok = ok && 1 <= len(d.Entries) && len(d.Entries) <= 8
		for _, e := range d.Entries {
			ok = ok && nameForm.MatchString(e.Key) && len(e.Value) <= 128
		}
	}
	return ok
}

// textModel is a text's bytes.
func textModel(s string) []byte {
	return append(binary.AppendUvarint(nil, uint64(len(s))), s...)
}

// bytesModel is a request's bytes, whether Check takes it or not.
func bytesModel(a api.Ask) []byte {
	parts := [][]byte{{1}, binary.AppendUvarint(nil, uint64(a.ID)), textModel(a.Domain), binary.AppendUvarint(nil, uint64(a.Hits)), binary.AppendUvarint(nil, uint64(len(a.Descs)))}
	for _, d := range a.Descs {
		parts = append(parts, binary.AppendUvarint(nil, uint64(len(d.Entries))))
		for _, e := range d.Entries {
			parts = append(parts, textModel(e.Key), textModel(e.Value))
		}
	}
	return slices.Concat(parts...)
}

// loose reads requests more freely than Decode: numbers in any form, and whatever stands behind.
type loose struct {
	b   []byte
	bad bool
}

func (l *loose) number() int {
	v, n := binary.Uvarint(l.b)
	if n <= 0 || v > math.MaxInt {
		l.bad = true
		return 0
	}
	l.b = l.b[n:]
	return int(v)
}

func (l *loose) text() string {
	n := l.number()
	if n > len(l.b) {
		l.bad = true
		return ""
	}
	s := string(l.b[:n])
	l.b = l.b[n:]
	return s
}

// decodeModel is P7.2's Decode: of what can be read freely, the request that Check takes and whose bytes are just these.
func decodeModel(b []byte) (api.Ask, api.Errno) {
	l := &loose{b: b}
	var a api.Ask
	l.number()
	a.ID, a.Domain, a.Hits = l.number(), l.text(), l.number()
	for n := l.number(); n > 0 && !l.bad; n-- {
		var d api.Desc
		for m := l.number(); m > 0 && !l.bad; m-- {
			d.Entries = append(d.Entries, api.Entry{Key: l.text(), Value: l.text()})
		}
		a.Descs = append(a.Descs, d)
	}
	if l.bad || !taken(a) || !bytes.Equal(bytesModel(a), b) {
		return api.Ask{}, api.ErrBytes
	}
	return a, api.OK
}

// holdDecode holds Decode against its model.
func holdDecode(t *testing.T, b []byte) {
	t.Helper()
	a, code := ask.Decode(b)
	want, wantCode := decodeModel(b)
	if code != wantCode || !reflect.DeepEqual(a, want) {
		t.Fatalf("Decode(% x) = %v, %v, want %v, %v", b, a, code, want, wantCode)
	}
}

// refuse holds that Decode has nothing to tell of b.
func refuse(t *testing.T, what string, b []byte) {
	t.Helper()
	a, code := ask.Decode(b)
	if code != api.ErrBytes || !reflect.DeepEqual(a, api.Ask{}) {
		t.Errorf("%s: Decode(% x) = %v, %v, want none, ErrBytes", what, b, a, code)
	}
}

// edgeAsks are requests at each of Check's edges, right ones and wrong ones.
func edgeAsks() []api.Ask {
	var list []api.Ask
	numbers := []int{math.MinInt, -1 << 32, -1 << 31, -2, -1, 0, 1, 2, 127, 128, 16383, 16384, api.MaxID - 1, api.MaxID, api.MaxID + 1, api.MaxNum - 1, api.MaxNum, api.MaxNum + 1, 1 << 40, api.MaxTime, math.MaxInt}
	for _, n := range numbers {
		list = append(list, turned(func(a *api.Ask) { a.ID = n }), turned(func(a *api.Ask) { a.Hits = n }))
	}
	x := strings.Repeat("x", 63)
	names := []string{"", "a", "!", "~", " ", "\x7f", "\x00", "\xff", "é", "a b", "a\n", x, x + "x", x + "xx", x + "~", x + " ", "!" + x, " " + x, strings.Repeat("é", 32), strings.Repeat("x", 127), strings.Repeat("x", 128), strings.Repeat("x", 1<<14)}
	v := strings.Repeat("v", 127)
	values := []string{"", "v", v, v + "v", v + "vv", strings.Repeat("é", 64), strings.Repeat("é", 64) + "x", strings.Repeat("é", 65), allBytes()[:128], allBytes()[128:], allBytes(), strings.Repeat("v", 1<<14)}
	descs := []api.Desc{{}, {Entries: []api.Entry{}}, wide(2), wide(7), wide(8), wide(9), wide(1000)}
	for _, name := range names {
		list = append(list, turned(func(a *api.Ask) { a.Domain = name }))
		descs = append(descs, of(name, "v"), of("k", "v", name, "v"))
	}
	for _, value := range values {
		descs = append(descs, of("k", value), of("k", "v", "k", value))
	}
	for _, n := range []int{0, 1, 2, 15, 16, 17, 18, 127, 128, 1000} {
		list = append(list, turned(func(a *api.Ask) { a.Descs = many(n) }))
	}
	for _, d := range descs {
		for _, at := range []int{0, 1, 7, 15} {
			list = append(list, turned(func(a *api.Ask) { a.Descs = many(at + 1); a.Descs[at] = d }))
		}
		list = append(list, turned(func(a *api.Ask) { a.Descs = many(16); a.Descs[3] = d }), turned(func(a *api.Ask) { a.Descs = many(17); a.Descs[16] = d }))
	}
	return append(list, api.Ask{}, turned(func(a *api.Ask) { a.Descs = []api.Desc{} }), greatest())
}

// greatest is a request of which nothing may be more.
func greatest() api.Ask {
	a := api.Ask{ID: api.MaxID, Hits: api.MaxNum, Domain: strings.Repeat("d", 64)}
	for range 16 {
		var d api.Desc
		for range 8 {
			d.Entries = append(d.Entries, api.Entry{Key: strings.Repeat("~", 64), Value: allBytes()[128:]})
		}
		a.Descs = append(a.Descs, d)
	}
	return a
}

// someAsk is a request that Check takes, of any size.
func someAsk(r *rand.Rand) api.Ask {
	name := func() string {
		b := make([]byte, 1+r.Intn(64))
		for i := range b {
			b[i] = byte(33 + r.Intn(94))
		}
		return string(b)
	}
	a := api.Ask{ID: r.Intn(1 << (1 + r.Intn(31))), Domain: name(), Hits: r.Intn(1 << (1 + r.Intn(32)))}
	for range 1 + r.Intn(16) {
		var d api.Desc
		for range 1 + r.Intn(8) {
			value := make([]byte, r.Intn(129))
			r.Read(value)
			d.Entries = append(d.Entries, api.Entry{Key: name(), Value: string(value)})
		}
		a.Descs = append(a.Descs, d)
	}
	return a
}

func TestCheckAtEdges(t *testing.T) { // P7.1
	took := 0
	for _, a := range edgeAsks() {
		want := api.ErrArg
		if taken(a) {
			want = api.OK
			took++
		}
		if got := ask.Check(a); got != want {
			t.Errorf("Check(%.200v) = %v, want %v", a, got, want)
		}
	}
	if took < 50 {
		t.Errorf("of the edges %d alone are right", took)
	}
}

func TestCheckNumbers(t *testing.T) { // P7.1
	for _, x := range []struct {
		n        int
		id, hits api.Errno
	}{
		{-1, api.ErrArg, api.ErrArg}, {0, api.OK, api.OK}, {1, api.OK, api.OK},
		{1<<31 - 1, api.OK, api.OK}, {1 << 31, api.ErrArg, api.OK},
		{1<<32 - 1, api.ErrArg, api.OK}, {1 << 32, api.ErrArg, api.ErrArg},
		{math.MinInt, api.ErrArg, api.ErrArg}, {math.MaxInt, api.ErrArg, api.ErrArg},
	} {
		if got := ask.Check(turned(func(a *api.Ask) { a.ID = x.n })); got != x.id {
			t.Errorf("Check at ID %d = %v, want %v", x.n, got, x.id)
		}
		if got := ask.Check(turned(func(a *api.Ask) { a.Hits = x.n })); got != x.hits {
			t.Errorf("Check at Hits %d = %v, want %v", x.n, got, x.hits)
		}
	}
}

func TestCheckDomain(t *testing.T) { // P7.1: each byte of a domain, each length
	for i := range 256 {
		for _, s := range []string{string([]byte{byte(i)}), "a" + string([]byte{byte(i)}), strings.Repeat("a", 63) + string([]byte{byte(i)})} {
			got := ask.Check(turned(func(a *api.Ask) { a.Domain = s }))
			if (got == api.OK) != (i >= 33 && i <= 126) || got != api.OK && got != api.ErrArg {
				t.Errorf("Check at Domain %q = %v", s, got)
			}
		}
	}
	for n := range 200 {
		got := ask.Check(turned(func(a *api.Ask) { a.Domain = strings.Repeat("a", n) }))
		if (got == api.OK) != (n >= 1 && n <= 64) {
			t.Errorf("Check at a Domain of %d bytes = %v", n, got)
		}
	}
}

func TestCheckDescs(t *testing.T) { // P7.1: how many, and one that is wrong at each place
	for n := range 40 {
		got := ask.Check(turned(func(a *api.Ask) { a.Descs = many(n) }))
		if (got == api.OK) != (n >= 1 && n <= 16) {
			t.Errorf("Check of %d descriptors = %v", n, got)
		}
	}
	long := strings.Repeat("v", 129)
	for n := 1; n <= 16; n++ {
		for at := range n {
			for _, d := range []api.Desc{{}, wide(9), of("", "v"), of("a b", "v"), of(long[:65], "v"), of("k", long), of("k", "v", "k", long)} {
				if got := ask.Check(turned(func(a *api.Ask) { a.Descs = many(n); a.Descs[at] = d })); got != api.ErrArg {
					t.Errorf("Check of %d descriptors with %v at %d = %v", n, d, at, got)
				}
			}
			for _, d := range []api.Desc{wide(1), wide(8), of(long[:64], ""), of("k", long[:128])} {
				if got := ask.Check(turned(func(a *api.Ask) { a.Descs = many(n); a.Descs[at] = d })); got != api.OK {
					t.Errorf("Check of %d descriptors with %v at %d = %v", n, d, at, got)
				}
			}
		}
	}
}

func TestHits(t *testing.T) { // P7.1
	for _, x := range []struct{ n, want int }{
		{math.MinInt, 1}, {-1 << 32, 1}, {-5, 1}, {-1, 1}, {0, 1}, {1, 1}, {2, 2}, {7, 7}, {1 << 31, 1 << 31},
		{1<<32 - 2, 1<<32 - 2}, {1<<32 - 1, 1<<32 - 1}, {1 << 32, 1<<32 - 1}, {1<<32 + 1, 1<<32 - 1}, {1 << 62, 1<<32 - 1}, {math.MaxInt, 1<<32 - 1},
	} {
		if got := ask.Hits(turned(func(a *api.Ask) { a.Hits = x.n })); got != x.want {
			t.Errorf("Hits of %d = %d, want %d", x.n, got, x.want)
		}
		// The rest of the request has no part in it.
		if got := ask.Hits(api.Ask{ID: -1, Hits: x.n}); got != x.want {
			t.Errorf("Hits of %d in a wrong request = %d, want %d", x.n, got, x.want)
		}
	}
}

func TestSame(t *testing.T) { // P7.1: each two of a row that are all unlike
	two := func(d ...api.Desc) func(a *api.Ask) { return func(a *api.Ask) { a.Descs = d } }
	kv, lw := of("k", "v"), of("l", "w")
	row := []api.Ask{
		plain(),
		turned(func(a *api.Ask) { a.ID = 2 }),
		turned(func(a *api.Ask) { a.ID = -1 }),
		turned(func(a *api.Ask) { a.ID = 1<<32 + 1 }),
		turned(func(a *api.Ask) { a.Domain = "b" }),
		turned(func(a *api.Ask) { a.Domain = "" }),
		turned(func(a *api.Ask) { a.Domain = "aa" }),
		turned(func(a *api.Ask) { a.Domain = "A" }),
		turned(func(a *api.Ask) { a.Hits = 1 }),
		turned(func(a *api.Ask) { a.Hits = -1 }),
		turned(func(a *api.Ask) { a.Hits = 1 << 32 }),
		turned(two()),
		turned(two(api.Desc{})),
		turned(two(api.Desc{}, api.Desc{})),
		turned(two(of("l", "v"))),
		turned(two(of("k", "w"))),
		turned(two(of("k", ""))),
		turned(two(of("v", "k"))),
		turned(two(kv, kv)),
		turned(two(kv, lw)),
		turned(two(lw, kv)),
		turned(two(kv, api.Desc{})),
		turned(two(api.Desc{}, kv)),
		turned(two(of("k", "v", "l", "w"))),
		turned(two(of("l", "w", "k", "v"))),
		turned(two(of("k", "v", "k", "v"))),
		turned(two(kv, of("k", "v", "l", "w"))),
		turned(two(of("k", "v", "k", "v"), lw)),
		turned(two(kv, of("k", "v", "l", "x"))),
	}
	for i, a := range row {
		for j, b := range row {
			if got := ask.Same(a, b); got != (i == j) {
				t.Errorf("Same(%v, %v) = %v", a, b, got)
			}
		}
	}
}

func TestSameOfCopies(t *testing.T) { // P7.1: nil and an empty list are alike; equal ones in other memory too
	empty := api.Ask{Descs: []api.Desc{}}
	if !ask.Same(empty, api.Ask{}) || !ask.Same(api.Ask{}, empty) {
		t.Error("no descriptors are unlike none")
	}
	none := api.Ask{Descs: []api.Desc{{Entries: []api.Entry{}}}}
	if !ask.Same(none, api.Ask{Descs: []api.Desc{{}}}) {
		t.Error("no entries are unlike none")
	}
	for _, a := range edgeAsks() {
		if !ask.Same(a, clone(a)) || !ask.Same(clone(a), a) {
			t.Errorf("%.200v is unlike its copy", a)
		}
	}
}

func clone(a api.Ask) api.Ask {
	c := api.Ask{ID: a.ID, Domain: strings.Clone(a.Domain), Hits: a.Hits}
	for _, d := range a.Descs {
		var e api.Desc
		for _, x := range d.Entries {
			e.Entries = append(e.Entries, api.Entry{Key: strings.Clone(x.Key), Value: strings.Clone(x.Value)})
		}
		c.Descs = append(c.Descs, e)
	}
	return c
}

func TestExample(t *testing.T) { // P7.2
	want := []byte{1, 1, 1, 0x61, 0, 1, 1, 1, 0x6b, 1, 0x76}
	got, code := ask.Encode(plain())
	if code != api.OK || !bytes.Equal(got, want) {
		t.Errorf("Encode = % x, %v, want % x", got, code, want)
	}
	a, code := ask.Decode(want)
	if code != api.OK || !reflect.DeepEqual(a, plain()) {
		t.Errorf("Decode = %v, %v", a, code)
	}
}

func TestBytesOfTwo(t *testing.T) { // P7.2: the order of the parts, and a number of several bytes
	a := api.Ask{ID: 300, Domain: "shop", Hits: 4294967295, Descs: []api.Desc{of("a", "1", "b", ""), of("c", strings.Repeat("v", 128))}}
	want := []byte("\x01\xac\x02\x04shop\xff\xff\xff\xff\x0f\x02\x02\x01a\x011\x01b\x00\x01\x01c\x80\x01" + strings.Repeat("v", 128))
	got, code := ask.Encode(a)
	if code != api.OK || !bytes.Equal(got, want) {
		t.Errorf("Encode = %q, %v, want %q", got, code, want)
	}
}

func TestEncodeAndBack(t *testing.T) { // P7.2, P7.3: at the edges, and of requests of any size
	list := edgeAsks()
	r := rand.New(rand.NewSource(7))
	for range 500 {
		list = append(list, someAsk(r))
	}
	for _, a := range list {
		b, code := ask.Encode(a)
		if !taken(a) {
			if code != api.ErrArg || len(b) != 0 {
				t.Errorf("Encode(%.200v) = %.50x, %v, want none, ErrArg", a, b, code)
			}
			continue
		}
		if code != api.OK || !bytes.Equal(b, bytesModel(a)) {
			t.Errorf("Encode(%.200v) = %.50x, %v", a, b, code)
		}
		back, code := ask.Decode(b)
		if code != api.OK || !reflect.DeepEqual(back, a) || !ask.Same(back, a) {
			t.Errorf("%.200v came back as %.200v, %v", a, back, code)
		}
	}
}

func TestDecodeRefusesWhatCheckRefuses(t *testing.T) { // P7.2
	refused := 0
	for _, a := range edgeAsks() {
		if !taken(a) {
			refuse(t, "a request that may not be", bytesModel(a))
			refused++
		}
	}
	if refused < 50 {
		t.Errorf("of the edges %d alone are wrong", refused)
	}
}

func TestDecodeRefuses(t *testing.T) { // P7.2
	refuse(t, "nil", nil)
	refuse(t, "none", []byte{})
	right := bytesModel(plain())
	for i := range 256 {
		if i != 1 {
			b := bytes.Clone(right)
			b[0] = byte(i)
			refuse(t, "another first byte", b)
		}
		refuse(t, "one byte alone", []byte{byte(i)})
		refuse(t, "a byte more behind", append(bytes.Clone(right), byte(i)))
		refuse(t, "a byte more ahead", append([]byte{byte(i)}, right...))
	}
	refuse(t, "twice", append(bytes.Clone(right), right...))
	refuse(t, "a first byte in two", append([]byte{0x81, 0}, right[1:]...))
}

func TestDecodeRefusesCuts(t *testing.T) { // P7.2: cut off at each place, even with what lacks in the spare room
	r := rand.New(rand.NewSource(8))
	for _, a := range []api.Ask{plain(), greatest(), someAsk(r), someAsk(r)} {
		b := bytesModel(a)
		for i := range b {
			refuse(t, "cut off", b[:i])
			refuse(t, "cut off", slices.Clip(b[:i]))
		}
	}
}

// numbersAt are the places of all numbers of a request's bytes.
func numbersAt(a api.Ask) []int {
	l := []int{1}
	at := 1 + len(binary.AppendUvarint(nil, uint64(a.ID)))
	l = append(l, at)
	at += len(textModel(a.Domain))
	l = append(l, at)
	at += len(binary.AppendUvarint(nil, uint64(a.Hits)))
	l = append(l, at)
	at += len(binary.AppendUvarint(nil, uint64(len(a.Descs))))
	for _, d := range a.Descs {
		l = append(l, at)
		at += len(binary.AppendUvarint(nil, uint64(len(d.Entries))))
		for _, e := range d.Entries {
			l = append(l, at, at+len(textModel(e.Key)))
			at += len(textModel(e.Key)) + len(textModel(e.Value))
		}
	}
	return l
}

// longer is a number's bytes with one, two, .. bytes more than it needs.
func longer(v uint64, more int) []byte {
	b := binary.AppendUvarint(nil, v)
	for range more {
		b[len(b)-1] |= 128
		b = append(b, 0)
	}
	return b
}

func TestDecodeRefusesOtherNumbers(t *testing.T) { // P7.2: each number too long, or another one
	r := rand.New(rand.NewSource(9))
	for _, a := range []api.Ask{plain(), someAsk(r), someAsk(r)} {
		b := bytesModel(a)
		for _, at := range numbersAt(a) {
			v, n := binary.Uvarint(b[at:])
			with := func(number []byte) []byte { return slices.Concat(b[:at], number, b[at+n:]) }
			for more := 1; more < 12; more++ {
				refuse(t, "a number that is not as short as may be", with(longer(v, more)))
			}
			for _, x := range []uint64{1 << 32, 1<<32 + v, 1 << 62, 1 << 63, 1<<63 | v, math.MaxUint64} {
				refuse(t, "a number beyond what may be", with(binary.AppendUvarint(nil, x)))
			}
			refuse(t, "a number of eleven bytes", with(append(bytes.Repeat([]byte{255}, 10), 1)))
			refuse(t, "a number that does not end", append(bytes.Clone(b[:at]), 128))
			refuse(t, "a tenth byte above 1", with(append(bytes.Repeat([]byte{255}, 9), 2)))
			for x := range uint64(300) {
				holdDecode(t, with(binary.AppendUvarint(nil, x)))
			}
		}
	}
}

func TestDecodeRefusesLengths(t *testing.T) { // P7.2: beyond the end, and beyond what may be though all bytes are there
	text := func(n int) string { return strings.Repeat("x", n) }
	for _, x := range []struct {
		what string
		b    string
		want api.Errno
	}{
		{"a domain of 64", "\x01\x01\x40" + text(64) + "\x00\x01\x01\x01k\x00", api.OK},
		{"a domain of 65", "\x01\x01\x41" + text(65) + "\x00\x01\x01\x01k\x00", api.ErrBytes},
		{"a domain of none", "\x01\x01\x00\x00\x01\x01\x01k\x00", api.ErrBytes},
		{"a domain beyond the end", "\x01\x01\x40a", api.ErrBytes},
		{"a domain that takes all", "\x01\x01\x08a\x00\x01\x01\x01k\x00", api.ErrBytes},
		{"a key of 64", "\x01\x01\x01a\x00\x01\x01\x40" + text(64) + "\x00", api.OK},
		{"a key of 65", "\x01\x01\x01a\x00\x01\x01\x41" + text(65) + "\x00", api.ErrBytes},
		{"a key of none", "\x01\x01\x01a\x00\x01\x01\x00\x00", api.ErrBytes},
		{"a key beyond the end", "\x01\x01\x01a\x00\x01\x01\x03k\x00", api.ErrBytes},
		{"a value of 127", "\x01\x01\x01a\x00\x01\x01\x01k\x7f" + text(127), api.OK},
		{"a value of 128", "\x01\x01\x01a\x00\x01\x01\x01k\x80\x01" + text(128), api.OK},
		{"a value of 129", "\x01\x01\x01a\x00\x01\x01\x01k\x81\x01" + text(129), api.ErrBytes},
		{"a value beyond the end", "\x01\x01\x01a\x00\x01\x01\x01k\x03vv", api.ErrBytes},
		{"a value of more than an int", "\x01\x01\x01a\x00\x01\x01\x01k\xff\xff\xff\xff\xff\xff\xff\xff\xff\x01v", api.ErrBytes},
		{"a value of 2^63", "\x01\x01\x01a\x00\x01\x01\x01k\x80\x80\x80\x80\x80\x80\x80\x80\x80\x01v", api.ErrBytes},
		{"no descriptors", "\x01\x01\x01a\x00\x00", api.ErrBytes},
		{"16 descriptors", "\x01\x01\x01a\x00\x10" + strings.Repeat("\x01\x01k\x00", 16), api.OK},
		{"17 descriptors", "\x01\x01\x01a\x00\x11" + strings.Repeat("\x01\x01k\x00", 17), api.ErrBytes},
		{"16 of 15 descriptors", "\x01\x01\x01a\x00\x10" + strings.Repeat("\x01\x01k\x00", 15), api.ErrBytes},
		{"15 of 16 descriptors", "\x01\x01\x01a\x00\x0f" + strings.Repeat("\x01\x01k\x00", 16), api.ErrBytes},
		{"no entries", "\x01\x01\x01a\x00\x01\x00", api.ErrBytes},
		{"no entries behind some", "\x01\x01\x01a\x00\x02\x01\x01k\x00\x00", api.ErrBytes},
		{"8 entries", "\x01\x01\x01a\x00\x01\x08" + strings.Repeat("\x01k\x00", 8), api.OK},
		{"9 entries", "\x01\x01\x01a\x00\x01\x09" + strings.Repeat("\x01k\x00", 9), api.ErrBytes},
		{"8 of 7 entries", "\x01\x01\x01a\x00\x01\x08" + strings.Repeat("\x01k\x00", 7), api.ErrBytes},
		{"2^62 descriptors", "\x01\x01\x01a\x00\x80\x80\x80\x80\x80\x80\x80\x80\x40\x01\x01k\x00", api.ErrBytes},
		{"2^62 entries", "\x01\x01\x01a\x00\x01\x80\x80\x80\x80\x80\x80\x80\x80\x40\x01k\x00", api.ErrBytes},
		{"ID MaxID", "\x01\xff\xff\xff\xff\x07\x01a\x00\x01\x01\x01k\x00", api.OK},
		{"ID MaxID + 1", "\x01\x80\x80\x80\x80\x08\x01a\x00\x01\x01\x01k\x00", api.ErrBytes},
		{"Hits MaxNum", "\x01\x01\x01a\xff\xff\xff\xff\x0f\x01\x01\x01k\x00", api.OK},
		{"Hits MaxNum + 1", "\x01\x01\x01a\x80\x80\x80\x80\x10\x01\x01\x01k\x00", api.ErrBytes},
		{"Hits of all bits", "\x01\x01\x01a\xff\xff\xff\xff\xff\xff\xff\xff\xff\x01\x01\x01\x01k\x00", api.ErrBytes},
		{"ID of all bits", "\x01\xff\xff\xff\xff\xff\xff\xff\xff\xff\x01\x01a\x00\x01\x01\x01k\x00", api.ErrBytes},
	} {
		if _, code := ask.Decode([]byte(x.b)); code != x.want {
			t.Errorf("%s: %v, want %v", x.what, code, x.want)
		}
		holdDecode(t, []byte(x.b))
	}
}

func TestDecodeTurnedBytes(t *testing.T) { // P7.2: each byte turned to each other, gone, and twice
	two := api.Ask{ID: 300, Domain: "shop", Hits: 70000, Descs: []api.Desc{of("a", "", "bb", "1"), of("c", strings.Repeat("v", 128))}}
	for _, a := range []api.Ask{plain(), two} {
		b := bytesModel(a)
		for i := range b {
			for x := range 256 {
				c := bytes.Clone(b)
				c[i] = byte(x)
				holdDecode(t, c)
				if back, code := ask.Decode(c); code == api.OK && ask.Same(back, a) != (c[i] == b[i]) {
					t.Fatalf("% x and % x are both of %v", b, c, a)
				}
				holdDecode(t, slices.Insert(bytes.Clone(b), i, byte(x)))
			}
			holdDecode(t, slices.Delete(bytes.Clone(b), i, i+1))
		}
	}
}

func TestDecodeAllShort(t *testing.T) { // P7.2: all lists of up to 11 bytes of four that a request may have, behind the first
	signs := []byte{0, 1, 2, '!'}
	right := 0
	var grow func(b []byte)
	grow = func(b []byte) {
		holdDecode(t, b)
		if _, code := ask.Decode(b); code == api.OK {
			right++
		}
		// What can't be read to its end, however it goes on, is not gone on with.
		if len(b) == 11 || len(b) > 4 && !hopeful(b) {
			return
		}
		for _, s := range signs {
			grow(append(b, s))
		}
	}
	grow(append(make([]byte, 0, 16), 1))
	if right < 100 {
		t.Errorf("%d alone are requests", right)
	}
}

// hopeful: ID of one byte, and a domain that is one or two signs.
func hopeful(b []byte) bool {
	return b[1] < 128 && (b[2] == 1 && b[3] == '!' || b[2] == 2 && b[3] == '!' && b[4] == '!')
}

func TestDecodeWild(t *testing.T) { // P7.2: lists of any bytes, and of right ones in pieces
	r := rand.New(rand.NewSource(10))
	for range 20000 {
		b := make([]byte, r.Intn(40))
		r.Read(b)
		if len(b) > 0 && r.Intn(4) > 0 {
			b[0] = 1
		}
		holdDecode(t, b)
	}
	for range 300 {
		b, c := bytesModel(someAsk(r)), bytesModel(someAsk(r))
		i, j := r.Intn(len(b)), r.Intn(len(c))
		holdDecode(t, slices.Concat(b[:i], c[j:]))
		for range 3 {
			b[r.Intn(len(b))] ^= 1 << r.Intn(8)
			holdDecode(t, b)
		}
	}
}

func TestArgumentsStay(t *testing.T) { // rule 3
	b := append(bytesModel(plain()), "spare"...)
	kept := bytes.Clone(b)
	n := len(b) - len("spare")
	for i := range n + 1 {
		ask.Decode(b[:i])
	}
	if !bytes.Equal(b, kept) {
		t.Errorf("Decode made % x out of % x", b, kept)
	}
	spare := api.Desc{Entries: []api.Entry{{Key: "spare"}}}
	entry := api.Entry{Key: "spare", Value: "room"}
	for _, a := range append(edgeAsks(), greatest()) {
		roomy := clone(a)
		roomy.Descs = append(roomy.Descs, spare)
		for i := range roomy.Descs {
			roomy.Descs[i].Entries = append(roomy.Descs[i].Entries, entry)
			roomy.Descs[i].Entries = roomy.Descs[i].Entries[:len(roomy.Descs[i].Entries)-1]
		}
		whole := roomy.Descs
		roomy.Descs = roomy.Descs[:len(roomy.Descs)-1]
		ask.Check(roomy)
		ask.Hits(roomy)
		ask.Encode(roomy)
		ask.Same(roomy, a)
		if !ask.Same(roomy, a) || !reflect.DeepEqual(whole[len(whole)-1], spare) {
			t.Errorf("%.200v was changed", a)
		}
		for i, d := range roomy.Descs {
			if d.Entries[:len(d.Entries)+1][len(d.Entries)] != entry {
				t.Errorf("the spare room of descriptor %d of %.200v was changed", i, a)
			}
		}
	}
}

func TestAnswersAreNew(t *testing.T) { // rule 3
	a := greatest()
	b, _ := ask.Encode(a)
	other, _ := ask.Encode(a)
	back, _ := ask.Decode(b)
	kept := clone(back)
	for i := range b {
		b[i] = 'x'
	}
	if !bytes.Equal(other, bytesModel(a)) {
		t.Error("two answers of Encode share memory")
	}
	if !reflect.DeepEqual(back, kept) || !reflect.DeepEqual(a, greatest()) {
		t.Error("a request shares memory with its bytes")
	}
	for i := range back.Descs {
		_ = append(back.Descs[i].Entries, api.Entry{Key: "grown"})
		for j := range back.Descs[i].Entries {
			back.Descs[i].Entries[j].Key = fmt.Sprint(i, j)
		}
	}
	for i, d := range back.Descs {
		for j, e := range d.Entries {
			if e.Key != fmt.Sprint(i, j) {
				t.Fatalf("entry %d of descriptor %d shares memory with another one", j, i)
			}
		}
	}
}

func TestSameAnswersAgain(t *testing.T) { // rule 4: behind requests that were refused too
	b := bytesModel(plain())
	for range 3 {
		refuse(t, "cut off", b[:7])
		holdDecode(t, b)
		if got, code := ask.Encode(api.Ask{}); len(got) != 0 || code != api.ErrArg {
			t.Errorf("Encode of none = % x, %v", got, code)
		}
		if got, code := ask.Encode(plain()); !bytes.Equal(got, b) || code != api.OK {
			t.Errorf("Encode = % x, %v", got, code)
		}
	}
}

func FuzzDecode(f *testing.F) { // P7.2, P7.3
	f.Add([]byte{})
	f.Add(bytesModel(plain()))
	f.Add(bytesModel(turned(func(a *api.Ask) { a.ID, a.Descs = 300, []api.Desc{of("a", "", "bb", "1"), of("c", "d")} })))
	f.Add([]byte{1, 0x81, 0, 1, 97, 0, 1, 1, 1, 107, 1, 118})
	f.Fuzz(func(t *testing.T, b []byte) {
		holdDecode(t, b)
		a, code := ask.Decode(b)
		if code != api.OK {
			return
		}
		if again, code := ask.Encode(a); code != api.OK || !bytes.Equal(again, b) {
			t.Errorf("% x became % x, %v", b, again, code)
		}
	})
}
