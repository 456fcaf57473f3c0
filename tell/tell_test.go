package tell_test

import (
	"bytes"
	"encoding/binary"
	"fmt"
	"math"
	"math/rand"
	"reflect"
	"regexp"
	"slices"
	"strings"
	"testing"

	"turncock/api"
	"turncock/tell"
)

// plain is a reply that Check takes, with some of all.
func plain() api.Tell {
	return api.Tell{ID: 1, Code: 1, Statuses: []api.Status{{Code: 2, Limit: 10, Unit: 2, Left: 3, Reset: 60}}, Heads: []api.Head{{Name: "n", Value: "v"}}}
}

// turned is a plain reply of which one thing is turned.
func turned(turn func(x *api.Tell)) api.Tell {
	x := plain()
	turn(&x)
	return x
}

// statuses are n that differ.
func statuses(n int) []api.Status {
	var l []api.Status
	for i := range n {
		l = append(l, api.Status{Code: 1 + i%2, Limit: 100 + i, Unit: i % 5, Left: 300 * i, Reset: 5 * i})
	}
	return l
}

// heads are n that differ.
func heads(n int) []api.Head {
	var l []api.Head
	for i := range n {
		l = append(l, api.Head{Name: fmt.Sprint("n", i), Value: strings.Repeat("v ", i)})
	}
	return l
}

// greatest is a reply of which nothing may be more.
func greatest() api.Tell {
	x := api.Tell{ID: api.MaxID, Code: 2, Full: true}
	for range 16 {
		x.Statuses = append(x.Statuses, api.Status{Code: 2, Limit: api.MaxNum, Unit: 4, Left: api.MaxNum, Reset: 86400})
	}
	for range 4 {
		x.Heads = append(x.Heads, api.Head{Name: strings.Repeat("~", 64), Value: strings.Repeat("~", 400)})
	}
	return x
}

// someTell is a reply that Check takes, of any size.
func someTell(r *rand.Rand) api.Tell {
	text := func(first, n int) string {
		b := make([]byte, n)
		for i := range b {
			b[i] = byte(first + r.Intn(127-first))
		}
		return string(b)
	}
	num := func() int { return r.Intn(1 << (1 + r.Intn(32))) }
	x := api.Tell{ID: r.Intn(1 << (1 + r.Intn(31))), Code: 1 + r.Intn(2), Full: r.Intn(2) == 0}
	for range r.Intn(17) {
		x.Statuses = append(x.Statuses, api.Status{Code: 1 + r.Intn(2), Limit: num(), Unit: r.Intn(5), Left: num(), Reset: r.Intn(86401)})
	}
	for range r.Intn(5) {
		x.Heads = append(x.Heads, api.Head{Name: text(33, 1+r.Intn(64)), Value: text(32, r.Intn(401))})
	}
	return x
}

var (
	nameForm  = regexp.MustCompile(`\A[!-~]{1,64}\z`)
	valueForm = regexp.MustCompile(`\A[ -~]*\z`)
)

// taken is P8.1's Check.
func taken(x api.Tell) bool {
	num := func(n int) bool { return 0 <= n && n <= 4294967295 }
	ok := 0 <= x.ID && x.ID <= 2147483647 && (x.Code == 1 || x.Code == 2)
	ok = ok && len(x.Statuses) <= 16 && len(x.Heads) <= 4
	for _, s := range x.Statuses {
		ok = ok && (s.Code == 1 || s.Code == 2) && num(s.Limit) && num(s.Left)
		ok = ok && 0 <= s.Unit && s.Unit <= 4 && 0 <= s.Reset && s.Reset <= 86400
	}
	for _, h := range x.Heads {
		ok = ok && nameForm.MatchString(h.Name) && len(h.Value) <= 400 && valueForm.MatchString(h.Value)
	}
	return ok
}

func textModel(s string) []byte {
	return append(binary.AppendUvarint(nil, uint64(len(s))), s...)
}

// parts are a reply's bytes, part by part, whether Check takes it or not: each but the first one begins with a number.
func parts(x api.Tell) [][]byte {
	l := [][]byte{{2}}
	number := func(list ...int) {
		for _, n := range list {
			l = append(l, binary.AppendUvarint(nil, uint64(n)))
		}
	}
	full := 0
	if x.Full {
		full = 1
	}
	number(x.ID, x.Code, full, len(x.Statuses))
	for _, s := range x.Statuses {
		number(s.Code, s.Limit, s.Unit, s.Left, s.Reset)
	}
	number(len(x.Heads))
	for _, h := range x.Heads {
		l = append(l, textModel(h.Name), textModel(h.Value))
	}
	return l
}

func bytesModel(x api.Tell) []byte { return slices.Concat(parts(x)...) }

// loose reads replies more freely than Decode: numbers in any form, any first byte, and whatever stands behind.
type loose struct {
	b   []byte
	bad bool
}

func (l *loose) number() int {
	v, n := binary.Uvarint(l.b)
	if n <= 0 || v > math.MaxInt {
		l.bad = true
		return 0
	}
	l.b = l.b[n:]
	return int(v)
}

func (l *loose) text() string {
	n := l.number()
	if n > len(l.b) {
		l.bad = true
		return ""
	}
	s := string(l.b[:n])
	l.b = l.b[n:]
	return s
}

// decodeModel is P8.2's Decode: of what can be read freely, the reply that Check takes and whose bytes are just these.
func decodeModel(b []byte) (api.Tell, api.Errno) {
	l := &loose{b: b}
	var x api.Tell
	l.number()
	x.ID, x.Code = l.number(), l.number()
	x.Full = l.number() != 0
	for n := l.number(); n > 0 && !l.bad; n-- {
		x.Statuses = append(x.Statuses, api.Status{Code: l.number(), Limit: l.number(), Unit: l.number(), Left: l.number(), Reset: l.number()})
	}
	for n := l.number(); n > 0 && !l.bad; n-- {
		x.Heads = append(x.Heads, api.Head{Name: l.text(), Value: l.text()})
	}
	if l.bad || !taken(x) || !bytes.Equal(bytesModel(x), b) {
		return api.Tell{}, api.ErrBytes
	}
	return x, api.OK
}

// holdDecode holds Decode against its model.
func holdDecode(t *testing.T, b []byte) {
	t.Helper()
	x, code := tell.Decode(b)
	want, wantCode := decodeModel(b)
	if code != wantCode || !reflect.DeepEqual(x, want) {
		t.Fatalf("Decode(% x) = %v, %v, want %v, %v", b, x, code, want, wantCode)
	}
}

// refuse holds that Decode has nothing to tell of b.
func refuse(t *testing.T, what string, b []byte) {
	t.Helper()
	x, code := tell.Decode(b)
	if code != api.ErrBytes || !reflect.DeepEqual(x, api.Tell{}) {
		t.Errorf("%s: Decode(% x) = %v, %v, want none, ErrBytes", what, b, x, code)
	}
}

// numbers are at the edges of all that a reply counts, and beyond.
func numbers() []int {
	return []int{math.MinInt, -1 << 32, -1 << 31, -2, -1, 0, 1, 2, 3, 4, 5, 6, 127, 128, 16383, 16384, 86399, 86400, 86401, api.MaxID - 1, api.MaxID, api.MaxID + 1, api.MaxNum - 1, api.MaxNum, api.MaxNum + 1, api.MaxNum + 2, 1 << 40, api.MaxTime, math.MaxInt}
}

// edgeStatuses has each field at each of the numbers.
func edgeStatuses() []api.Status {
	list := []api.Status{{}, {Code: 1}, {Code: 2}}
	for _, n := range numbers() {
		s := api.Status{Code: 1, Limit: 10, Unit: 1, Left: 7, Reset: 1}
		code, limit, unit, left, reset := s, s, s, s, s
		code.Code, limit.Limit, unit.Unit, left.Left, reset.Reset = n, n, n, n, n
		list = append(list, code, limit, unit, left, reset)
	}
	return list
}

// edgeHeads has names and values at each edge.
func edgeHeads() []api.Head {
	x := strings.Repeat("x", 63)
	names := []string{"", "a", "!", "~", " ", "\x7f", "\x00", "\xff", "é", "a b", "a\n", x, x + "x", x + "xx", x + "~", x + " ", "!" + x, " " + x, strings.Repeat("é", 32), strings.Repeat("x", 1<<14)}
	y := strings.Repeat("y", 399)
	values := []string{"", "v", " ", "~", "\x1f", "\x7f", "\x00", "\xff", "\n", "é", "v v", "v\n", y, y + "y", y + "yy", y + " ", y + "~", y + "\x1f", y + "\x7f", " " + y, "~" + y, "\x1f" + y, "\x7f" + y, y[:200] + "\x7f" + y[:199], y[:200] + " ~" + y[:198], strings.Repeat("é", 200), strings.Repeat("y", 1<<14)}
	var list []api.Head
	for _, name := range names {
		list = append(list, api.Head{Name: name, Value: "v"})
	}
	for _, value := range values {
		list = append(list, api.Head{Name: "n", Value: value})
	}
	return append(list, api.Head{})
}

// edgeTells are replies at each of Check's edges, right ones and wrong ones.
func edgeTells() []api.Tell {
	var list []api.Tell
	for _, n := range numbers() {
		list = append(list, turned(func(x *api.Tell) { x.ID = n }), turned(func(x *api.Tell) { x.Code = n }))
	}
	for _, n := range []int{0, 1, 2, 3, 4, 5, 6, 15, 16, 17, 18, 127, 128, 1000} {
		list = append(list, turned(func(x *api.Tell) { x.Statuses = statuses(n) }), turned(func(x *api.Tell) { x.Heads = heads(n) }))
		list = append(list, turned(func(x *api.Tell) { x.Statuses, x.Heads, x.Full = statuses(n), nil, true }))
		list = append(list, turned(func(x *api.Tell) { x.Statuses, x.Heads = nil, heads(n) }))
	}
	for _, s := range edgeStatuses() {
		for _, place := range [][2]int{{1, 0}, {2, 0}, {2, 1}, {16, 0}, {16, 7}, {16, 15}, {17, 16}} {
			list = append(list, turned(func(x *api.Tell) { x.Statuses = statuses(place[0]); x.Statuses[place[1]] = s }))
		}
	}
	for _, h := range edgeHeads() {
		for _, place := range [][2]int{{1, 0}, {2, 0}, {2, 1}, {4, 0}, {4, 2}, {4, 3}, {5, 4}} {
			list = append(list, turned(func(x *api.Tell) { x.Heads = heads(place[0]); x.Heads[place[1]] = h }))
		}
	}
	return append(list, api.Tell{}, plain(), greatest(), turned(func(x *api.Tell) { x.Full = true }))
}

func TestCheckAtEdges(t *testing.T) { // P8.1
	took := 0
	for _, x := range edgeTells() {
		want := api.ErrArg
		if taken(x) {
			want = api.OK
			took++
		}
		if got := tell.Check(x); got != want {
			t.Errorf("Check(%.200v) = %v, want %v", x, got, want)
		}
	}
	if took < 200 {
		t.Errorf("of the edges %d alone are right", took)
	}
}

func TestCheckNumbers(t *testing.T) { // P8.1: the least and the greatest of each number, and one beyond
	type field struct {
		what        string
		least, most int
		put         func(x *api.Tell, n int)
	}
	fields := []field{
		{"ID", 0, 1<<31 - 1, func(x *api.Tell, n int) { x.ID = n }},
		{"Code", 1, 2, func(x *api.Tell, n int) { x.Code = n }},
		{"how many Statuses", 0, 16, func(x *api.Tell, n int) { x.Statuses = statuses(max(n, 0)) }},
		{"how many Heads", 0, 4, func(x *api.Tell, n int) { x.Heads = heads(max(n, 0)) }},
	}
	for _, at := range []int{0, 7, 15} {
		on := func(put func(s *api.Status, n int)) func(x *api.Tell, n int) {
			return func(x *api.Tell, n int) { x.Statuses = statuses(16); put(&x.Statuses[at], n) }
		}
		fields = append(fields,
			field{"a status's Code", 1, 2, on(func(s *api.Status, n int) { s.Code = n })},
			field{"Limit", 0, 1<<32 - 1, on(func(s *api.Status, n int) { s.Limit = n })},
			field{"Unit", 0, 4, on(func(s *api.Status, n int) { s.Unit = n })},
			field{"Left", 0, 1<<32 - 1, on(func(s *api.Status, n int) { s.Left = n })},
			field{"Reset", 0, 86400, on(func(s *api.Status, n int) { s.Reset = n })})
	}
	for _, f := range fields {
		for _, n := range []int{f.least - 1, f.least, f.least + 1, f.most - 1, f.most, f.most + 1} {
			want := api.OK
			if n < f.least && !strings.HasPrefix(f.what, "how many") || n > f.most {
				want = api.ErrArg
			}
			if got := tell.Check(turned(func(x *api.Tell) { f.put(x, n) })); got != want {
				t.Errorf("Check at %s %d = %v, want %v", f.what, n, got, want)
			}
		}
	}
}

func TestCheckHeadBytes(t *testing.T) { // P8.1: each byte of a name and of a value, at each end and alone; each length
	for i := range 256 {
		one := string([]byte{byte(i)})
		for _, s := range []string{one, one + "a", "a" + one, strings.Repeat("a", 63) + one} {
			for at := range 4 {
				name := tell.Check(turned(func(x *api.Tell) { x.Heads = heads(4); x.Heads[at].Name = s }))
				if (name == api.OK) != (i >= 33 && i <= 126) || name != api.OK && name != api.ErrArg {
					t.Errorf("Check at Name %q = %v", s, name)
				}
				value := tell.Check(turned(func(x *api.Tell) { x.Heads = heads(4); x.Heads[at].Value = s }))
				if (value == api.OK) != (i >= 32 && i <= 126) || value != api.OK && value != api.ErrArg {
					t.Errorf("Check at Value %q = %v", s, value)
				}
			}
		}
	}
	for n := range 500 {
		s := strings.Repeat("a", n)
		if got := tell.Check(turned(func(x *api.Tell) { x.Heads[0].Name = s })); (got == api.OK) != (n >= 1 && n <= 64) {
			t.Errorf("Check at a Name of %d bytes = %v", n, got)
		}
		if got := tell.Check(turned(func(x *api.Tell) { x.Heads[0].Value = s })); (got == api.OK) != (n <= 400) {
			t.Errorf("Check at a Value of %d bytes = %v", n, got)
		}
	}
}

func TestSame(t *testing.T) { // P8.1: each two of a row that are all unlike
	s, u := api.Status{Code: 1, Limit: 5, Unit: 3, Left: 4, Reset: 9}, api.Status{Code: 2, Limit: 5, Unit: 3, Left: 4, Reset: 9}
	n, m := api.Head{Name: "n", Value: "v"}, api.Head{Name: "m", Value: "w"}
	st := func(l ...api.Status) api.Tell { return turned(func(x *api.Tell) { x.Statuses = l }) }
	he := func(l ...api.Head) api.Tell { return turned(func(x *api.Tell) { x.Heads = l }) }
	row := []api.Tell{
		plain(),
		turned(func(x *api.Tell) { x.ID = 2 }),
		turned(func(x *api.Tell) { x.ID = -1 }),
		turned(func(x *api.Tell) { x.ID = 1<<32 + 1 }),
		turned(func(x *api.Tell) { x.Code = 2 }),
		turned(func(x *api.Tell) { x.Code = 0 }),
		turned(func(x *api.Tell) { x.Full = true }),
		turned(func(x *api.Tell) { x.Statuses[0].Code = 1 }),
		turned(func(x *api.Tell) { x.Statuses[0].Limit = 11 }),
		turned(func(x *api.Tell) { x.Statuses[0].Unit = 1 }),
		turned(func(x *api.Tell) { x.Statuses[0].Left = 4 }),
		turned(func(x *api.Tell) { x.Statuses[0].Reset = 0 }),
		turned(func(x *api.Tell) { x.Statuses[0].Left, x.Statuses[0].Limit = 10, 3 }),
		turned(func(x *api.Tell) { x.Heads[0].Name = "v" }),
		turned(func(x *api.Tell) { x.Heads[0].Value = "" }),
		turned(func(x *api.Tell) { x.Heads[0].Name = "N" }),
		turned(func(x *api.Tell) { x.Heads[0].Name, x.Heads[0].Value = "v", "n" }),
		st(), st(api.Status{}), st(s), st(u), st(s, s), st(s, u), st(u, s), st(s, s, u), st(s, u, s), st(u, s, s), st(s, api.Status{}),
		he(), he(api.Head{}), he(m), he(n, n), he(n, m), he(m, n), he(n, n, m), he(n, m, n), he(m, n, n), he(n, api.Head{}),
		api.Tell{}, {ID: 1, Code: 1},
	}
	for i, a := range row {
		for j, b := range row {
			if got := tell.Same(a, b); got != (i == j) {
				t.Errorf("Same(%v, %v) = %v", a, b, got)
			}
		}
	}
}

func clone(x api.Tell) api.Tell {
	c := api.Tell{ID: x.ID, Code: x.Code, Full: x.Full}
	c.Statuses = append(c.Statuses, x.Statuses...)
	for _, h := range x.Heads {
		c.Heads = append(c.Heads, api.Head{Name: strings.Clone(h.Name), Value: strings.Clone(h.Value)})
	}
	return c
}

func TestSameOfCopies(t *testing.T) { // P8.1: nil and an empty list are alike; equal ones in other memory too
	empty := api.Tell{Statuses: []api.Status{}, Heads: []api.Head{}}
	if !tell.Same(empty, api.Tell{}) || !tell.Same(api.Tell{}, empty) {
		t.Error("empty lists are unlike none")
	}
	for _, x := range edgeTells() {
		if !tell.Same(x, clone(x)) || !tell.Same(clone(x), x) {
			t.Errorf("%.200v is unlike its copy", x)
		}
	}
}

func TestExample(t *testing.T) { // P8.2
	want := []byte{2, 1, 1, 0, 0, 0}
	for _, x := range []api.Tell{{ID: 1, Code: api.CodeOK}, {ID: 1, Code: api.CodeOK, Statuses: []api.Status{}, Heads: []api.Head{}}} {
		got, code := tell.Encode(x)
		if code != api.OK || !bytes.Equal(got, want) {
			t.Errorf("Encode = % x, %v, want % x", got, code, want)
		}
	}
	x, code := tell.Decode(want)
	if code != api.OK || !reflect.DeepEqual(x, api.Tell{ID: 1, Code: api.CodeOK}) {
		t.Errorf("Decode = %v, %v", x, code)
	}
}

func TestBytesOfTwo(t *testing.T) { // P8.2: the order of the parts, and numbers of several bytes
	x := api.Tell{ID: 300, Code: api.CodeOver, Full: true, Statuses: []api.Status{{Code: 1, Limit: 4294967295, Unit: 4, Left: 128, Reset: 86400}, {Code: 2, Limit: 5, Unit: 3, Left: 6, Reset: 7}}, Heads: []api.Head{{Name: "x-a", Value: "a b"}, {Name: "y", Value: strings.Repeat("v", 128)}}}
	want := []byte("\x02\xac\x02\x02\x01\x02" + "\x01\xff\xff\xff\xff\x0f\x04\x80\x01\x80\xa3\x05" + "\x02\x05\x03\x06\x07" + "\x02\x03x-a\x03a b\x01y\x80\x01" + strings.Repeat("v", 128))
	got, code := tell.Encode(x)
	if code != api.OK || !bytes.Equal(got, want) {
		t.Errorf("Encode = %q, %v, want %q", got, code, want)
	}
	back, code := tell.Decode(want)
	if code != api.OK || !reflect.DeepEqual(back, x) {
		t.Errorf("Decode = %v, %v", back, code)
	}
}

func TestEncodeAndBack(t *testing.T) { // P8.2, P8.3: at the edges, and of replies of any size
	list := edgeTells()
	r := rand.New(rand.NewSource(8))
	for range 1000 {
		list = append(list, someTell(r))
	}
	for _, x := range list {
		b, code := tell.Encode(x)
		if !taken(x) {
			if code != api.ErrArg || len(b) != 0 {
				t.Errorf("Encode(%.200v) = %.50x, %v, want none, ErrArg", x, b, code)
			}
			continue
		}
		if code != api.OK || !bytes.Equal(b, bytesModel(x)) {
			t.Errorf("Encode(%.200v) = %.50x, %v", x, b, code)
		}
		back, code := tell.Decode(b)
		if code != api.OK || !reflect.DeepEqual(back, x) || !tell.Same(back, x) {
			t.Errorf("%.200v came back as %.200v, %v", x, back, code)
		}
	}
}

func TestDecodeRefusesWhatCheckRefuses(t *testing.T) { // P8.2
	refused := 0
	for _, x := range edgeTells() {
		if !taken(x) {
			refuse(t, "a reply that may not be", bytesModel(x))
			refused++
		}
	}
	if refused < 200 {
		t.Errorf("of the edges %d alone are wrong", refused)
	}
}

func TestDecodeRefuses(t *testing.T) { // P8.2
	refuse(t, "nil", nil)
	refuse(t, "none", []byte{})
	for _, x := range []api.Tell{{ID: 1, Code: 1}, plain()} {
		right := bytesModel(x)
		for i := range 256 {
			if i != 2 {
				refuse(t, "another first byte", append([]byte{byte(i)}, right[1:]...))
			}
			refuse(t, "one byte alone", []byte{byte(i)})
			refuse(t, "a byte more behind", append(bytes.Clone(right), byte(i)))
			if i > 1 {
				b := bytes.Clone(right)
				b[3] = byte(i)
				refuse(t, "a Full that is neither 0 nor 1", b)
			}
		}
		refuse(t, "twice", append(bytes.Clone(right), right...))
		refuse(t, "a first byte in two", append([]byte{0x82, 0}, right[1:]...))
	}
}

func TestDecodeRefusesCuts(t *testing.T) { // P8.2: cut off at each place, even with what lacks in the spare room
	r := rand.New(rand.NewSource(9))
	for _, x := range []api.Tell{{ID: 1, Code: 1}, plain(), greatest(), someTell(r), someTell(r)} {
		b := bytesModel(x)
		for i := range b {
			refuse(t, "cut off", b[:i])
			refuse(t, "cut off", slices.Clip(b[:i]))
		}
	}
}

// longer is a number's bytes with one, two, .. bytes more than it needs.
func longer(v uint64, more int) []byte {
	b := binary.AppendUvarint(nil, v)
	for range more {
		b[len(b)-1] |= 128
		b = append(b, 0)
	}
	return b
}

func TestDecodeRefusesOtherNumbers(t *testing.T) { // P8.2: each number too long, or another one
	r := rand.New(rand.NewSource(10))
	for _, x := range []api.Tell{{ID: 1, Code: 1}, plain(), someTell(r), someTell(r)} {
		l := parts(x)
		for i := 1; i < len(l); i++ {
			ahead, behind := slices.Concat(l[:i]...), slices.Concat(l[i+1:]...)
			v, n := binary.Uvarint(l[i])
			with := func(number []byte) []byte { return slices.Concat(ahead, number, l[i][n:], behind) }
			for more := 1; more < 12; more++ {
				refuse(t, "a number that is not as short as may be", with(longer(v, more)))
			}
			for _, y := range []uint64{1 << 32, 1<<32 + v, 1 << 62, 1 << 63, 1<<63 | v, math.MaxUint64} {
				refuse(t, "a number beyond what may be", with(binary.AppendUvarint(nil, y)))
			}
			refuse(t, "a number of eleven bytes", with(append(bytes.Repeat([]byte{255}, 10), 1)))
			refuse(t, "a number that does not end", append(bytes.Clone(ahead), 128))
			refuse(t, "a tenth byte above 1", with(append(bytes.Repeat([]byte{255}, 9), 2)))
			for y := range uint64(450) {
				holdDecode(t, with(binary.AppendUvarint(nil, y)))
			}
		}
	}
}

func TestDecodeLengths(t *testing.T) { // P8.2: beyond the end, and beyond what may be though all bytes are there
	text := func(n int) string { return strings.Repeat("x", n) }
	status := "\x01\x00\x00\x00\x00"
	head := "\x01n\x00"
	for _, x := range []struct {
		what string
		b    string
		want api.Errno
	}{
		{"16 statuses", "\x02\x01\x01\x00\x10" + strings.Repeat(status, 16) + "\x00", api.OK},
		{"17 statuses", "\x02\x01\x01\x00\x11" + strings.Repeat(status, 17) + "\x00", api.ErrBytes},
		{"16 of 15 statuses", "\x02\x01\x01\x00\x10" + strings.Repeat(status, 15) + "\x00", api.ErrBytes},
		{"15 of 16 statuses", "\x02\x01\x01\x00\x0f" + strings.Repeat(status, 16) + "\x00", api.ErrBytes},
		{"no statuses", "\x02\x01\x01\x00\x00\x00", api.OK},
		{"2^62 statuses", "\x02\x01\x01\x00\x80\x80\x80\x80\x80\x80\x80\x80\x40" + status + "\x00", api.ErrBytes},
		{"4 headers", "\x02\x01\x01\x00\x00\x04" + strings.Repeat(head, 4), api.OK},
		{"5 headers", "\x02\x01\x01\x00\x00\x05" + strings.Repeat(head, 5), api.ErrBytes},
		{"4 of 3 headers", "\x02\x01\x01\x00\x00\x04" + strings.Repeat(head, 3), api.ErrBytes},
		{"3 of 4 headers", "\x02\x01\x01\x00\x00\x03" + strings.Repeat(head, 4), api.ErrBytes},
		{"2^62 headers", "\x02\x01\x01\x00\x00\x80\x80\x80\x80\x80\x80\x80\x80\x40" + head, api.ErrBytes},
		{"a name of none", "\x02\x01\x01\x00\x00\x01\x00\x00", api.ErrBytes},
		{"a name of 64", "\x02\x01\x01\x00\x00\x01\x40" + text(64) + "\x00", api.OK},
		{"a name of 65", "\x02\x01\x01\x00\x00\x01\x41" + text(65) + "\x00", api.ErrBytes},
		{"a name beyond the end", "\x02\x01\x01\x00\x00\x01\x03n\x00", api.ErrBytes},
		{"a name that takes all", "\x02\x01\x01\x00\x00\x01\x02nn", api.ErrBytes},
		{"a name with a blank", "\x02\x01\x01\x00\x00\x01\x03n n\x00", api.ErrBytes},
		{"a value of 127", "\x02\x01\x01\x00\x00\x01\x01n\x7f" + text(127), api.OK},
		{"a value of 128", "\x02\x01\x01\x00\x00\x01\x01n\x80\x01" + text(128), api.OK},
		{"a value of 400", "\x02\x01\x01\x00\x00\x01\x01n\x90\x03" + text(400), api.OK},
		{"a value of 401", "\x02\x01\x01\x00\x00\x01\x01n\x91\x03" + text(401), api.ErrBytes},
		{"a value beyond the end", "\x02\x01\x01\x00\x00\x01\x01n\x03vv", api.ErrBytes},
		{"a value of more than an int", "\x02\x01\x01\x00\x00\x01\x01n\xff\xff\xff\xff\xff\xff\xff\xff\xff\x01v", api.ErrBytes},
		{"a value of 2^63", "\x02\x01\x01\x00\x00\x01\x01n\x80\x80\x80\x80\x80\x80\x80\x80\x80\x01v", api.ErrBytes},
		{"a value with a byte 31", "\x02\x01\x01\x00\x00\x01\x01n\x01\x1f", api.ErrBytes},
		{"a value with a byte 32", "\x02\x01\x01\x00\x00\x01\x01n\x01\x20", api.OK},
		{"a value with a byte 126", "\x02\x01\x01\x00\x00\x01\x01n\x01\x7e", api.OK},
		{"a value with a byte 127", "\x02\x01\x01\x00\x00\x01\x01n\x01\x7f", api.ErrBytes},
		{"ID 0", "\x02\x00\x01\x00\x00\x00", api.OK},
		{"ID MaxID", "\x02\xff\xff\xff\xff\x07\x01\x00\x00\x00", api.OK},
		{"ID MaxID + 1", "\x02\x80\x80\x80\x80\x08\x01\x00\x00\x00", api.ErrBytes},
		{"ID of all bits", "\x02\xff\xff\xff\xff\xff\xff\xff\xff\xff\x01\x01\x00\x00\x00", api.ErrBytes},
		{"Code 0", "\x02\x01\x00\x00\x00\x00", api.ErrBytes},
		{"Code 2", "\x02\x01\x02\x00\x00\x00", api.OK},
		{"Code 3", "\x02\x01\x03\x00\x00\x00", api.ErrBytes},
		{"Full", "\x02\x01\x01\x01\x00\x00", api.OK},
		{"Full 2", "\x02\x01\x01\x02\x00\x00", api.ErrBytes},
		{"Full 2^32 + 1", "\x02\x01\x01\x81\x80\x80\x80\x10\x00\x00", api.ErrBytes},
		{"a status's Code 0", "\x02\x01\x01\x00\x01\x00\x00\x00\x00\x00\x00", api.ErrBytes},
		{"a status's Code 3", "\x02\x01\x01\x00\x01\x03\x00\x00\x00\x00\x00", api.ErrBytes},
		{"Limit MaxNum", "\x02\x01\x01\x00\x01\x01\xff\xff\xff\xff\x0f\x00\x00\x00\x00", api.OK},
		{"Limit MaxNum + 1", "\x02\x01\x01\x00\x01\x01\x80\x80\x80\x80\x10\x00\x00\x00\x00", api.ErrBytes},
		{"Unit Day", "\x02\x01\x01\x00\x01\x01\x00\x04\x00\x00\x00", api.OK},
		{"Unit Day + 1", "\x02\x01\x01\x00\x01\x01\x00\x05\x00\x00\x00", api.ErrBytes},
		{"Left MaxNum", "\x02\x01\x01\x00\x01\x01\x00\x00\xff\xff\xff\xff\x0f\x00\x00", api.OK},
		{"Left MaxNum + 1", "\x02\x01\x01\x00\x01\x01\x00\x00\x80\x80\x80\x80\x10\x00\x00", api.ErrBytes},
		{"Reset 86,400", "\x02\x01\x01\x00\x01\x01\x00\x00\x00\x80\xa3\x05\x00", api.OK},
		{"Reset 86,401", "\x02\x01\x01\x00\x01\x01\x00\x00\x00\x81\xa3\x05\x00", api.ErrBytes},
	} {
		if _, code := tell.Decode([]byte(x.b)); code != x.want {
			t.Errorf("%s: %v, want %v", x.what, code, x.want)
		}
		holdDecode(t, []byte(x.b))
	}
}

func TestDecodeTurnedBytes(t *testing.T) { // P8.2: each byte turned to each other, gone, and one more
	two := api.Tell{ID: 300, Code: 2, Full: true, Statuses: []api.Status{{Code: 1, Limit: 4294967295, Unit: 4, Left: 128, Reset: 86400}, {Code: 2, Limit: 5, Unit: 3, Left: 6, Reset: 7}}, Heads: []api.Head{{Name: "x-a", Value: "a b"}, {Name: "y"}, {Name: "z", Value: strings.Repeat("~", 128)}}}
	for _, a := range []api.Tell{{ID: 1, Code: 1}, plain(), two} {
		b := bytesModel(a)
		for i := range b {
			for x := range 256 {
				c := bytes.Clone(b)
				c[i] = byte(x)
				holdDecode(t, c)
				if back, code := tell.Decode(c); code == api.OK && tell.Same(back, a) != (c[i] == b[i]) {
					t.Fatalf("% x and % x are both of %v", b, c, a)
				}
				holdDecode(t, slices.Insert(bytes.Clone(b), i, byte(x)))
			}
			holdDecode(t, slices.Delete(bytes.Clone(b), i, i+1))
		}
	}
}

func TestTurnedBytesOfAny(t *testing.T) { // P8.2, P8.3: of each reply at an edge, each byte turned a little
	for _, a := range edgeTells() {
		if !taken(a) {
			continue
		}
		b, code := tell.Encode(a)
		if code != api.OK {
			t.Fatalf("Encode(%.200v) = %v", a, code)
		}
		for i, was := range b {
			for _, bit := range []byte{1, 2, 128} {
				b[i] = was ^ bit
				holdDecode(t, b)
			}
			b[i] = was
		}
	}
}

func TestDecodeAllShort(t *testing.T) { // P8.2: all lists of up to 12 bytes of four that a reply may have, behind the first two
	signs := []byte{0, 1, 2, '!'}
	right := 0
	var grow func(b []byte)
	grow = func(b []byte) {
		holdDecode(t, b)
		if _, code := tell.Decode(b); code == api.OK {
			right++
		}
		// What can't be read to its end, however it goes on, is not gone on with.
		if len(b) == 12 || len(b) == 5 && (b[2] != 1 && b[2] != 2 || b[3] > 1 || b[4] > 2) {
			return
		}
		for _, s := range signs {
			grow(append(b, s))
		}
	}
	grow(append(make([]byte, 0, 16), 2, 0))
	if right < 100 {
		t.Errorf("%d alone are replies", right)
	}
}

func TestDecodeWild(t *testing.T) { // P8.2: lists of any bytes, and of right ones in pieces
	r := rand.New(rand.NewSource(11))
	for range 20000 {
		b := make([]byte, r.Intn(40))
		r.Read(b)
		if len(b) > 0 && r.Intn(4) > 0 {
			b[0] = 2
		}
		for i := range b {
			if r.Intn(2) == 0 {
				b[i] %= 3
			}
		}
		holdDecode(t, b)
	}
	for range 300 {
		b, c := bytesModel(someTell(r)), bytesModel(someTell(r))
		i, j := r.Intn(len(b)), r.Intn(len(c))
		holdDecode(t, slices.Concat(b[:i], c[j:]))
		for range 3 {
			b[r.Intn(len(b))] ^= 1 << r.Intn(8)
			holdDecode(t, b)
		}
	}
}

func TestArgumentsStay(t *testing.T) { // rule 3
	b := append(bytesModel(plain()), "spare"...)
	kept := bytes.Clone(b)
	for i := range len(b) - len("spare") + 1 {
		tell.Decode(b[:i])
	}
	if !bytes.Equal(b, kept) {
		t.Errorf("Decode made % x out of % x", b, kept)
	}
	status, head := api.Status{Code: 9}, api.Head{Name: "spare", Value: "room"}
	for _, x := range edgeTells() {
		roomy := clone(x)
		roomy.Statuses, roomy.Heads = append(roomy.Statuses, status), append(roomy.Heads, head)
		whole := roomy
		roomy.Statuses, roomy.Heads = roomy.Statuses[:len(x.Statuses)], roomy.Heads[:len(x.Heads)]
		tell.Check(roomy)
		tell.Encode(roomy)
		tell.Same(roomy, x)
		if !slices.Equal(whole.Statuses, append(clone(x).Statuses, status)) || !slices.Equal(whole.Heads, append(clone(x).Heads, head)) {
			t.Errorf("%.200v was changed", x)
		}
	}
}

func TestAnswersAreNew(t *testing.T) { // rule 3
	x := greatest()
	b, _ := tell.Encode(x)
	other, _ := tell.Encode(x)
	back, _ := tell.Decode(b)
	twin, _ := tell.Decode(b)
	for i := range b {
		b[i] = 'x'
	}
	if !bytes.Equal(other, bytesModel(x)) {
		t.Error("two answers of Encode share memory")
	}
	if !reflect.DeepEqual(back, greatest()) || !reflect.DeepEqual(x, greatest()) {
		t.Error("a reply shares memory with its bytes")
	}
	clear(back.Statuses)
	clear(back.Heads)
	if !reflect.DeepEqual(twin, greatest()) {
		t.Error("two answers of Decode share memory")
	}
}

func TestSameAnswersAgain(t *testing.T) { // rule 4: behind replies that were refused too
	b := bytesModel(plain())
	for range 3 {
		refuse(t, "cut off", b[:7])
		holdDecode(t, b)
		if got, code := tell.Encode(api.Tell{}); len(got) != 0 || code != api.ErrArg {
			t.Errorf("Encode of none = % x, %v", got, code)
		}
		if got, code := tell.Encode(plain()); !bytes.Equal(got, b) || code != api.OK {
			t.Errorf("Encode = % x, %v", got, code)
		}
	}
}

func FuzzDecode(f *testing.F) { // P8.2, P8.3
	f.Add([]byte{})
	f.Add([]byte{2, 1, 1, 0, 0, 0})
	f.Add(bytesModel(plain()))
	f.Add(bytesModel(turned(func(x *api.Tell) { x.ID, x.Full, x.Statuses, x.Heads = 300, true, statuses(3), heads(3) })))
	f.Add([]byte{2, 0x81, 0, 1, 0, 0, 0})
	f.Fuzz(func(t *testing.T, b []byte) {
		holdDecode(t, b)
		x, code := tell.Decode(b)
		if code != api.OK {
			return
		}
		if again, code := tell.Encode(x); code != api.OK || !bytes.Equal(again, b) {
			t.Errorf("% x became % x, %v", b, again, code)
		}
	})
}
