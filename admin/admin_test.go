package admin_test

import (
	"bytes"
	"encoding/binary"
	"math"
	"math/rand"
	"slices"
	"strings"
	"testing"

	"turncock/admin"
	"turncock/api"
)

// message is one of the three kinds, with its numbers in the order of its bytes: of a query and a report ID, Kind; of an
// oops ID, Code, Kind, Line, and no text.
type message struct {
	first byte
	nums  [4]int
	text  string
}

// form is how the messages of one kind are: how many numbers, from what to what, and how long a text, if they have one.
type form struct {
	name        string
	first       byte
	names       []string
	least, most []int
	text        int
}

const noText = -1

func forms() []form {
	return []form{
		{"query", 3, []string{"ID", "Kind"}, []int{0, 1}, []int{1<<31 - 1, 6}, 16384},
		{"report", 4, []string{"ID", "Kind"}, []int{0, 1}, []int{1<<31 - 1, 6}, 60000},
		{"oops", 5, []string{"ID", "Code", "Kind", "Line"}, []int{0, 1, 0, 0}, []int{1<<31 - 1, 8, 17, 1<<32 - 1}, noText},
	}
}

// encode is the Encode of the message's kind.
func encode(m message) ([]byte, api.Errno) {
	switch m.first {
	case 3:
		return admin.EncodeQuery(api.Query{ID: m.nums[0], Kind: m.nums[1], Text: m.text})
	case 4:
		return admin.EncodeReport(api.Report{ID: m.nums[0], Kind: m.nums[1], Text: m.text})
	}
	return admin.EncodeOops(api.Oops{ID: m.nums[0], Code: api.Errno(m.nums[1]), Kind: m.nums[2], Line: m.nums[3]})
}

// decode is the Decode of the form's kind.
func decode(f form, b []byte) (message, api.Errno) {
	m := message{first: f.first}
	var code api.Errno
	switch f.first {
	case 3:
		q, e := admin.DecodeQuery(b)
		m.nums, m.text, code = [4]int{q.ID, q.Kind}, q.Text, e
	case 4:
		r, e := admin.DecodeReport(b)
		m.nums, m.text, code = [4]int{r.ID, r.Kind}, r.Text, e
	default:
		o, e := admin.DecodeOops(b)
		m.nums, code = [4]int{o.ID, int(o.Code), o.Kind, o.Line}, e
	}
	return m, code
}

// plain is a message that is taken, with some of all.
func plain(f form) message {
	m := message{first: f.first, nums: [4]int{1, 2}}
	if f.text == noText {
		m.nums = [4]int{1, 8, 16, 3}
		return m
	}
	m.text = "ab"
	return m
}

func turned(f form, turn func(m *message)) message {
	m := plain(f)
	turn(&m)
	return m
}

// least and greatest are messages of which nothing may be less, or more.
func least(f form) message {
	m := message{first: f.first}
	copy(m.nums[:], f.least)
	return m
}

func greatest(f form) message {
	m := message{first: f.first, text: allBytes(max(f.text, 0))}
	copy(m.nums[:], f.most)
	return m
}

// allBytes is a text of n bytes with bytes of every value in it, if it is long enough.
func allBytes(n int) string {
	b := make([]byte, n)
	for i := range b {
		b[i] = byte(i * 7)
	}
	return string(b)
}

// some is a message that is taken, of any size.
func some(f form, r *rand.Rand) message {
	m := message{first: f.first}
	for i := range f.names {
		span := f.most[i] - f.least[i] + 1
		m.nums[i] = f.least[i] + r.Intn(min(span, 1<<(1+r.Intn(32))))
	}
	if f.text != noText {
		b := make([]byte, r.Intn(1<<r.Intn(9)))
		r.Read(b)
		m.text = string(b)
	}
	return m
}

// taken is P9.2's: which messages are encoded.
func taken(f form, m message) bool {
	for i := range f.names {
		if m.nums[i] < f.least[i] || m.nums[i] > f.most[i] {
			return false
		}
	}
	return f.text == noText || len(m.text) <= f.text
}

// parts are a message's bytes, part by part, whether it is taken or not: each but the first one begins with a number.
func parts(f form, m message) [][]byte {
	l := [][]byte{{m.first}}
	for i := range f.names {
		l = append(l, binary.AppendUvarint(nil, uint64(m.nums[i])))
	}
	if f.text != noText {
		l = append(l, append(binary.AppendUvarint(nil, uint64(len(m.text))), m.text...))
	}
	return l
}

func bytesModel(f form, m message) []byte { return slices.Concat(parts(f, m)...) }

// loose reads messages more freely than a Decode: numbers in any form, any first byte, and whatever stands behind.
type loose struct {
	b   []byte
	bad bool
}

func (l *loose) number() int {
	v, n := binary.Uvarint(l.b)
	if n <= 0 || v > math.MaxInt {
		l.bad = true
		return 0
	}
	l.b = l.b[n:]
	return int(v)
}

func (l *loose) text() string {
	n := l.number()
	if n > len(l.b) {
		l.bad = true
		return ""
	}
	return string(l.b[:n])
}

// decodeModel is P9.3: of what can be read freely, the message that is taken and whose bytes are just these.
func decodeModel(f form, b []byte) (message, api.Errno) {
	l := &loose{b: b}
	m := message{first: f.first}
	l.number()
	for i := range f.names {
		m.nums[i] = l.number()
	}
	if f.text != noText {
		m.text = l.text()
	}
	if l.bad || !taken(f, m) || !bytes.Equal(bytesModel(f, m), b) {
		return message{first: f.first}, api.ErrBytes
	}
	return m, api.OK
}

// holdDecode holds the Decode of the form's kind against its model.
func holdDecode(t *testing.T, f form, b []byte) {
	t.Helper()
	m, code := decode(f, b)
	want, wantCode := decodeModel(f, b)
	if code != wantCode || m != want {
		t.Fatalf("%s: Decode(%.60x) = %.99v, %v, want %.99v, %v", f.name, b, m, code, want, wantCode)
	}
}

// refuse holds that the Decode of the form's kind has nothing to tell of b.
func refuse(t *testing.T, f form, what string, b []byte) {
	t.Helper()
	m, code := decode(f, b)
	if code != api.ErrBytes || m != (message{first: f.first}) {
		t.Errorf("%s, %s: Decode(%.60x) = %.99v, %v, want none, ErrBytes", f.name, what, b, m, code)
	}
}

// edges are messages at each edge of the form, right ones and wrong ones.
func edges(f form) []message {
	list := []message{{first: f.first}, plain(f), least(f), greatest(f)}
	for i := range f.names {
		near := []int{f.least[i] - 1, f.least[i], f.least[i] + 1, f.most[i] - 1, f.most[i], f.most[i] + 1}
		for _, n := range append(near, math.MinInt, -1<<32, -1<<31, -2, -1, 0, 1, 2, 3, 7, 8, 9, 18, 127, 128, 255, 256, 257, 1<<31, 1<<32, 1<<32+1, 1<<40, math.MaxInt) {
			list = append(list, turned(f, func(m *message) { m.nums[i] = n }))
			for _, at := range []message{least(f), greatest(f)} {
				at.nums[i] = n
				list = append(list, at)
			}
		}
	}
	if f.text == noText {
		return list
	}
	for _, n := range []int{0, 1, 2, 127, 128, 255, 256, 257, 16383, 16384, 16385, 59999, 60000, 60001, 65536, 1 << 17} {
		list = append(list, turned(f, func(m *message) { m.text = allBytes(n) }))
	}
	for i := range 256 {
		one := string([]byte{byte(i)})
		list = append(list, turned(f, func(m *message) { m.text = one }), turned(f, func(m *message) { m.text = "a" + one + "b" }))
	}
	return list
}

func TestKind(t *testing.T) { // P9.1: of no bytes, and of each first byte, with others behind it or none
	for _, b := range [][]byte{nil, {}, make([]byte, 0, 9), []byte{3, 1, 1, 0}[:0]} {
		if got := admin.Kind(b); got != 0 {
			t.Errorf("Kind of no bytes = %d", got)
		}
	}
	for i := range 256 {
		want := 0
		if i == 1 || i == 2 || i == 3 || i == 4 || i == 5 {
			want = i
		}
		first := byte(i)
		for _, b := range [][]byte{{first}, {first, 0}, {first, 3}, {first, 128}, {first, 255, 1, 2}, append([]byte{first}, allBytes(300)...)} {
			if got := admin.Kind(b); got != want {
				t.Errorf("Kind(%.9x) = %d, want %d", b, got, want)
			}
		}
	}
}

func TestKindOfEncoded(t *testing.T) { // P9.1, P9.2
	for _, f := range forms() {
		for _, m := range []message{plain(f), least(f), greatest(f)} {
			b, _ := encode(m)
			if got := admin.Kind(b); got != int(f.first) {
				t.Errorf("%s: Kind(%.9x) = %d", f.name, b, got)
			}
		}
	}
}

func TestExample(t *testing.T) { // P9.2, P9.3
	want := []byte{3, 2, 2, 0}
	q := api.Query{ID: 2, Kind: api.QHealth}
	if b, code := admin.EncodeQuery(q); code != api.OK || !bytes.Equal(b, want) {
		t.Errorf("EncodeQuery = % x, %v, want % x", b, code, want)
	}
	if back, code := admin.DecodeQuery(want); code != api.OK || back != q {
		t.Errorf("DecodeQuery = %v, %v", back, code)
	}
}

func TestBytes(t *testing.T) { // P9.2, P9.3: the order of the parts, and numbers of several bytes
	long := strings.Repeat("x", 300)
	q := api.Query{ID: 300, Kind: api.QLoad, Text: "a: b\n"}
	r := api.Report{ID: 1<<31 - 1, Kind: api.QResume, Text: long}
	o := api.Oops{ID: 128, Code: api.ErrText, Kind: api.FUnit, Line: 1<<32 - 1}
	qb, rb, ob := []byte("\x03\xac\x02\x03\x05a: b\n"), []byte("\x04\xff\xff\xff\xff\x07\x06\xac\x02"+long), []byte("\x05\x80\x01\x08\x10\xff\xff\xff\xff\x0f")
	if b, code := admin.EncodeQuery(q); code != api.OK || !bytes.Equal(b, qb) {
		t.Errorf("EncodeQuery = %q, %v, want %q", b, code, qb)
	}
	if back, code := admin.DecodeQuery(qb); code != api.OK || back != q {
		t.Errorf("DecodeQuery = %v, %v", back, code)
	}
	if b, code := admin.EncodeReport(r); code != api.OK || !bytes.Equal(b, rb) {
		t.Errorf("EncodeReport = %q, %v, want %q", b, code, rb)
	}
	if back, code := admin.DecodeReport(rb); code != api.OK || back != r {
		t.Errorf("DecodeReport = %v, %v", back, code)
	}
	if b, code := admin.EncodeOops(o); code != api.OK || !bytes.Equal(b, ob) {
		t.Errorf("EncodeOops = %q, %v, want %q", b, code, ob)
	}
	if back, code := admin.DecodeOops(ob); code != api.OK || back != o {
		t.Errorf("DecodeOops = %v, %v", back, code)
	}
}

func TestEncodeNumbers(t *testing.T) { // P9.2: the least and the greatest of each number, and one beyond
	for _, f := range forms() {
		for i, name := range f.names {
			for _, from := range []message{plain(f), least(f), greatest(f)} {
				for _, n := range []int{f.least[i] - 1, f.least[i], f.least[i] + 1, f.most[i] - 1, f.most[i], f.most[i] + 1} {
					want := api.OK
					if n < f.least[i] || n > f.most[i] {
						want = api.ErrArg
					}
					m := from
					m.nums[i] = n
					if b, code := encode(m); code != want || (len(b) == 0) != (want != api.OK) {
						t.Errorf("%s at %s %d: %.9x, %v, want %v", f.name, name, n, b, code, want)
					}
				}
			}
		}
	}
}

func TestEncodeTexts(t *testing.T) { // P9.2: how long a text may be; what bytes it has is all one
	for _, f := range forms() {
		if f.text == noText {
			continue
		}
		for _, n := range []int{0, 1, 127, 128, f.text - 1, f.text, f.text + 1, f.text + 2, 2 * f.text} {
			want := api.OK
			if n > f.text {
				want = api.ErrArg
			}
			for _, text := range []string{allBytes(n), strings.Repeat("\x00", n), strings.Repeat("\xff", n), strings.Repeat("é", n)[:n]} {
				if b, code := encode(turned(f, func(m *message) { m.text = text })); code != want || (len(b) == 0) != (want != api.OK) {
					t.Errorf("%s with a text of %d: %.9x, %v, want %v", f.name, n, b, code, want)
				}
			}
		}
	}
}

func TestEncodeAndBack(t *testing.T) { // P9.2, P9.3, P9.4: at the edges, and of messages of any size
	r := rand.New(rand.NewSource(9))
	for _, f := range forms() {
		list := edges(f)
		for range 1000 {
			list = append(list, some(f, r))
		}
		took := 0
		for _, m := range list {
			b, code := encode(m)
			if !taken(f, m) {
				if code != api.ErrArg || len(b) != 0 {
					t.Errorf("%s: Encode(%.99v) = %.50x, %v, want none, ErrArg", f.name, m, b, code)
				}
				refuse(t, f, "what is not encoded", bytesModel(f, m))
				continue
			}
			took++
			if code != api.OK || !bytes.Equal(b, bytesModel(f, m)) {
				t.Errorf("%s: Encode(%.99v) = %.50x, %v", f.name, m, b, code)
			}
			if back, code := decode(f, b); code != api.OK || back != m {
				t.Errorf("%s: %.99v came back as %.99v, %v", f.name, m, back, code)
			}
		}
		if took < 1000 || took > len(list)-20 {
			t.Errorf("%s: of %d %d are taken", f.name, len(list), took)
		}
	}
}

func TestAllSmall(t *testing.T) { // P9.2, P9.4: each code with each kind of fault; each kind of query
	for _, f := range forms() {
		for a := -1; a < 20; a++ {
			for b := -1; b < 20; b++ {
				m := turned(f, func(m *message) { m.nums[1], m.nums[2] = a, b })
				if f.text != noText {
					m.nums[2] = 0
				}
				got, code := encode(m)
				if (code == api.OK) != taken(f, m) {
					t.Errorf("%s: Encode(%v) = % x, %v", f.name, m, got, code)
				}
				if back, code := decode(f, got); taken(f, m) && (code != api.OK || back != m) {
					t.Errorf("%s: %v came back as %v, %v", f.name, m, back, code)
				}
			}
		}
	}
}

func TestDecodeRefuses(t *testing.T) { // P9.3
	for _, f := range forms() {
		refuse(t, f, "nil", nil)
		refuse(t, f, "none", []byte{})
		for _, m := range []message{plain(f), least(f), greatest(f)} {
			right := bytesModel(f, m)
			for i := range 256 {
				if byte(i) != f.first {
					refuse(t, f, "another first byte", append([]byte{byte(i)}, right[1:]...))
				}
				refuse(t, f, "one byte alone", []byte{byte(i)})
				refuse(t, f, "a byte more behind", append(bytes.Clone(right), byte(i)))
			}
			refuse(t, f, "twice", append(bytes.Clone(right), right...))
			refuse(t, f, "a first byte in two", append([]byte{f.first | 128, 0}, right[1:]...))
			refuse(t, f, "without a first byte", right[1:])
		}
	}
}

func TestDecodeRefusesOtherKinds(t *testing.T) { // P9.3
	r := rand.New(rand.NewSource(10))
	for _, f := range forms() {
		for _, g := range forms() {
			if f.first == g.first {
				continue
			}
			refuse(t, f, "of another kind", bytesModel(g, plain(g)))
			refuse(t, f, "of another kind", bytesModel(g, least(g)))
			refuse(t, f, "of another kind", bytesModel(g, greatest(g)))
			for range 50 {
				refuse(t, f, "of another kind", bytesModel(g, some(g, r)))
			}
		}
		refuse(t, f, "a request", []byte("\x01\x01\x01d\x00\x01\x01\x01k\x00"))
		refuse(t, f, "a reply", []byte{2, 1, 1, 0, 0, 0})
	}
}

func TestDecodeRefusesCuts(t *testing.T) { // P9.3: cut off at each place, even with what lacks in the spare room
	r := rand.New(rand.NewSource(11))
	for _, f := range forms() {
		for _, m := range []message{plain(f), least(f), some(f, r), some(f, r)} {
			b := bytesModel(f, m)
			for i := range b {
				refuse(t, f, "cut off", b[:i])
				refuse(t, f, "cut off", slices.Clip(b[:i]))
			}
		}
		b := bytesModel(f, greatest(f))
		for _, i := range []int{1, 2, 3, 4, 5, 6, 7, 8, 9, len(b) / 2, len(b) - 2, len(b) - 1} {
			if i < len(b) {
				refuse(t, f, "cut off", b[:i])
			}
		}
	}
}

// longer is a number's bytes with one, two, .. bytes more than it needs.
func longer(v uint64, more int) []byte {
	b := binary.AppendUvarint(nil, v)
	for range more {
		b[len(b)-1] |= 128
		b = append(b, 0)
	}
	return b
}

func TestDecodeRefusesOtherNumbers(t *testing.T) { // P9.3: each number too long, or another one
	r := rand.New(rand.NewSource(12))
	for _, f := range forms() {
		for _, m := range []message{plain(f), least(f), greatest(f), some(f, r), some(f, r)} {
			l := parts(f, m)
			for i := 1; i < len(l); i++ {
				ahead, behind := slices.Concat(l[:i]...), slices.Concat(l[i+1:]...)
				v, n := binary.Uvarint(l[i])
				with := func(number []byte) []byte { return slices.Concat(ahead, number, l[i][n:], behind) }
				for more := 1; more < 12; more++ {
					refuse(t, f, "a number that is not as short as may be", with(longer(v, more)))
				}
				for _, y := range []uint64{1 << 32, 1<<32 + v, 1 << 62, 1 << 63, 1<<63 | v, math.MaxUint64} {
					refuse(t, f, "a number beyond what may be", with(binary.AppendUvarint(nil, y|1<<32)))
				}
				refuse(t, f, "a number of eleven bytes", with(append(bytes.Repeat([]byte{255}, 10), 1)))
				refuse(t, f, "a number that does not end", append(bytes.Clone(ahead), 128))
				refuse(t, f, "a tenth byte above 1", with(append(bytes.Repeat([]byte{255}, 9), 2)))
				for y := range uint64(400) {
					holdDecode(t, f, with(binary.AppendUvarint(nil, y)))
				}
			}
		}
	}
}

func TestDecodeLengths(t *testing.T) { // P9.3: beyond the end, and beyond what may be though all bytes are there
	for _, f := range forms() {
		if f.text == noText {
			continue
		}
		for _, size := range []int{0, 1, 127, 128, f.text - 1, f.text, f.text + 1, 2 * f.text} {
			text := allBytes(size)
			for _, told := range []uint64{0, 1, uint64(size), uint64(size) + 1, uint64(size) - 1, uint64(f.text), uint64(f.text) + 1, 1 << 31, 1<<32 + uint64(size), 1 << 62, 1 << 63, 1<<63 + uint64(size), math.MaxUint64} {
				b := slices.Concat([]byte{f.first, 1, 1}, binary.AppendUvarint(nil, told), []byte(text))
				holdDecode(t, f, b)
				want := api.ErrBytes
				if told == uint64(size) && size <= f.text {
					want = api.OK
				}
				if _, code := decode(f, b); code != want {
					t.Errorf("%s: %d of %d bytes: %v, want %v", f.name, told, size, code, want)
				}
			}
		}
	}
}

func TestDecodeEdges(t *testing.T) { // P9.3
	for _, x := range []struct {
		kind int
		what string
		b    string
		want api.Errno
	}{
		{3, "ID 0", "\x03\x00\x01\x00", api.OK},
		{3, "ID MaxID", "\x03\xff\xff\xff\xff\x07\x01\x00", api.OK},
		{3, "ID MaxID + 1", "\x03\x80\x80\x80\x80\x08\x01\x00", api.ErrBytes},
		{3, "ID of all bits", "\x03\xff\xff\xff\xff\xff\xff\xff\xff\xff\x01\x01\x00", api.ErrBytes},
		{3, "Kind 0", "\x03\x01\x00\x00", api.ErrBytes},
		{3, "Kind QResume", "\x03\x01\x06\x00", api.OK},
		{3, "Kind 7", "\x03\x01\x07\x00", api.ErrBytes},
		{3, "no text", "\x03\x01\x01", api.ErrBytes},
		{4, "ID 0", "\x04\x00\x01\x00", api.OK},
		{4, "ID MaxID", "\x04\xff\xff\xff\xff\x07\x01\x00", api.OK},
		{4, "ID MaxID + 1", "\x04\x80\x80\x80\x80\x08\x01\x00", api.ErrBytes},
		{4, "Kind 0", "\x04\x01\x00\x00", api.ErrBytes},
		{4, "Kind QResume", "\x04\x01\x06\x00", api.OK},
		{4, "Kind 7", "\x04\x01\x07\x00", api.ErrBytes},
		{5, "ID 0", "\x05\x00\x01\x00\x00", api.OK},
		{5, "ID MaxID", "\x05\xff\xff\xff\xff\x07\x01\x00\x00", api.OK},
		{5, "ID MaxID + 1", "\x05\x80\x80\x80\x80\x08\x01\x00\x00", api.ErrBytes},
		{5, "Code 0", "\x05\x01\x00\x00\x00", api.ErrBytes},
		{5, "Code ErrText", "\x05\x01\x08\x00\x00", api.OK},
		{5, "Code 9", "\x05\x01\x09\x00\x00", api.ErrBytes},
		{5, "Code 2^32 + 1", "\x05\x01\x81\x80\x80\x80\x10\x00\x00", api.ErrBytes},
		{5, "Kind FBoth", "\x05\x01\x01\x11\x00", api.OK},
		{5, "Kind 18", "\x05\x01\x01\x12\x00", api.ErrBytes},
		{5, "Line MaxNum", "\x05\x01\x01\x00\xff\xff\xff\xff\x0f", api.OK},
		{5, "Line MaxNum + 1", "\x05\x01\x01\x00\x80\x80\x80\x80\x10", api.ErrBytes},
		{5, "Line -1", "\x05\x01\x01\x00\xff\xff\xff\xff\xff\xff\xff\xff\xff\x01", api.ErrBytes},
		{5, "Line 2^63", "\x05\x01\x01\x00\x80\x80\x80\x80\x80\x80\x80\x80\x80\x01", api.ErrBytes},
	} {
		f := forms()[x.kind-3]
		if _, code := decode(f, []byte(x.b)); code != x.want {
			t.Errorf("%s, %s: %v, want %v", f.name, x.what, code, x.want)
		}
		holdDecode(t, f, []byte(x.b))
	}
}

func TestDecodeTurnedBytes(t *testing.T) { // P9.3, P9.4: each byte turned to each other, gone, and one more
	r := rand.New(rand.NewSource(13))
	for _, f := range forms() {
		wide := turned(f, func(m *message) { m.nums[0], m.text = 300, allBytes(max(0, min(f.text, 130))) })
		for _, m := range []message{plain(f), least(f), wide, some(f, r), some(f, r)} {
			b := bytesModel(f, m)
			for i := range b {
				for x := range 256 {
					c := bytes.Clone(b)
					c[i] = byte(x)
					holdDecode(t, f, c)
					if back, code := decode(f, c); code == api.OK && (back == m) != (c[i] == b[i]) {
						t.Fatalf("%.99x and %.99x are both of %.99v", b, c, m)
					}
					holdDecode(t, f, slices.Insert(bytes.Clone(b), i, byte(x)))
				}
				holdDecode(t, f, slices.Delete(bytes.Clone(b), i, i+1))
			}
		}
	}
}

func TestTurnedBytesOfAny(t *testing.T) { // P9.3, P9.4: of all that is encoded, each of its bytes turned a little
	for _, f := range forms() {
		for _, m := range edges(f) {
			if !taken(f, m) {
				continue
			}
			b, code := encode(m)
			if code != api.OK {
				t.Fatalf("%s: Encode(%.99v) = %v", f.name, m, code)
			}
			// Of a long text some of its bytes, since all of them are alike to Decode.
			for i := 0; i < len(b); i += 1 + i/30*1009 {
				was := b[i]
				for _, bit := range []byte{1, 2, 4, 128, 255} {
					b[i] = was ^ bit
					holdDecode(t, f, b)
				}
				b[i] = was
			}
		}
	}
}

func TestDecodeAllShort(t *testing.T) { // P9.3: all lists of up to seven bytes of some that a message may have
	signs := []byte{0, 1, 2, 6, 7, 128}
	for _, f := range forms() {
		right := 0
		var grow func(b []byte)
		grow = func(b []byte) {
			holdDecode(t, f, b)
			if _, code := decode(f, b); code == api.OK {
				right++
			}
			if len(b) == 7 {
				return
			}
			for _, s := range signs {
				grow(append(b, s))
			}
		}
		grow(append(make([]byte, 0, 8), f.first))
		if right < 100 {
			t.Errorf("%s: %d alone are right", f.name, right)
		}
	}
}

func TestDecodeWild(t *testing.T) { // P9.3: lists of any bytes, and of right ones in pieces
	r := rand.New(rand.NewSource(14))
	for _, f := range forms() {
		for range 20000 {
			b := make([]byte, r.Intn(20))
			r.Read(b)
			if len(b) > 0 && r.Intn(4) > 0 {
				b[0] = f.first
			}
			for i := 1; i < len(b); i++ {
				if r.Intn(2) == 0 {
					b[i] %= 9
				}
			}
			holdDecode(t, f, b)
		}
		for range 2000 {
			b, c := bytesModel(f, some(f, r)), bytesModel(f, some(f, r))
			i, j := r.Intn(len(b)), r.Intn(len(c))
			holdDecode(t, f, slices.Concat(b[:i], c[j:]))
			for range 3 {
				b[r.Intn(len(b))] ^= 1 << r.Intn(8)
				holdDecode(t, f, b)
			}
		}
	}
}

func TestArgumentsStay(t *testing.T) { // rule 3
	for _, f := range forms() {
		b := append(bytesModel(f, plain(f)), "spare"...)
		kept := bytes.Clone(b)
		for i := range len(b) - len("spare") + 1 {
			decode(f, b[:i])
			admin.Kind(b[:i])
		}
		if !bytes.Equal(b, kept) {
			t.Errorf("%s: Decode made % x out of % x", f.name, b, kept)
		}
	}
}

func TestAnswersAreNew(t *testing.T) { // rule 3
	for _, f := range forms() {
		m := greatest(f)
		b, _ := encode(m)
		other, _ := encode(m)
		back, _ := decode(f, b)
		for i := range b {
			b[i] = 'x'
		}
		if !bytes.Equal(other, bytesModel(f, m)) {
			t.Errorf("%s: two answers of Encode share memory", f.name)
		}
		if back != greatest(f) || m != greatest(f) {
			t.Errorf("%s: a text shares memory with its bytes", f.name)
		}
	}
}

func TestSameAnswersAgain(t *testing.T) { // rule 4: behind what was refused too
	for _, f := range forms() {
		b := bytesModel(f, plain(f))
		for range 3 {
			refuse(t, f, "cut off", b[:2])
			holdDecode(t, f, b)
			if got, code := encode(message{first: f.first}); len(got) != 0 || code != api.ErrArg {
				t.Errorf("%s: Encode of none = % x, %v", f.name, got, code)
			}
			if got, code := encode(plain(f)); !bytes.Equal(got, b) || code != api.OK {
				t.Errorf("%s: Encode = % x, %v", f.name, got, code)
			}
		}
	}
}

func FuzzDecode(f *testing.F) { // P9.3, P9.4
	f.Add([]byte{})
	f.Add([]byte{3, 2, 2, 0})
	for _, x := range forms() {
		f.Add(bytesModel(x, plain(x)))
		f.Add(bytesModel(x, least(x)))
	}
	f.Fuzz(func(t *testing.T, b []byte) {
		for _, x := range forms() {
			holdDecode(t, x, b)
			m, code := decode(x, b)
			if code != api.OK {
				continue
			}
			if again, code := encode(m); code != api.OK || !bytes.Equal(again, b) {
				t.Errorf("% x became % x, %v", b, again, code)
			}
		}
	})
}
