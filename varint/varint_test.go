package varint_test

import (
	"bytes"
	"encoding/binary"
	"math"
	"slices"
	"testing"

	"turncock/api"
	"turncock/varint"
)

// edges are the numbers around which something could turn: at each bit, so at each number that needs one byte more, and at both ends.
func edges() []uint64 {
	var list []uint64
	for bit := range 64 {
		for by := range uint64(7) {
			list = append(list, 1<<bit-3+by) // below 0 it goes round, to the greatest ones
		}
	}
	return append(list, 0, 300, 0x5555555555555555, 0xaaaaaaaaaaaaaaaa, 0x0123456789abcdef, math.MaxUint64)
}

// row is n bytes of x, and the others behind them.
func row(n int, x byte, others ...byte) []byte {
	return append(bytes.Repeat([]byte{x}, n), others...)
}

func TestPut(t *testing.T) { // P2.1
	cases := []struct {
		b    []byte
		v    uint64
		want []byte
	}{
		{nil, 0, []byte{0}},
		{nil, 1, []byte{1}},
		{nil, 127, []byte{127}},
		{nil, 128, []byte{128, 1}},
		{nil, 129, []byte{129, 1}},
		{nil, 255, []byte{255, 1}},
		{nil, 256, []byte{128, 2}},
		{nil, 300, []byte{0xac, 0x02}},
		{nil, 1<<14 - 1, []byte{255, 127}},
		{nil, 1 << 14, []byte{128, 128, 1}},
		{nil, 1<<63 - 1, row(8, 255, 127)},
		{nil, 1 << 63, row(9, 128, 1)},
		{nil, math.MaxUint64, row(9, 255, 1)},
		{[]byte{}, 5, []byte{5}},
		{[]byte{7}, 0, []byte{7, 0}},
		{[]byte{128, 255, 0}, 300, []byte{128, 255, 0, 0xac, 0x02}},
	}
	for _, c := range cases {
		if got := varint.Put(c.b, c.v); !bytes.Equal(got, c.want) {
			t.Errorf("Put(%v, %d) = %v, want %v", c.b, c.v, got, c.want)
		}
	}
}

func TestPutIsTheUsualForm(t *testing.T) { // P2.1: at all edges, held against the library's numbers
	for _, v := range edges() {
		want := binary.AppendUvarint(nil, v)
		if got := varint.Put(nil, v); !bytes.Equal(got, want) {
			t.Errorf("Put(nil, %d) = %v, want %v", v, got, want)
		}
		if got := varint.Len(v); got != len(want) {
			t.Errorf("Len(%d) = %d, want %d", v, got, len(want))
		}
	}
}

func TestLen(t *testing.T) { // P2.1: where one byte more is needed
	if got := varint.Len(0); got != 1 {
		t.Errorf("Len(0) = %d, want 1", got)
	}
	for n := 1; n <= 9; n++ {
		first := uint64(1) << (7 * n)
		if got := varint.Len(first - 1); got != n {
			t.Errorf("Len(%d) = %d, want %d", first-1, got, n)
		}
		if got := varint.Len(first); got != n+1 {
			t.Errorf("Len(%d) = %d, want %d", first, got, n+1)
		}
	}
	if got := varint.Len(math.MaxUint64); got != 10 {
		t.Errorf("Len(the greatest) = %d, want 10", got)
	}
}

func TestPutLeavesSpareRoom(t *testing.T) { // P2.1: b, and what stands behind it, are as they were
	for room := range 14 {
		whole := row(3+room, 77)
		b := whole[:3]
		for _, v := range []uint64{0, 5, 300, math.MaxUint64} {
			varint.Put(b, v)
			if !bytes.Equal(whole, row(3+room, 77)) {
				t.Fatalf("Put(b, %d) with %d bytes of room turned it to %v", v, room, whole)
			}
		}
	}
}

func TestPutIsNewMemory(t *testing.T) { // P2.1: what is answered is nobody else's
	b := make([]byte, 2, 32)
	one := varint.Put(b, 1)
	two := varint.Put(b, 2)
	clear(one)
	one = append(one[:0], 9, 9, 9)
	if !bytes.Equal(two, []byte{0, 0, 2}) || !bytes.Equal(b, []byte{0, 0}) || !bytes.Equal(one, []byte{9, 9, 9}) {
		t.Errorf("two answers on one b share memory: b %v, one %v, two %v", b, one, two)
	}
	b[0] = 8
	if two[0] != 0 {
		t.Error("an answer shares memory with b")
	}
}

func TestGet(t *testing.T) { // P2.2
	cases := []struct {
		b []byte
		v uint64
		n int
	}{
		{[]byte{0}, 0, 1},
		{[]byte{0, 0}, 0, 1},
		{[]byte{0, 128}, 0, 1},
		{[]byte{127}, 127, 1},
		{[]byte{128, 1}, 128, 2},
		{[]byte{0xac, 0x02}, 300, 2},
		{[]byte{0xac, 0x02, 0}, 300, 2},
		{[]byte{0xac, 0x02, 255, 255}, 300, 2},
		{[]byte{255, 127}, 1<<14 - 1, 2},
		{[]byte{128, 128, 1}, 1 << 14, 3},
		{row(8, 255, 127), 1<<63 - 1, 9},
		{row(8, 128, 1), 1 << 56, 9},
		{row(9, 128, 1), 1 << 63, 10},
		{row(9, 255, 1), math.MaxUint64, 10},
		{row(9, 255, 1, 255, 255), math.MaxUint64, 10},
	}
	for _, c := range cases {
		v, n, e := varint.Get(c.b)
		if v != c.v || n != c.n || e != api.OK {
			t.Errorf("Get(%v) = %d, %d, %d, want %d, %d, OK", c.b, v, n, e, c.v, c.n)
		}
	}
}

func TestGetWrong(t *testing.T) { // P2.2: which error, and nothing beside it
	type wrong struct {
		b    []byte
		want api.Errno
	}
	cases := []wrong{
		{nil, api.ErrMore},
		{[]byte{}, api.ErrMore},
		{[]byte{255}, api.ErrMore},
		{[]byte{0x80, 0x00}, api.ErrBytes},
		{[]byte{0x80, 0x00, 1}, api.ErrBytes},
		{[]byte{129, 128, 0}, api.ErrBytes},
		{row(9, 255, 0), api.ErrBytes},
		{row(9, 128, 0), api.ErrBytes},
		{row(9, 128, 2, 1), api.ErrBytes},
		{row(10, 128, 1), api.ErrBytes},
		{row(10, 128, 0), api.ErrBytes},
		{row(11, 255), api.ErrBytes},
		{row(1000, 128), api.ErrBytes},
	}
	for n := 1; n <= 9; n++ {
		cases = append(cases, wrong{row(n, 128), api.ErrMore}, wrong{row(n, 255), api.ErrMore}, wrong{row(n, 200, 0), api.ErrBytes})
	}
	for tenth := 2; tenth < 256; tenth++ {
		cases = append(cases, wrong{row(9, 128, byte(tenth)), api.ErrBytes}, wrong{row(9, 255, byte(tenth)), api.ErrBytes})
	}
	for _, c := range cases {
		if v, n, e := varint.Get(c.b); v != 0 || n != 0 || e != c.want {
			t.Errorf("Get(%.12v) = %d, %d, %d, want 0, 0, %d", c.b, v, n, e, c.want)
		}
	}
}

func TestGetChangesNothing(t *testing.T) { // P2.2
	for _, b := range [][]byte{{0xac, 0x02, 9}, {128, 0, 3}, {128, 128}, row(9, 255, 1, 4), row(10, 255)} {
		was := slices.Clone(b)
		varint.Get(b)
		if !bytes.Equal(b, was) {
			t.Errorf("Get turned %v to %v", was, b)
		}
	}
}

func TestPutIsGot(t *testing.T) { // P2.3
	behind := [][]byte{nil, {0}, {1}, {127}, {128}, {255}, {0xac, 0x02}, row(9, 255, 1), row(12, 128)}
	for _, v := range edges() {
		for _, rest := range behind {
			b := append(varint.Put(nil, v), rest...)
			got, n, e := varint.Get(b)
			if got != v || n != varint.Len(v) || e != api.OK {
				t.Errorf("Get(%v) = %d, %d, %d, want %d, %d, OK", b, got, n, e, v, varint.Len(v))
			}
		}
		b := varint.Put([]byte{128, 0}, v)
		if got, n, e := varint.Get(b[2:]); got != v || n != len(b)-2 || e != api.OK {
			t.Errorf("Get behind two bytes = %d, %d, %d, want %d, %d, OK", got, n, e, v, len(b)-2)
		}
	}
}

func TestPutCutShortLacks(t *testing.T) { // P2.3, P2.2: no number's bytes begin another's
	for _, v := range edges() {
		b := varint.Put(nil, v)
		for n := range len(b) {
			if got, m, e := varint.Get(b[:n]); got != 0 || m != 0 || e != api.ErrMore {
				t.Errorf("Get(%v) = %d, %d, %d, want 0, 0, ErrMore", b[:n], got, m, e)
			}
		}
	}
}

// told is Get by the chapter's words, one after the other.
func told(b []byte) (uint64, int, api.Errno) {
	end := slices.IndexFunc(b, func(x byte) bool { return x < 128 })
	if (end < 0 || end >= 9) && len(b) >= 10 && b[9] > 1 {
		return 0, 0, api.ErrBytes
	}
	if end < 0 {
		return 0, 0, api.ErrMore
	}
	if end > 0 && b[end] == 0 {
		return 0, 0, api.ErrBytes
	}
	v, n := binary.Uvarint(b)
	return v, n, api.OK
}

// checkGet holds Get against the words, and, of what it tells, that Put gives those very bytes.
func checkGet(t *testing.T, b []byte) {
	t.Helper()
	v, n, e := varint.Get(b)
	if wantV, wantN, wantE := told(b); v != wantV || n != wantN || e != wantE {
		t.Fatalf("Get(%v) = %d, %d, %d, want %d, %d, %d", b, v, n, e, wantV, wantN, wantE)
	}
	if e == api.OK && !bytes.Equal(varint.Put(nil, v), b[:n]) {
		t.Fatalf("Get(%v) = %d, but Put gives %v", b, v, varint.Put(nil, v))
	}
}

func TestNothingElseHasThoseBytes(t *testing.T) { // P2.3, P2.2: all lists of up to two bytes, and all of edge bytes at the front and at the end
	checkGet(t, nil)
	for i := range 256 {
		checkGet(t, []byte{byte(i)})
		for j := range 256 {
			checkGet(t, []byte{byte(i), byte(j)})
			for ahead := 1; ahead <= 10; ahead++ {
				checkGet(t, row(ahead, 129, byte(i), byte(j)))
			}
		}
	}
	signs := []byte{0, 1, 2, 127, 128, 129, 255}
	for i := range 7 * 7 * 7 * 7 * 7 {
		b := make([]byte, 0, 15)
		for k := i; len(b) < 5; k /= 7 {
			b = append(b, signs[k%7])
		}
		checkGet(t, b)
		for ahead := 4; ahead <= 9; ahead++ {
			checkGet(t, append(row(ahead, 200), b...))
		}
	}
}
