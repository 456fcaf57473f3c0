package frame_test

import (
	"bytes"
	"encoding/binary"
	"math"
	"slices"
	"testing"

	"turncock/api"
	"turncock/frame"
	"turncock/varint"
)

// row is n bytes of x, and the others behind them.
func row(n int, x byte, others ...byte) []byte {
	return append(bytes.Repeat([]byte{x}, n), others...)
}

// pattern is n bytes that differ from their neighbours, so that a payload cut at the wrong place is seen.
func pattern(n int) []byte {
	b := make([]byte, n)
	for i := range b {
		b[i] = byte(i*7 + i>>8 + 3)
	}
	return b
}

// numbered is a number's bytes by the library, and the others behind them.
func numbered(v uint64, others ...byte) []byte {
	return append(binary.AppendUvarint(nil, v), others...)
}

// sizes are the lengths around which something could turn: where the number needs a byte more, and at the greatest frame.
func sizes() []int {
	return []int{0, 1, 2, 5, 126, 127, 128, 129, 300, 1<<14 - 1, 1 << 14, 1<<14 + 1, api.MaxFrame - 1, api.MaxFrame}
}

// wideMosts count as MaxFrame.
func wideMosts() []int {
	return []int{api.MaxFrame, api.MaxFrame + 1, 1 << 20, 1 << 31, 1 << 32, math.MaxInt}
}

// narrowMosts count as 0.
func narrowMosts() []int {
	return []int{0, -1, -2, -api.MaxFrame, -1 << 32, math.MinInt + 1, math.MinInt}
}

func checkNext(t *testing.T, b []byte, most int, x []byte, n int, e api.Errno) {
	t.Helper()
	gotX, gotN, gotE := frame.Next(b, most)
	if !bytes.Equal(gotX, x) || gotN != n || gotE != e {
		t.Errorf("Next(%.12v of %d bytes, %d) = %.12v of %d bytes, %d, %d, want %.12v of %d bytes, %d, %d",
			b, len(b), most, gotX, len(gotX), gotN, gotE, x, len(x), n, e)
	}
}

func sameLists(a, b [][]byte) bool {
	return slices.EqualFunc(a, b, bytes.Equal)
}

func checkAll(t *testing.T, b []byte, most int, l [][]byte, n int, e api.Errno) {
	t.Helper()
	gotL, gotN, gotE := frame.All(b, most)
	if !sameLists(gotL, l) || gotN != n || gotE != e {
		t.Errorf("All(%.12v of %d bytes, %d) = %d payloads %.12v, %d, %d, want %d payloads %.12v, %d, %d",
			b, len(b), most, len(gotL), gotL, gotN, gotE, len(l), l, n, e)
	}
}

func TestPut(t *testing.T) { // P3.1
	cases := []struct{ b, x, want []byte }{
		{nil, nil, []byte{0}},
		{[]byte{}, []byte{}, []byte{0}},
		{nil, []byte{0}, []byte{1, 0}},
		{nil, []byte("ab"), []byte{2, 'a', 'b'}},
		{[]byte{9}, []byte("ab"), []byte{9, 2, 'a', 'b'}},
		{[]byte{9, 128}, nil, []byte{9, 128, 0}},
		{[]byte{2, 'a', 'b'}, []byte{255}, []byte{2, 'a', 'b', 1, 255}},
		{nil, row(127, 6), append([]byte{127}, row(127, 6)...)},
		{nil, row(128, 6), append([]byte{128, 1}, row(128, 6)...)},
		{nil, row(300, 6), append([]byte{0xac, 0x02}, row(300, 6)...)},
	}
	for _, c := range cases {
		if got := frame.Put(c.b, c.x); !bytes.Equal(got, c.want) {
			t.Errorf("Put(%v, %v) = %v, want %v", c.b, c.x, got, c.want)
		}
	}
}

func TestPutSizes(t *testing.T) { // P3.1: at each length where the number turns, and beyond the greatest frame, since Put has no most
	for _, n := range append(sizes(), api.MaxFrame+1, 3*api.MaxFrame) {
		x := pattern(n)
		want := append([]byte{4, 5}, numbered(uint64(n), x...)...)
		if got := frame.Put([]byte{4, 5}, x); !bytes.Equal(got, want) {
			t.Errorf("Put of %d bytes is %d bytes, %.8v.., want %d bytes, %.8v..", n, len(got), got, len(want), want)
		}
	}
}

func TestPutLeavesSpareRoom(t *testing.T) { // P3.1: b, x and what stands behind them are as they were
	for room := range 140 {
		whole := row(3+room, 77)
		wide := row(2+room, 66)
		for _, x := range [][]byte{nil, wide[:2], pattern(5), pattern(130)} {
			was := slices.Clone(x)
			frame.Put(whole[:3], x)
			if !bytes.Equal(whole, row(3+room, 77)) || !bytes.Equal(wide, row(2+room, 66)) || !bytes.Equal(x, was) {
				t.Fatalf("Put of %d bytes behind b with %d bytes of room turned %v, %v, %v", len(was), room, whole, wide, x)
			}
		}
	}
}

func TestPutWithinOneMemory(t *testing.T) { // P3.1: x may stand in b, or in its spare room
	whole := []byte{1, 2, 3, 4, 5, 6}
	if got := frame.Put(whole[:2], whole[2:5]); !bytes.Equal(got, []byte{1, 2, 3, 3, 4, 5}) {
		t.Errorf("Put of what stands in b's room = %v", got)
	}
	if got := frame.Put(whole, whole); !bytes.Equal(got, []byte{1, 2, 3, 4, 5, 6, 6, 1, 2, 3, 4, 5, 6}) {
		t.Errorf("Put(b, b) = %v", got)
	}
	if !bytes.Equal(whole, []byte{1, 2, 3, 4, 5, 6}) {
		t.Errorf("Put turned its arguments to %v", whole)
	}
}

func TestPutIsNewMemory(t *testing.T) { // P3.1: what is answered is nobody else's
	b, x := make([]byte, 2, 64), []byte{7, 8}
	one, two, empty := frame.Put(b, x), frame.Put(b, x), frame.Put(b, nil)
	for i := range one {
		one[i] = 99
	}
	_ = append(one, 99, 99)
	_ = append(empty, 99, 99)
	if !bytes.Equal(b[:8], make([]byte, 8)) || !bytes.Equal(x, []byte{7, 8}) {
		t.Errorf("an answer shares memory with an argument: b %v, x %v", b[:8], x)
	}
	b[0], x[0] = 55, 55
	if !bytes.Equal(two, []byte{0, 0, 2, 7, 8}) || !bytes.Equal(empty, []byte{0, 0, 0}) {
		t.Errorf("answers share memory: %v, %v", two, empty)
	}
}

func TestNext(t *testing.T) { // P3.2
	checkNext(t, []byte{2, 'a', 'b', 'c'}, 5, []byte("ab"), 3, api.OK)
	checkNext(t, []byte{2, 'a', 'b'}, 5, []byte("ab"), 3, api.OK)
	checkNext(t, []byte{2, 'a', 'b'}, 2, []byte("ab"), 3, api.OK)
	checkNext(t, []byte{0}, 5, nil, 1, api.OK)
	checkNext(t, []byte{0, 0}, 5, nil, 1, api.OK)
	checkNext(t, []byte{0, 128, 0}, 5, nil, 1, api.OK)
	checkNext(t, []byte{1, 128, 0}, 5, []byte{128}, 2, api.OK)
	checkNext(t, []byte{1, 0, 255, 255}, 5, []byte{0}, 2, api.OK)
	checkNext(t, numbered(300, row(301, 4)...), 300, row(300, 4), 302, api.OK)
}

func TestNextWrong(t *testing.T) { // P3.2: which error, and nothing beside it
	cases := []struct {
		b    []byte
		most int
		want api.Errno
	}{
		{nil, 5, api.ErrMore},
		{[]byte{}, 5, api.ErrMore},
		{nil, 0, api.ErrMore},
		{nil, -1, api.ErrMore},
		{[]byte{128}, 5, api.ErrMore},
		{[]byte{128, 128}, 0, api.ErrMore}, // whatever comes is too long, but the number is not whole yet
		{row(9, 255), 5, api.ErrMore},
		{[]byte{128, 0}, 5, api.ErrBytes},
		{[]byte{128, 0, 1, 2}, api.MaxFrame, api.ErrBytes},
		{[]byte{130, 128, 0, 1, 2}, api.MaxFrame, api.ErrBytes},
		{row(9, 255, 2), 5, api.ErrBytes},
		{row(10, 255), 5, api.ErrBytes},
		{row(9, 128, 0), api.MaxFrame, api.ErrBytes},
		{[]byte{6}, 5, api.ErrBig}, // told ahead of what lacks
		{[]byte{6, 1, 2, 3, 4, 5, 6}, 5, api.ErrBig},
		{[]byte{2, 'a'}, 5, api.ErrMore},
		{[]byte{5, 1, 2, 3, 4}, 5, api.ErrMore},
		{[]byte{5}, 5, api.ErrMore},
		{[]byte{1}, 1, api.ErrMore},
	}
	for _, c := range cases {
		checkNext(t, c.b, c.most, nil, 0, c.want)
	}
}

func TestNextHugeNumbers(t *testing.T) { // P3.2: numbers that an int or a sum would not take, however wide most is
	for _, v := range []uint64{api.MaxFrame + 1, 1<<31 - 1, 1 << 31, 1 << 32, 1<<32 + 1, 1 << 62, math.MaxInt64 - 1, math.MaxInt64, 1 << 63, 1<<63 + 1, math.MaxUint64 - 9, math.MaxUint64} {
		for _, most := range append(wideMosts(), narrowMosts()...) {
			checkNext(t, numbered(v), most, nil, 0, api.ErrBig)
			checkNext(t, numbered(v, 1, 2, 3), most, nil, 0, api.ErrBig)
		}
	}
}

func TestNextAtMost(t *testing.T) { // P3.2: a payload of most bytes, of one more, and one that lacks its last byte
	for _, most := range sizes() {
		x := pattern(most)
		b := numbered(uint64(most), x...)
		checkNext(t, b, most, x, len(b), api.OK)
		checkNext(t, append(slices.Clone(b), 0, 255), most, x, len(b), api.OK)
		checkNext(t, numbered(uint64(most+1), pattern(most+1)...), most, nil, 0, api.ErrBig)
		checkNext(t, numbered(uint64(most+1)), most, nil, 0, api.ErrBig)
		if most > 0 {
			checkNext(t, b[:len(b)-1], most, nil, 0, api.ErrMore)
			checkNext(t, b[:len(b)-most], most, nil, 0, api.ErrMore)
			checkNext(t, b, most-1, nil, 0, api.ErrBig)
		}
	}
}

func TestNextMostIsHeld(t *testing.T) { // P3.2, Words: below 0 it counts as 0, above MaxFrame as MaxFrame
	for _, most := range narrowMosts() {
		checkNext(t, []byte{0}, most, nil, 1, api.OK)
		checkNext(t, []byte{0, 5}, most, nil, 1, api.OK)
		checkNext(t, []byte{1, 5}, most, nil, 0, api.ErrBig)
		checkNext(t, []byte{1}, most, nil, 0, api.ErrBig)
	}
	greatest := pattern(api.MaxFrame)
	b := numbered(api.MaxFrame, greatest...)
	over := numbered(api.MaxFrame+1, pattern(api.MaxFrame+1)...)
	for _, most := range wideMosts() {
		checkNext(t, b, most, greatest, len(b), api.OK)
		checkNext(t, b[:len(b)-1], most, nil, 0, api.ErrMore)
		checkNext(t, over, most, nil, 0, api.ErrBig)
	}
}

func TestNextCutsNothingBehind(t *testing.T) { // P3.2: b's spare room is not b
	whole := []byte{3, 1, 2, 3, 4}
	checkNext(t, whole[:3], 5, nil, 0, api.ErrMore)
	checkNext(t, whole[:0], 5, nil, 0, api.ErrMore)
	number := []byte{128, 1, 7}
	checkNext(t, number[:1], 500, nil, 0, api.ErrMore)
}

func TestNextIsCopied(t *testing.T) { // P3.2, Ways: what is told shares no memory with b
	b := []byte{2, 'a', 'b', 0, 'c'}
	was := slices.Clone(b)
	x, _, _ := frame.Next(b, 5)
	empty, _, _ := frame.Next(b[3:], 5)
	x[0], x[1] = 1, 1
	_ = append(x, 9, 9)
	_ = append(empty, 9, 9)
	if !bytes.Equal(b, was) {
		t.Errorf("what was done with the payload turned b to %v", b)
	}
	x, _, _ = frame.Next(b, 5)
	clear(b)
	if !bytes.Equal(x, []byte("ab")) {
		t.Errorf("what was done with b turned the payload to %v", x)
	}
}

func TestAll(t *testing.T) { // P3.3
	cases := []struct {
		b []byte
		l [][]byte
		n int
		e api.Errno
	}{
		{nil, nil, 0, api.OK},
		{[]byte{}, nil, 0, api.OK},
		{[]byte{0}, [][]byte{{}}, 1, api.OK},
		{[]byte{0, 0}, [][]byte{{}, {}}, 2, api.OK},
		{[]byte{1, 97, 0, 2, 98, 99}, [][]byte{{97}, {}, {98, 99}}, 6, api.OK},
		{[]byte{5, 1, 2, 3, 4, 5}, [][]byte{{1, 2, 3, 4, 5}}, 6, api.OK},
		{[]byte{1, 97, 0, 2, 98}, [][]byte{{97}, {}}, 3, api.ErrMore},
		{[]byte{1, 97, 128}, [][]byte{{97}}, 2, api.ErrMore},
		{[]byte{1, 97, 9}, [][]byte{{97}}, 2, api.ErrBig},
		{[]byte{1, 97, 6, 1, 2, 3, 4, 5, 6, 0}, [][]byte{{97}}, 2, api.ErrBig},
		{[]byte{1, 97, 128, 0}, [][]byte{{97}}, 2, api.ErrBytes},
		{[]byte{1, 97, 128, 0, 1, 98}, [][]byte{{97}}, 2, api.ErrBytes},
		{append([]byte{0, 0}, row(10, 255)...), [][]byte{{}, {}}, 2, api.ErrBytes},
		{[]byte{3, 1}, nil, 0, api.ErrMore},
		{[]byte{6, 1}, nil, 0, api.ErrBig},
		{[]byte{128, 0, 0}, nil, 0, api.ErrBytes},
	}
	for _, c := range cases {
		checkAll(t, c.b, 5, c.l, c.n, c.e)
	}
}

func TestAllMostIsHeld(t *testing.T) { // P3.3, Words
	for _, most := range narrowMosts() {
		checkAll(t, nil, most, nil, 0, api.OK)
		checkAll(t, []byte{0, 0, 0}, most, [][]byte{{}, {}, {}}, 3, api.OK)
		checkAll(t, []byte{0, 1, 7, 0}, most, [][]byte{{}}, 1, api.ErrBig)
	}
	greatest := pattern(api.MaxFrame)
	b := numbered(api.MaxFrame, greatest...)
	whole := append(slices.Clone(b), 1, 7)
	for _, most := range wideMosts() {
		checkAll(t, whole, most, [][]byte{greatest, {7}}, len(whole), api.OK)
		checkAll(t, b[:len(b)-1], most, nil, 0, api.ErrMore)
		checkAll(t, append([]byte{1, 7}, numbered(api.MaxFrame+1, row(api.MaxFrame+1, 0)...)...), most, [][]byte{{7}}, 2, api.ErrBig)
	}
}

func TestAllAtEachCut(t *testing.T) { // P3.3: wherever b ends, the frames that are whole there, and where the last one of them ends
	var b []byte
	var list [][]byte
	ends := []int{0}
	for _, n := range []int{1, 0, 0, 3, 130, 2, 127, 0, 128, 5} {
		b = frame.Put(b, pattern(n))
		list = append(list, pattern(n))
		ends = append(ends, len(b))
	}
	for cut := range len(b) + 1 {
		k := 0
		for k+1 < len(ends) && ends[k+1] <= cut {
			k++
		}
		want := api.ErrMore
		if ends[k] == cut {
			want = api.OK
		}
		checkAll(t, b[:cut], 130, list[:k], ends[k], want)
	}
}

func TestAllIsCopied(t *testing.T) { // P3.3, Ways: the payloads share no memory with b, and none with each other
	b := []byte{2, 'a', 'b', 0, 1, 'c', 0, 128, 0}
	was := slices.Clone(b)
	l, _, _ := frame.All(b, 5)
	again, _, _ := frame.All(b, 5)
	want := [][]byte{[]byte("ab"), {}, []byte("c"), {}}
	for i, x := range l {
		clear(x)
		_ = append(x, 9, 9, 9, 9)
		for k := i + 1; k < len(l); k++ {
			if !bytes.Equal(l[k], want[k]) {
				t.Errorf("what was done with payload %d turned payload %d to %v", i, k, l[k])
			}
		}
	}
	if !bytes.Equal(b, was) {
		t.Errorf("what was done with the payloads turned b to %v", b)
	}
	clear(b)
	if !sameLists(again, want) {
		t.Errorf("what was done with b turned the payloads to %v", again)
	}
}

func TestNothingIsChanged(t *testing.T) { // P3.2, P3.3: b, and what stands behind it, are as they were
	for _, whole := range [][]byte{{1, 97, 0, 2, 98, 99, 7, 7}, {1, 97, 9, 1, 7, 7}, {1, 97, 128, 0, 7, 7}, {3, 1, 7, 7, 7}} {
		was := slices.Clone(whole)
		b := whole[:len(whole)-2]
		frame.Next(b, 5)
		frame.All(b, 5)
		if !bytes.Equal(whole, was) {
			t.Errorf("%v was turned to %v", was, whole)
		}
	}
}

func TestAllIsLong(t *testing.T) { // P3.3: a great many frames are gone through in one go
	const n = 1 << 20
	l, end, e := frame.All(make([]byte, n), 0)
	if len(l) != n || end != n || e != api.OK {
		t.Errorf("All of %d empty frames = %d payloads, %d, %d", n, len(l), end, e)
	}
}

func TestPutIsTold(t *testing.T) { // P3.4
	lists := [][][]byte{
		nil,
		{{}},
		{{}, {}, {}},
		{{0}, {1}, {128}, {255}},
		{{2, 1, 0}, {}, {128, 0}, {1, 1}}, // payloads that look like frames, and like wrong ones
		{pattern(127), pattern(128), {}, pattern(129), pattern(1)},
		{pattern(1 << 14), {}, pattern(1<<14 - 1)},
		{pattern(api.MaxFrame), {1}, pattern(api.MaxFrame), {}, pattern(api.MaxFrame - 1)},
		{frame.Put(nil, frame.Put(nil, []byte("within")))},
	}
	for _, list := range lists {
		var b []byte
		longest := 0
		for _, x := range list {
			b = frame.Put(b, x)
			longest = max(longest, len(x))
		}
		for _, most := range append(wideMosts(), longest, min(longest+1, api.MaxFrame)) {
			checkAll(t, b, most, list, len(b), api.OK)
		}
		if longest == 0 {
			for _, most := range narrowMosts() {
				checkAll(t, b, most, list, len(b), api.OK)
			}
		}
	}
}

func TestPutTooLongStopsThere(t *testing.T) { // P3.4: the one that is longer is not told, those ahead of it are
	for _, most := range []int{0, 1, 127, 128, api.MaxFrame} {
		fits, over := pattern(most), pattern(most+1)
		ahead := frame.Put(frame.Put(nil, fits), nil)
		b := frame.Put(frame.Put(ahead, over), fits)
		checkAll(t, b, most, [][]byte{fits, {}}, len(ahead), api.ErrBig)
	}
}

// told is Next by the chapter's words, one after the other.
func told(b []byte, most int) ([]byte, int, api.Errno) {
	v, n, e := varint.Get(b)
	if e != api.OK {
		return nil, 0, e
	}
	greatest := uint64(0)
	if most > 0 {
		greatest = min(uint64(most), 65536)
	}
	behind := b[n:]
	if v > greatest {
		return nil, 0, api.ErrBig
	}
	if uint64(len(behind)) < v {
		return nil, 0, api.ErrMore
	}
	return behind[:v], n + int(v), api.OK
}

// toldAll is All by the chapter's words.
func toldAll(b []byte, most int) (l [][]byte, n int, e api.Errno) {
	for {
		x, size, e := told(b[n:], most)
		if e != api.OK {
			if n == len(b) {
				e = api.OK
			}
			return l, n, e
		}
		l, n = append(l, x), n+size
	}
}

func TestByTheWords(t *testing.T) { // P3.2, P3.3: all lists of up to six edge bytes, at several mosts
	signs := []byte{0, 1, 2, 4, 128, 255}
	for size := range 7 {
		count := 1
		for range size {
			count *= len(signs)
		}
		for i := range count {
			b := make([]byte, 0, size)
			for k := i; len(b) < size; k /= len(signs) {
				b = append(b, signs[k%len(signs)])
			}
			for _, most := range []int{-1, 0, 1, 3, 4, 128, api.MaxFrame} {
				x, n, e := told(b, most)
				checkNext(t, b, most, x, n, e)
				l, n, e := toldAll(b, most)
				checkAll(t, b, most, l, n, e)
			}
		}
	}
}

func FuzzByTheWords(f *testing.F) { // P3.2, P3.3; and what was told is, put again, those very bytes
	f.Add([]byte{1, 97, 0, 2, 98}, 5)
	f.Add([]byte{1, 97, 128, 0}, api.MaxFrame)
	f.Add(numbered(math.MaxUint64, 1), -1)
	f.Fuzz(func(t *testing.T, b []byte, most int) {
		x, n, e := told(b, most)
		checkNext(t, b, most, x, n, e)
		l, n, e := toldAll(b, most)
		checkAll(t, b, most, l, n, e)
		var again []byte
		for _, x := range l {
			again = frame.Put(again, x)
		}
		if !bytes.Equal(again, b[:n]) {
			t.Errorf("what All told of %v is, put again, %v", b[:n], again)
		}
	})
}
