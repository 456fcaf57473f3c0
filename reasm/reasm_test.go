package reasm_test

import (
	"bytes"
	"encoding/binary"
	"math"
	"runtime"
	"slices"
	"testing"

	"turncock/api"
	"turncock/frame"
	"turncock/reasm"
)

// row is n bytes of x, and the others behind them.
func row(n int, x byte, others ...byte) []byte {
	return append(bytes.Repeat([]byte{x}, n), others...)
}

// pattern is n bytes that differ from their neighbours, so that a payload put together wrongly is seen.
func pattern(n int) []byte {
	b := make([]byte, n)
	for i := range b {
		b[i] = byte(i*7 + i>>8 + 3)
	}
	return b
}

// numbered is a number's bytes by the library, and the others behind them.
func numbered(v uint64, others ...byte) []byte {
	return append(binary.AppendUvarint(nil, v), others...)
}

// wideMosts count as MaxFrame.
func wideMosts() []int {
	return []int{api.MaxFrame, api.MaxFrame + 1, 1 << 20, 1 << 31, 1 << 32, math.MaxInt}
}

// narrowMosts count as 0.
func narrowMosts() []int {
	return []int{0, -1, -2, -api.MaxFrame, -1 << 32, math.MinInt + 1, math.MinInt}
}

func sameLists(a, b [][]byte) bool {
	return slices.EqualFunc(a, b, bytes.Equal)
}

// step is a piece, and what is told of it and behind it.
type step struct {
	b     []byte
	l     [][]byte
	e     api.Errno
	waits int
	off   bool
}

func checkStep(t *testing.T, r *reasm.Reader, s step) {
	t.Helper()
	l, e := r.Feed(s.b)
	if !sameLists(l, s.l) || e != s.e || r.Waiting() != s.waits || r.Off() != s.off {
		t.Errorf("Feed(%.12v of %d bytes) = %d payloads %.12v, %d; %d wait, off %v; want %d payloads %.12v, %d; %d wait, off %v",
			s.b, len(s.b), len(l), l, e, r.Waiting(), r.Off(), len(s.l), s.l, s.e, s.waits, s.off)
	}
}

func checkSteps(t *testing.T, most int, steps ...step) {
	t.Helper()
	r := reasm.New(most)
	for _, s := range steps {
		checkStep(t, r, s)
	}
}

func TestNew(t *testing.T) { // P4.1: it waits for nothing, and is not off, whatever most is
	for _, most := range append(append(wideMosts(), narrowMosts()...), 1, 5, 127, 128) {
		r := reasm.New(most)
		if r == nil {
			t.Fatalf("New(%d) is nil", most)
		}
		if r.Waiting() != 0 || r.Off() {
			t.Errorf("New(%d): %d wait, off %v", most, r.Waiting(), r.Off())
		}
	}
}

func TestFeed(t *testing.T) { // P4.1
	checkSteps(t, 5, // the chapter's example
		step{[]byte{2}, nil, api.OK, 1, false},
		step{[]byte{'a'}, nil, api.OK, 2, false},
		step{[]byte{'b', 1}, [][]byte{[]byte("ab")}, api.OK, 1, false},
	)
	checkSteps(t, 5, // whole frames: nothing waits
		step{[]byte{2, 'a', 'b'}, [][]byte{[]byte("ab")}, api.OK, 0, false},
		step{[]byte{0}, [][]byte{{}}, api.OK, 0, false},
		step{[]byte{0, 1, 9, 0}, [][]byte{{}, {9}, {}}, api.OK, 0, false},
		step{[]byte{5, 1, 2, 3, 4, 5}, [][]byte{{1, 2, 3, 4, 5}}, api.OK, 0, false},
	)
	checkSteps(t, 5, // frames, and the beginning of one; what waited is put ahead of what comes
		step{[]byte{1, 7, 3, 1}, [][]byte{{7}}, api.OK, 2, false},
		step{[]byte{2}, nil, api.OK, 3, false},
		step{[]byte{3, 0, 2, 8}, [][]byte{{1, 2, 3}, {}}, api.OK, 2, false},
		step{[]byte{9, 4}, [][]byte{{8, 9}}, api.OK, 1, false},
		step{[]byte{1, 2, 3, 4}, [][]byte{{1, 2, 3, 4}}, api.OK, 0, false},
	)
}

func TestFeedLacks(t *testing.T) { // P4.1: a number that lacks bytes, and a payload that lacks some, wait
	x := pattern(300)
	checkSteps(t, 300,
		step{[]byte{0xac}, nil, api.OK, 1, false},
		step{[]byte{0x02}, nil, api.OK, 2, false},
		step{x[:299], nil, api.OK, 301, false},
		step{append(slices.Clone(x[299:]), 0xac), [][]byte{x}, api.OK, 1, false},
		step{append([]byte{0x02}, x...), [][]byte{x}, api.OK, 0, false},
	)
	checkSteps(t, 0, // what comes of it will be too long, or none, but it is not whole yet
		step{[]byte{128}, nil, api.OK, 1, false},
		step{row(8, 255), nil, api.OK, 9, false},
		step{[]byte{1}, nil, api.ErrBig, 0, true},
	)
}

func TestFeedOfNothing(t *testing.T) { // P4.1: pieces of no bytes change nothing, wherever they come
	for _, none := range [][]byte{nil, {}, make([]byte, 0, 9), []byte{1, 2, 3}[:0]} {
		checkSteps(t, 5,
			step{none, nil, api.OK, 0, false},
			step{[]byte{128}, nil, api.OK, 1, false},
			step{none, nil, api.OK, 1, false},
			step{none, nil, api.OK, 1, false},
			step{[]byte{0}, nil, api.ErrBytes, 0, true},
			step{none, nil, api.ErrOff, 0, true},
		)
		checkSteps(t, 5,
			step{[]byte{2, 'a'}, nil, api.OK, 2, false},
			step{none, nil, api.OK, 2, false},
			step{[]byte{'b'}, [][]byte{[]byte("ab")}, api.OK, 0, false},
			step{none, nil, api.OK, 0, false},
			step{[]byte{0}, [][]byte{{}}, api.OK, 0, false},
		)
	}
}

func TestFeedWrong(t *testing.T) { // P4.1: the payloads beside the error; nothing waits; off from then on
	cases := []struct {
		bad []byte
		e   api.Errno
	}{
		{[]byte{6}, api.ErrBig},
		{[]byte{6, 1, 2, 3, 4, 5, 6}, api.ErrBig},
		{[]byte{128, 1}, api.ErrBig},
		{numbered(math.MaxUint64), api.ErrBig},
		{numbered(1<<63, 1, 2, 3), api.ErrBig},
		{[]byte{128, 0}, api.ErrBytes},
		{[]byte{130, 128, 0}, api.ErrBytes},
		{row(9, 255, 2), api.ErrBytes},
		{row(10, 255), api.ErrBytes},
	}
	aheads := []step{
		{b: nil},
		{b: []byte{0}, l: [][]byte{{}}},
		{b: []byte{1, 7, 0, 2, 'a', 'b'}, l: [][]byte{{7}, {}, []byte("ab")}},
	}
	for _, c := range cases {
		for _, ahead := range aheads {
			for _, rest := range [][]byte{nil, {0}, {1, 9, 6}, {128, 0}, {3, 1}} {
				piece := slices.Concat(ahead.b, c.bad, rest)
				checkSteps(t, 5,
					step{piece, ahead.l, c.e, 0, true},
					step{[]byte{0}, nil, api.ErrOff, 0, true},
					step{nil, nil, api.ErrOff, 0, true},
					step{[]byte{6}, nil, api.ErrOff, 0, true},
					step{[]byte{128, 0}, nil, api.ErrOff, 0, true},
					step{[]byte{3, 1}, nil, api.ErrOff, 0, true},
					step{piece, nil, api.ErrOff, 0, true},
				)
			}
		}
	}
}

func TestFeedWrongBehindWhatWaits(t *testing.T) { // P4.1: what waited is told, if it is whole now, and gone, if it is not
	checkSteps(t, 5,
		step{[]byte{1}, nil, api.OK, 1, false},
		step{[]byte{7, 6, 1}, [][]byte{{7}}, api.ErrBig, 0, true},
		step{[]byte{0}, nil, api.ErrOff, 0, true},
	)
	checkSteps(t, 5,
		step{[]byte{0, 2, 'a'}, [][]byte{{}}, api.OK, 2, false},
		step{[]byte{'b', 0, 128, 0, 0}, [][]byte{[]byte("ab"), {}}, api.ErrBytes, 0, true},
		step{[]byte{0}, nil, api.ErrOff, 0, true},
	)
	checkSteps(t, 5,
		step{row(9, 128), nil, api.OK, 9, false},
		step{[]byte{2}, nil, api.ErrBytes, 0, true},
		step{nil, nil, api.ErrOff, 0, true},
	)
}

func TestMostIsHeld(t *testing.T) { // P4.1: below 0 it counts as 0, above MaxFrame as MaxFrame
	for _, most := range narrowMosts() {
		checkSteps(t, most,
			step{[]byte{0, 0}, [][]byte{{}, {}}, api.OK, 0, false},
			step{[]byte{0, 1, 0}, [][]byte{{}}, api.ErrBig, 0, true},
			step{[]byte{0}, nil, api.ErrOff, 0, true},
		)
	}
	greatest := pattern(api.MaxFrame)
	b := numbered(api.MaxFrame, greatest...)
	over := numbered(api.MaxFrame + 1)
	for _, most := range wideMosts() {
		checkSteps(t, most,
			step{b, [][]byte{greatest}, api.OK, 0, false},
			step{b[:len(b)-1], nil, api.OK, len(b) - 1, false},
			step{slices.Concat(b[len(b)-1:], b, over[:2]), [][]byte{greatest, greatest}, api.OK, 2, false},
			step{over[2:], nil, api.ErrBig, 0, true},
		)
	}
}

func TestAtMost(t *testing.T) { // P4.1: a payload of most bytes, and a number of one more, at the lengths where numbers turn
	for _, most := range []int{0, 1, 2, 127, 128, 1<<14 - 1, 1 << 14, api.MaxFrame - 1, api.MaxFrame} {
		x := pattern(most)
		b := numbered(uint64(most), x...)
		over := numbered(uint64(most + 1))
		checkSteps(t, most,
			step{b, [][]byte{x}, api.OK, 0, false},
			step{append(slices.Clone(b), over...), [][]byte{x}, api.ErrBig, 0, true},
		)
		checkSteps(t, most,
			step{over[:len(over)-1], nil, api.OK, len(over) - 1, false},
			step{over[len(over)-1:], nil, api.ErrBig, 0, true},
		)
	}
}

func TestNilReader(t *testing.T) { // P4.1: ErrOff, 0, true, however often it is asked
	var r *reasm.Reader
	for _, b := range [][]byte{nil, {}, {0}, {1, 7}, {6}, {128, 0}, {3, 1}} {
		if r.Waiting() != 0 || !r.Off() {
			t.Errorf("nil: %d wait, off %v", r.Waiting(), r.Off())
		}
		checkStep(t, r, step{b, nil, api.ErrOff, 0, true})
	}
}

func TestAskingChangesNothing(t *testing.T) { // P4.1: Waiting and Off, asked over and over
	r := reasm.New(5)
	r.Feed([]byte{0, 2, 'a'})
	for range 3 {
		if r.Waiting() != 2 || r.Off() {
			t.Errorf("%d wait, off %v", r.Waiting(), r.Off())
		}
	}
	checkStep(t, r, step{[]byte{'b'}, [][]byte{[]byte("ab")}, api.OK, 0, false})
}

func TestPiecesAreNotKept(t *testing.T) { // P4.1, rule 3: a piece that its owner changes behind the call, with a frame ahead of what waits, and with none
	for _, ahead := range [][]byte{nil, {0}, {1, 8}} {
		r := reasm.New(5)
		b := append(slices.Clone(ahead), 3, 1)
		r.Feed(b)
		clear(b)
		one := b[:1]
		one[0] = 2
		r.Feed(one)
		one[0] = 9
		checkStep(t, r, step{[]byte{3}, [][]byte{{1, 2, 3}}, api.OK, 0, false})
	}
}

func TestRoomIsNotTaken(t *testing.T) { // P4.1, rule 3: what waits does not grow into the spare room of the piece it came in
	for _, ahead := range [][]byte{nil, {0}} {
		whole := append(slices.Clone(ahead), 3, 1, 77, 77, 77, 77)
		was := slices.Clone(whole)
		r := reasm.New(5)
		r.Feed(whole[:len(ahead)+2])
		r.Feed([]byte{2})
		if !bytes.Equal(whole, was) {
			t.Errorf("%v was turned to %v", was, whole)
		}
		clear(whole)
		checkStep(t, r, step{[]byte{3}, [][]byte{{1, 2, 3}}, api.OK, 0, false})
	}
}

func TestPiecesAreNotChanged(t *testing.T) { // P4.1, rule 3: neither the pieces nor their spare room
	for _, stream := range [][]byte{{1, 97, 0, 2, 98, 99, 3, 1}, {1, 97, 9, 1, 0, 0, 0, 0}, {1, 97, 128, 0, 7, 7, 7, 7}} {
		for cut := range len(stream) + 1 {
			whole := append(slices.Clone(stream), 77, 77, 77, 77)
			was := slices.Clone(whole)
			r := reasm.New(5)
			r.Feed(whole[:cut])
			r.Feed(whole[cut:len(stream)])
			r.Feed(nil)
			if !bytes.Equal(whole, was) {
				t.Errorf("cut at %d, %v was turned to %v", cut, was, whole)
			}
		}
	}
}

func TestPayloadsAreNew(t *testing.T) { // P4.1, rule 3: payloads that their owner changes turn neither the reader, nor the piece, nor each other
	for _, end := range [][]byte{{4, 1, 2}, {6, 1}, {128, 0}} {
		b := append([]byte{2, 'a', 'b', 0, 1, 'c', 0}, end...)
		was := slices.Clone(b)
		want := [][]byte{[]byte("ab"), {}, []byte("c"), {}}
		r := reasm.New(5)
		l, _ := r.Feed(b)
		if !sameLists(l, want) {
			t.Fatalf("Feed(%v) = %v", b, l)
		}
		for i, x := range l {
			clear(x)
			_ = append(x, 9, 9, 9, 9)
			if !sameLists(l[i+1:], want[i+1:]) {
				t.Errorf("what was done with payload %d turned those behind it to %v", i, l[i+1:])
			}
		}
		clear(append(l, []byte{9})[:len(l)])
		if !bytes.Equal(b, was) {
			t.Errorf("what was done with the payloads turned the piece to %v", b)
		}
		if end[0] == 4 {
			checkStep(t, r, step{[]byte{3, 4, 1}, [][]byte{{1, 2, 3, 4}}, api.OK, 1, false})
		}
	}
}

func TestPayloadsOutliveTheReader(t *testing.T) { // P4.1, rule 3: what later pieces bring does not turn what was told
	r := reasm.New(5)
	var told [][]byte
	stream := []byte{2, 'a', 'b', 0, 5, 1, 2, 3, 4, 5, 1, 'c', 3, 7, 8, 9, 2, 'd', 'e', 6}
	for i := range stream {
		l, _ := r.Feed(stream[i : i+1])
		told = append(told, l...)
	}
	want := [][]byte{[]byte("ab"), {}, {1, 2, 3, 4, 5}, []byte("c"), {7, 8, 9}, []byte("de")}
	if !sameLists(told, want) {
		t.Errorf("byte by byte %v, want %v", told, want)
	}
}

func TestReadersHaveNothingInCommon(t *testing.T) { // P4.1, rule 7: nor have their mosts
	a, b := reasm.New(5), reasm.New(2)
	checkStep(t, a, step{[]byte{3, 1}, nil, api.OK, 2, false})
	checkStep(t, b, step{[]byte{2, 8}, nil, api.OK, 2, false})
	checkStep(t, a, step{[]byte{2, 3, 1}, [][]byte{{1, 2, 3}}, api.OK, 1, false})
	checkStep(t, b, step{[]byte{9, 3}, [][]byte{{8, 9}}, api.ErrBig, 0, true})
	checkStep(t, a, step{[]byte{4}, [][]byte{{4}}, api.OK, 0, false})
	checkStep(t, b, step{[]byte{0}, nil, api.ErrOff, 0, true})
	checkStep(t, reasm.New(5), step{[]byte{0}, [][]byte{{}}, api.OK, 0, false})
}

func TestFramesAreNotKept(t *testing.T) { // P4.1: of a great piece the byte that waits alone stays in memory
	const size = 1 << 26
	heap := func() uint64 {
		var m runtime.MemStats
		runtime.GC()
		runtime.ReadMemStats(&m)
		return m.HeapAlloc
	}
	r := reasm.New(api.MaxFrame)
	before := heap()
	r.Feed(append(bytes.Repeat(numbered(1<<14, row(1<<14, 5)...), size>>14), 1))
	if after := heap(); after > before+size/4 {
		t.Errorf("behind a piece of %d bytes, of which %d wait, %d bytes are kept", size, r.Waiting(), after-before)
	}
	checkStep(t, r, step{[]byte{9}, [][]byte{{9}}, api.OK, 0, false})
}

// streams are bytes of several frames, ended as a stream may end: at a frame's end, within one, at one that is too long or is none.
func streams() [][]byte {
	var fine []byte
	for _, n := range []int{1, 0, 0, 3, 130, 2, 127, 0, 128, 5} {
		fine = frame.Put(fine, pattern(n))
	}
	list := [][]byte{nil, fine, append(slices.Clone(fine), 128), append(slices.Clone(fine), 4, 1, 2)}
	for _, bad := range [][]byte{{131, 1}, {131, 1, 1, 2, 3, 0, 0}, {128, 0}, {128, 0, 1, 1}, row(9, 255, 2), row(12, 255), numbered(math.MaxUint64, 0)} {
		list = append(list, bad, slices.Concat(fine, bad), slices.Concat(fine, bad, fine))
	}
	return list
}

// gather feeds the pieces to a new reader, holds it to an error at most once, and nothing told behind it.
func gather(t *testing.T, most int, pieces [][]byte) (told [][]byte, e api.Errno, waits int) {
	t.Helper()
	r := reasm.New(most)
	for _, b := range pieces {
		l, now := r.Feed(b)
		told = append(told, l...)
		if e != api.OK && (len(l) > 0 || now != api.ErrOff) {
			t.Fatalf("of %v, behind error %d: %v, %d", pieces, e, l, now)
		}
		if e == api.OK {
			e = now
		}
		if r.Off() != (e != api.OK) {
			t.Fatalf("of %v: error %d, off %v", pieces, e, r.Off())
		}
	}
	return told, e, r.Waiting()
}

// checkPieces holds what comes of the pieces to what All tells of them in one.
func checkPieces(t *testing.T, most int, pieces [][]byte) {
	t.Helper()
	whole := slices.Concat(pieces...)
	want, n, wantE := frame.All(whole, most)
	wantWaits := len(whole) - n
	switch wantE {
	case api.ErrMore:
		wantE = api.OK
	case api.ErrBytes, api.ErrBig:
		wantWaits = 0
	}
	told, e, waits := gather(t, most, pieces)
	if !sameLists(told, want) || e != wantE || waits != wantWaits {
		t.Fatalf("of %v, most %d: %v, %d, %d wait; want %v, %d, %d wait", pieces, most, told, e, waits, want, wantE, wantWaits)
	}
}

func TestPieces(t *testing.T) { // P4.2: all at once, cut at each place, at each two, in pieces of one length, of none between
	for _, b := range streams() {
		checkPieces(t, 130, [][]byte{b})
		for i := range len(b) + 1 {
			checkPieces(t, 130, [][]byte{b[:i], b[i:]})
			for k := i; k <= len(b); k += 11 {
				checkPieces(t, 130, [][]byte{b[:i], b[i:k], b[k:]})
			}
		}
		for size := 1; size < 140; size++ {
			pieces := slices.Collect(slices.Chunk(b, size))
			checkPieces(t, 130, pieces)
			var spaced [][]byte
			for _, p := range pieces {
				spaced = append(spaced, nil, p, []byte{})
			}
			checkPieces(t, 130, spaced)
		}
	}
}

func TestByTheWords(t *testing.T) { // P4.1, P4.2: all lists of up to six edge bytes, in all pieces, at several mosts
	signs := []byte{0, 1, 2, 128, 255}
	for size := range 7 {
		count := 1
		for range size {
			count *= len(signs)
		}
		for i := range count {
			b := make([]byte, 0, size)
			for k := i; len(b) < size; k /= len(signs) {
				b = append(b, signs[k%len(signs)])
			}
			for cuts := range 1 << max(size-1, 0) {
				for _, most := range []int{-1, 1, 2, api.MaxFrame} {
					checkPieces(t, most, cutUp(b, cuts))
				}
			}
		}
	}
}

// cutUp cuts b behind each of its bytes whose bit in cuts is 1; bits stand for places over and over, if b is longer.
func cutUp(b []byte, cuts int) (pieces [][]byte) {
	from := 0
	for i := range b {
		if cuts>>(i%62)&1 == 1 {
			pieces = append(pieces, b[from:i+1])
			from = i + 1
		}
	}
	return append(pieces, b[from:])
}

func TestLongByteByByte(t *testing.T) { // P4.2: frames of the greatest length, a byte a piece
	x := pattern(api.MaxFrame)
	b := frame.Put(frame.Put(frame.Put(nil, x), nil), x)
	told, e, waits := gather(t, api.MaxFrame, slices.Collect(slices.Chunk(append(b, 1), 1)))
	if !sameLists(told, [][]byte{x, {}, x}) || e != api.OK || waits != 1 {
		t.Errorf("%d payloads, %d, %d wait", len(told), e, waits)
	}
}

func FuzzPieces(f *testing.F) { // P4.1, P4.2
	f.Add([]byte{1, 97, 0, 2, 98}, 5, 5)
	f.Add([]byte{1, 97, 128, 0, 0}, api.MaxFrame, 12)
	f.Add(numbered(math.MaxUint64, 1), -1, math.MaxInt)
	f.Fuzz(func(t *testing.T, b []byte, most, cuts int) {
		checkPieces(t, most, cutUp(b, cuts))
	})
}
