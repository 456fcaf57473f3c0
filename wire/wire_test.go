package wire_test

import (
	"bytes"
	"encoding/binary"
	"errors"
	"math"
	"strings"
	"testing"

	"turncock/api"
	"turncock/wire"
)

// gaveUp says whether read gives up on b, and holds that b stays as it is.
func gaveUp(t *testing.T, b []byte, read func(r *wire.Reader)) (gave bool) {
	t.Helper()
	kept := bytes.Clone(b)
	defer func() {
		gave = wire.GaveUp(recover())
		if !bytes.Equal(b, kept) {
			t.Errorf("reading % x made it % x", kept, b)
		}
	}()
	read(wire.NewReader(b))
	return
}

func TestPut(t *testing.T) {
	for _, n := range []int{0, 1, 127, 128, 300, 16383, 16384, api.MaxID, api.MaxNum, api.MaxTime, math.MaxInt} {
		want := binary.AppendUvarint([]byte("x"), uint64(n))
		if got := wire.PutNumber([]byte("x"), n); !bytes.Equal(got, want) {
			t.Errorf("PutNumber of %d = % x, want % x", n, got, want)
		}
	}
	for _, n := range []int{0, 1, 127, 128, 300, api.MaxReport} {
		s := strings.Repeat("é", n)
		want := append(binary.AppendUvarint([]byte("x"), uint64(2*n)), s...)
		if got := wire.PutText([]byte("x"), s); !bytes.Equal(got, want) {
			t.Errorf("PutText of %d bytes has %d, want %d", len(s), len(got), len(want))
		}
	}
}

func TestWhatWasPutIsTaken(t *testing.T) {
	b := []byte{9}
	b = wire.PutNumber(b, math.MaxInt)
	b = wire.PutText(b, "\x00a\xff")
	b = wire.PutText(b, "")
	b = wire.PutNumber(b, 0)
	gave := gaveUp(t, b, func(r *wire.Reader) {
		r.First(9)
		if n := r.Number(math.MaxInt); n != math.MaxInt {
			t.Errorf("got %d", n)
		}
		if s := r.Text(3); s != "\x00a\xff" {
			t.Errorf("got %q", s)
		}
		if s := r.Text(0); s != "" {
			t.Errorf("got %q", s)
		}
		if n := r.Number(0); n != 0 {
			t.Errorf("got %d", n)
		}
		r.End()
	})
	if gave {
		t.Error("gave up on what was put")
	}
}

func TestGivesUp(t *testing.T) {
	number := func(most int) func(r *wire.Reader) { return func(r *wire.Reader) { r.Number(most) } }
	text := func(most int) func(r *wire.Reader) { return func(r *wire.Reader) { r.Text(most) } }
	first := func(r *wire.Reader) { r.First(3) }
	end := func(r *wire.Reader) { r.End() }
	huge := binary.AppendUvarint(nil, math.MaxUint64)
	for _, x := range []struct {
		what string
		b    []byte
		read func(r *wire.Reader)
		want bool
	}{
		{"the byte", []byte{3}, first, false},
		{"no byte", nil, first, true},
		{"another byte", []byte{4, 3}, first, true},
		{"no number", nil, number(math.MaxInt), true},
		{"a number that lacks bytes", []byte{128}, number(math.MaxInt), true},
		{"a number that is too long", []byte{128, 0}, number(math.MaxInt), true},
		{"the most", []byte{7}, number(7), false},
		{"one more", []byte{8}, number(7), true},
		{"more than an int", huge, number(math.MaxInt), true},
		{"the least that is no int", binary.AppendUvarint(nil, 1<<63), number(math.MaxInt), true},
		{"the greatest int", binary.AppendUvarint(nil, 1<<63-1), number(math.MaxInt), false},
		{"no text", nil, text(5), true},
		{"an empty text", []byte{0}, text(0), false},
		{"a text of the most", []byte{2, 'a', 'b'}, text(2), false},
		{"a text of one more", []byte{2, 'a', 'b'}, text(1), true},
		{"a text that lacks a byte", []byte{2, 'a'}, text(2), true},
		{"a text longer than an int", append(huge, 'a'), text(math.MaxInt), true},
		{"the end", nil, end, false},
		{"something behind the end", []byte{0}, end, true},
		{"a must that holds", nil, func(r *wire.Reader) { r.Must(true) }, false},
		{"a must that does not", nil, func(r *wire.Reader) { r.Must(false) }, true},
	} {
		if got := gaveUp(t, x.b, x.read); got != x.want {
			t.Errorf("%s: gave up %v, want %v", x.what, got, x.want)
		}
	}
}

// TestSpareRoomIsNotRead: what stands behind the end of a list that was cut short is no part of it.
func TestSpareRoomIsNotRead(t *testing.T) {
	room := []byte{2, 'a', 'b', 'c'}
	for n := range 3 {
		if !gaveUp(t, room[:n], func(r *wire.Reader) { r.Text(3) }) {
			t.Errorf("read beyond %d bytes", n)
		}
	}
}

func TestTextIsACopy(t *testing.T) {
	b := []byte{2, 'a', 'b'}
	gaveUp(t, b, func(r *wire.Reader) {
		s := r.Text(2)
		b[1] = 'x'
		if s != "ab" {
			t.Errorf("the text became %q", s)
		}
		b[1] = 'a'
	})
}

func TestOtherPanicsGoOn(t *testing.T) {
	if wire.GaveUp(nil) {
		t.Error("gave up without a panic")
	}
	wrong := errors.New("wrong")
	for _, why := range []any{wrong, "give up", 0, struct{}{}} {
		func() {
			defer func() {
				if got := recover(); got != why {
					t.Errorf("went on as %v, want %v", got, why)
				}
			}()
			wire.GaveUp(why)
			t.Errorf("%v was taken", why)
		}()
	}
}
