package num_test

import (
	"math"
	"math/big"
	"strings"
	"testing"

	"turncock/api"
	"turncock/num"
)

// edges are the numbers at which something could turn: around 0, around MaxTime and its root, at the ends of an int.
func edges() []int {
	list := []int{math.MinInt, math.MinInt + 1, math.MaxInt, math.MaxInt - 1, -api.MaxTime, -api.MaxTime - 1}
	for _, middle := range []int{0, 10, 1 << 31, 1 << 32, 3037000500, api.MaxTime / 10, api.MaxTime / 3, 1 << 61, api.MaxTime} {
		for by := -3; by <= 3; by++ {
			list = append(list, middle+by)
		}
	}
	return list
}

// held is Hold by numbers that have no end.
func held(a *big.Int) *big.Int {
	top := big.NewInt(api.MaxTime)
	if a.Sign() < 0 {
		return big.NewInt(0)
	}
	if a.Cmp(top) > 0 {
		return top
	}
	return new(big.Int).Set(a)
}

func heldInt(a int) *big.Int { return held(big.NewInt(int64(a))) }

func TestHold(t *testing.T) { // P1.1
	cases := []struct{ a, want int }{
		{0, 0}, {1, 1}, {-1, 0}, {math.MinInt, 0}, {12345, 12345},
		{api.MaxTime - 1, api.MaxTime - 1}, {api.MaxTime, api.MaxTime}, {api.MaxTime + 1, api.MaxTime}, {math.MaxInt, api.MaxTime},
	}
	for _, c := range cases {
		if got := num.Hold(c.a); got != c.want {
			t.Errorf("Hold(%d) = %d, want %d", c.a, got, c.want)
		}
	}
}

func TestTwoNumbers(t *testing.T) { // P1.1
	cases := []struct {
		name string
		call func(a, b int) int
		a, b int
		want int
	}{
		{"Add", num.Add, 2, 3, 5},
		{"Add", num.Add, 0, 0, 0},
		{"Add", num.Add, -3, 5, 5},
		{"Add", num.Add, 5, -3, 5},
		{"Add", num.Add, -3, -5, 0},
		{"Add", num.Add, api.MaxTime, 0, api.MaxTime},
		{"Add", num.Add, api.MaxTime, 1, api.MaxTime},
		{"Add", num.Add, api.MaxTime - 1, 1, api.MaxTime},
		{"Add", num.Add, api.MaxTime - 2, 1, api.MaxTime - 1},
		{"Add", num.Add, api.MaxTime, api.MaxTime, api.MaxTime},
		{"Add", num.Add, math.MaxInt, math.MinInt, api.MaxTime},
		{"Sub", num.Sub, 5, 3, 2},
		{"Sub", num.Sub, 3, 5, 0},
		{"Sub", num.Sub, 5, 5, 0},
		{"Sub", num.Sub, 5, -9, 5},
		{"Sub", num.Sub, -9, 5, 0},
		{"Sub", num.Sub, -5, -9, 0},
		{"Sub", num.Sub, math.MaxInt, 4, api.MaxTime - 4},
		{"Sub", num.Sub, math.MaxInt, math.MinInt, api.MaxTime},
		{"Sub", num.Sub, math.MaxInt, math.MaxInt - 1, 0},
		{"Mul", num.Mul, 6, 7, 42},
		{"Mul", num.Mul, 0, api.MaxTime, 0},
		{"Mul", num.Mul, api.MaxTime, 0, 0},
		{"Mul", num.Mul, -1, -5, 0},
		{"Mul", num.Mul, -1, math.MinInt, 0},
		{"Mul", num.Mul, 1, api.MaxTime, api.MaxTime},
		{"Mul", num.Mul, 1, api.MaxTime - 1, api.MaxTime - 1},
		{"Mul", num.Mul, 1 << 31, 1 << 31, api.MaxTime},
		{"Mul", num.Mul, 1<<31 - 1, 1<<31 + 1, api.MaxTime - 1},
		{"Mul", num.Mul, 1<<31 + 1, 1 << 31, api.MaxTime},
		{"Mul", num.Mul, 1 << 32, 1 << 32, api.MaxTime},
		{"Mul", num.Mul, 4, 1 << 61, api.MaxTime},
		{"Mul", num.Mul, api.MaxTime, api.MaxTime, api.MaxTime},
	}
	for _, c := range cases {
		if got := c.call(c.a, c.b); got != c.want {
			t.Errorf("%s(%d, %d) = %d, want %d", c.name, c.a, c.b, got, c.want)
		}
	}
}

func TestDiv(t *testing.T) { // P1.1
	cases := []struct {
		a, b, want int
		code       api.Errno
	}{
		{7, 2, 3, api.OK},
		{6, 2, 3, api.OK},
		{1, 2, 0, api.OK},
		{0, 5, 0, api.OK},
		{-7, 2, 0, api.OK},
		{7, 0, 0, api.ErrArg},
		{0, 0, 0, api.ErrArg},
		{7, -1, 0, api.ErrArg},
		{7, math.MinInt, 0, api.ErrArg},
		{math.MinInt, -1, 0, api.ErrArg},
		{math.MaxInt, 1, api.MaxTime, api.OK},
		{math.MaxInt, math.MaxInt, 1, api.OK},
		{api.MaxTime, math.MaxInt, 1, api.OK},
		{api.MaxTime - 1, api.MaxTime, 0, api.OK},
	}
	for _, c := range cases {
		got, code := num.Div(c.a, c.b)
		if got != c.want || code != c.code {
			t.Errorf("Div(%d, %d) = %d, %d, want %d, %d", c.a, c.b, got, code, c.want, c.code)
		}
	}
}

func TestDigits(t *testing.T) { // P1.2
	cases := []struct {
		a    int
		want string
	}{
		{0, "0"}, {-4, "0"}, {math.MinInt, "0"}, {7, "7"}, {10, "10"}, {1203, "1203"},
		{api.MaxTime - 1, "4611686018427387903"}, {api.MaxTime, "4611686018427387904"},
		{api.MaxTime + 1, "4611686018427387904"}, {math.MaxInt, "4611686018427387904"},
	}
	for _, c := range cases {
		if got := num.Digits(c.a); got != c.want {
			t.Errorf("Digits(%d) = %q, want %q", c.a, got, c.want)
		}
	}
}

func TestParse(t *testing.T) { // P1.2
	cases := []struct {
		s    string
		want int
	}{
		{"0", 0}, {"1", 1}, {"9", 9}, {"10", 10}, {"100", 100}, {"1203", 1203},
		{"4611686018427387899", api.MaxTime - 5}, {"4611686018427387903", api.MaxTime - 1}, {"4611686018427387904", api.MaxTime},
	}
	for _, c := range cases {
		if got, ok := num.Parse(c.s); got != c.want || !ok {
			t.Errorf("Parse(%q) = %d, %v, want %d, true", c.s, got, ok, c.want)
		}
	}
}

func TestParseNone(t *testing.T) { // P1.2, P1.3
	cases := []string{
		"", "00", "007", "01", "0000", "-0", "-1", "+1", "1 ", " 1", "1\n", "1_0", "1.0", "1e3", "0x1", "a", "1a", "a1", "/", ":", "1/", "1:", "\x00", "1\x00",
		"4611686018427387905", "4611686018427387910", "4611686018427387914", "5000000000000000000",
		"9223372036854775807", "9223372036854775808", "18446744073709551616", "18446744073709551617", "46116860184273879040",
		"\xff", "1\xff", "\xef\xbc\x91", "1\u0661", "\u01301", // signs that are no bytes 0 to 9, though their low bits, or their sense, are
		strings.Repeat("9", 10000), "0" + strings.Repeat("0", 10000), "1" + strings.Repeat("0", 64),
	}
	for _, s := range cases {
		if got, ok := num.Parse(s); got != 0 || ok {
			t.Errorf("Parse(%.40q) = %d, %v, want 0, false", s, got, ok)
		}
	}
}

func TestParseTellsWhatDigitsSays(t *testing.T) { // P1.2
	for _, a := range edges() {
		got, ok := num.Parse(num.Digits(a))
		if got != num.Hold(a) || !ok {
			t.Errorf("Parse(Digits(%d)) = %d, %v, want %d, true", a, got, ok, num.Hold(a))
		}
	}
}

func TestParseOfOneAndTwoBytes(t *testing.T) { // P1.2: of all short texts just those that Digits says
	said := map[string]int{}
	for a := range 100 {
		said[num.Digits(a)] = a
	}
	for i := range 256 * 257 {
		s := string([]byte{byte(i)})
		if i >= 256 {
			s = string([]byte{byte(i/256 - 1), byte(i)})
		}
		want, is := said[s]
		if got, ok := num.Parse(s); got != want || ok != is {
			t.Errorf("Parse(%q) = %d, %v, want %d, %v", s, got, ok, want, is)
		}
	}
}

func TestNothingRunsOver(t *testing.T) { // P1.3, P1.1
	for _, a := range edges() {
		if got := big.NewInt(int64(num.Hold(a))); got.Cmp(heldInt(a)) != 0 {
			t.Errorf("Hold(%d) = %v, want %v", a, got, heldInt(a))
		}
		if got := num.Digits(a); got != heldInt(a).String() {
			t.Errorf("Digits(%d) = %v, want %v", a, got, heldInt(a))
		}
		for _, b := range edges() {
			checkPair(t, a, b)
		}
	}
}

// checkPair holds every call of two numbers against the same one by numbers that have no end.
func checkPair(t *testing.T, a, b int) {
	t.Helper()
	x, y := heldInt(a), heldInt(b)
	check := func(name string, got int, want *big.Int) {
		t.Helper()
		if big.NewInt(int64(got)).Cmp(want) != 0 {
			t.Errorf("%s(%d, %d) = %d, want %v", name, a, b, got, want)
		}
	}
	check("Add", num.Add(a, b), held(new(big.Int).Add(x, y)))
	check("Sub", num.Sub(a, b), held(new(big.Int).Sub(x, y)))
	check("Mul", num.Mul(a, b), held(new(big.Int).Mul(x, y)))
	got, code := num.Div(a, b)
	if y.Sign() == 0 {
		check("Div", got, big.NewInt(0))
		if code != api.ErrArg {
			t.Errorf("Div(%d, %d) tells %d, want ErrArg", a, b, code)
		}
		return
	}
	check("Div", got, new(big.Int).Quo(x, y))
	if code != api.OK {
		t.Errorf("Div(%d, %d) tells %d, want OK", a, b, code)
	}
}
