package ratio_test

import (
	"math"
	"math/big"
	"math/rand"
	"regexp"
	"slices"
	"strconv"
	"strings"
	"testing"

	"turncock/api"
	"turncock/ratio"
)

var negZero = math.Copysign(0, -1)

// nans are NaNs of unlike bits: both signs, quiet and not.
func nans() []float64 {
	var list []float64
	for _, bits := range []uint64{0x7ff8000000000001, 0x7ff8000000000000, 0xfff8000000000000, 0x7ff0000000000001, 0xfff0000000000001, 0x7fffffffffffffff, 0xffffffffffffffff} {
		list = append(list, math.Float64frombits(bits))
	}
	return list
}

// sizes are the floats from +0 to +Inf, rising, at which something could turn, each with the ones beside it.
func sizes() []float64 {
	list := []float64{0, math.SmallestNonzeroFloat64, 0x1p-1022, 0x1p-52, math.MaxFloat64, math.Inf(1)}
	for _, middle := range []float64{1e-300, 1e-7, 1e-6, 0.001, 0.01, 0.05, 0.1, 0.29, 1.0 / 3, 0.5, 0.8, 0.999, 1, 1.1, 1.5, 2, 2.3, 2.9996, 3, 4.35, 10, 999.999, 1e6, 123456789.123456, 1e9 - 1, 999999999.999999, 1e9, 1 << 31, api.MaxNum, 1 << 32, 1e15, 1 << 52, 1 << 53, 1e16, 1 << 62, 1 << 63, 1 << 64, 2e300} {
		list = append(list, math.Nextafter(middle, 0), middle, math.Nextafter(middle, math.Inf(1)))
	}
	slices.Sort(list)
	return slices.Compact(list)
}

// edges are the sizes with both signs, and the NaNs, in Order's row.
func edges() []float64 {
	var list []float64
	rising := sizes()
	for _, f := range slices.Backward(rising) {
		list = append(list, math.Copysign(f, -1))
	}
	list = append(list, rising...)
	return append(list, nans()...)
}

// alike holds two floats against each other by their bits, and all NaNs for one.
func alike(a, b float64) bool {
	if math.IsNaN(a) || math.IsNaN(b) {
		return math.IsNaN(a) && math.IsNaN(b)
	}
	return math.Float64bits(a) == math.Float64bits(b)
}

func TestOf(t *testing.T) { // P5.1
	cases := []struct {
		n, d int
		want float64
	}{
		{1, 2, 0.5}, {2, 1, 2}, {1, 3, 0x1.5555555555555p-2}, {-1, 3, -0x1.5555555555555p-2}, {1, -4, -0.25}, {-1, -4, 0.25}, {7, 7, 1}, {8, 10, 0.8},
		{0, 0, math.NaN()}, {1, 0, math.Inf(1)}, {-1, 0, math.Inf(-1)}, {math.MaxInt, 0, math.Inf(1)}, {math.MinInt, 0, math.Inf(-1)},
		{0, 1, 0}, {0, 5, 0}, {0, math.MaxInt, 0}, {0, -1, negZero}, {0, math.MinInt, negZero},
		{1 << 53, 1, 0x1p53}, {1<<53 + 1, 1, 0x1p53}, {1<<53 + 2, 1, 0x1p53 + 2}, {1<<53 + 3, 1, 0x1p53 + 4}, {-(1<<53 + 1), 1, -0x1p53}, {-(1<<53 + 3), 1, -0x1p53 - 4},
		{math.MaxInt, 1, 0x1p63}, {math.MinInt, 1, -0x1p63}, {math.MinInt, -1, 0x1p63}, {math.MaxInt, math.MaxInt, 1}, {math.MaxInt, math.MinInt, -1}, {math.MinInt, math.MinInt, 1},
		{1<<53 + 1, 1<<53 + 1, 1}, {1<<53 + 1, 1 << 53, 1}, {1<<53 + 3, 1<<53 + 4, 1}, {1, 1<<53 + 1, 0x1p-53}, {1, math.MinInt, -0x1p-63},
	}
	for _, c := range cases {
		if got := ratio.Of(c.n, c.d); !alike(got, c.want) {
			t.Errorf("Of(%d, %d) = %v, want %v", c.n, c.d, got, c.want)
		}
	}
}

// nearestFloat is an int by numbers of 53 bits, ties to even.
func nearestFloat(n int) *big.Float {
	return new(big.Float).SetPrec(53).SetMode(big.ToNearestEven).SetInt64(int64(n))
}

func TestOfIsOneDivision(t *testing.T) { // P5.1: each side is rounded by itself, the quotient once more
	list := []int{1, 2, 3, 7, 10, 1000, 1<<53 - 1, 1 << 53, 1<<53 + 1, 1<<53 + 3, 1<<54 + 2, 1<<54 + 6, 1<<62 + 1<<8, 1<<62 + 1<<9, 1<<62 + 3<<8, math.MaxInt, math.MaxInt - 511, math.MaxInt - 512, math.MinInt, math.MinInt + 1}
	source := rand.New(rand.NewSource(5))
	for range 200 {
		list = append(list, int(source.Uint64()>>source.Intn(60)))
	}
	for _, n := range slices.Concat(list, []int{0}) {
		for _, d := range list {
			for _, sign := range []int{1, -1} {
				if d == 0 {
					continue
				}
				d := d * sign
				want, _ := new(big.Float).SetPrec(53).SetMode(big.ToNearestEven).Quo(nearestFloat(n), nearestFloat(d)).Float64()
				if got := ratio.Of(n, d); !alike(got, want) {
					t.Fatalf("Of(%d, %d) = %v, want %v", n, d, got, want)
				}
			}
		}
	}
}

// place is where a float stands in Order's row, told by its bits alone.
func place(f float64) uint64 {
	bits := math.Float64bits(f)
	if bits&^(1<<63) > 0x7ff<<52 {
		return math.MaxUint64
	}
	if bits>>63 == 1 {
		return ^bits
	}
	return bits | 1<<63
}

func checkOrder(t *testing.T, a, b float64) {
	t.Helper()
	want := 0
	if place(a) < place(b) {
		want = -1
	} else if place(a) > place(b) {
		want = 1
	}
	if got := ratio.Order(a, b); got != want {
		t.Errorf("Order(%v, %v) = %d, want %d", a, b, got, want)
	}
	if got := ratio.Same(a, b); got != (want == 0) {
		t.Errorf("Same(%v, %v) = %v, want %v", a, b, got, want == 0)
	}
}

func TestOrder(t *testing.T) { // P5.2
	row := []float64{math.Inf(-1), -math.MaxFloat64, -2, -1, -math.SmallestNonzeroFloat64, negZero, 0, math.SmallestNonzeroFloat64, 0x1p-1022, 0.1, 1, math.Nextafter(1, 2), 2, math.MaxFloat64, math.Inf(1), math.NaN()}
	for i, a := range row {
		for j, b := range row {
			want := 0
			if i < j {
				want = -1
			} else if i > j {
				want = 1
			}
			if got := ratio.Order(a, b); got != want {
				t.Errorf("Order(%v, %v) = %d, want %d", a, b, got, want)
			}
			if got := ratio.Same(a, b); got != (i == j) {
				t.Errorf("Same(%v, %v) = %v, want %v", a, b, got, i == j)
			}
		}
	}
}

func TestNaNsAreAsGoodAsEachOther(t *testing.T) { // P5.2
	for _, a := range nans() {
		for _, b := range nans() {
			if ratio.Order(a, b) != 0 || !ratio.Same(a, b) {
				t.Errorf("NaNs of bits %x and %x are not the same", math.Float64bits(a), math.Float64bits(b))
			}
		}
		for _, f := range []float64{math.Inf(-1), -1, negZero, 0, 1, math.MaxFloat64, math.Inf(1)} {
			if ratio.Order(a, f) != 1 || ratio.Order(f, a) != -1 || ratio.Same(a, f) || ratio.Same(f, a) {
				t.Errorf("a NaN of bits %x is not behind %v", math.Float64bits(a), f)
			}
		}
	}
}

func TestOrderIsAnOrder(t *testing.T) { // P5.6, P5.2: of every two one way alone, of every three no ring
	list := edges()
	for i, a := range list {
		for j, b := range list {
			checkOrder(t, a, b)
			if ratio.Order(a, b) != -ratio.Order(b, a) {
				t.Errorf("Order(%v, %v) is not the opposite of what it is the other way", a, b)
			}
			if i <= j && ratio.Order(a, b) > 0 {
				t.Errorf("%v, at %d of the row, is behind %v, at %d", a, i, b, j)
			}
		}
	}
	few := slices.Concat(nans()[:3], []float64{math.Inf(-1), -2, -1, -math.SmallestNonzeroFloat64, negZero, 0, math.SmallestNonzeroFloat64, 1, 2, math.Inf(1)})
	for _, a := range few {
		for _, b := range few {
			for _, c := range few {
				if ratio.Order(a, b) <= 0 && ratio.Order(b, c) <= 0 && ratio.Order(a, c) > 0 {
					t.Errorf("%v, %v, %v are a ring", a, b, c)
				}
			}
		}
	}
}

func TestNear(t *testing.T) { // P5.3
	below, above := math.Nextafter(1, 0), math.Nextafter(1, 2)
	tiny := math.SmallestNonzeroFloat64
	cases := []struct {
		limit int
		r     float64
		want  int
	}{
		{10, 0.8, 8}, {7, 0.5, 3}, {3, 0.999, 2}, {10, 0.05, 0}, {10, 0.1, 1}, {100, 0.25, 25}, {1, 0.5, 0},
		{100, 0.29, 28}, {100, 0.57, 56}, {10, 0.3, 3}, {1000, 0.001, 1}, {3, 1.0 / 3, 1}, {49, 1.0 / 49, 0}, // as the product is rounded, not as its digits say
		{10, math.NaN(), 10}, {10, nans()[2], 10}, {10, math.Inf(1), 10}, {10, 1, 10}, {10, above, 10}, {10, 2, 10}, {10, 1e300, 10},
		{10, 0, 0}, {10, negZero, 0}, {10, -tiny, 0}, {10, -0.5, 0}, {10, -1, 0}, {10, -2, 0}, {10, math.Inf(-1), 0},
		{10, below, 9}, {1, below, 0}, {10, tiny, 0}, {api.MaxNum, tiny, 0},
		{0, 0.5, 0}, {0, 1, 0}, {0, math.NaN(), 0}, {0, math.Inf(1), 0}, {0, below, 0},
		{-1, 0.5, 0}, {-1, 1, 0}, {-5, math.NaN(), 0}, {-5, math.Inf(1), 0}, {-5, math.Inf(-1), 0}, {-5, -1, 0}, {math.MinInt, 1, 0}, {math.MinInt, 0.5, 0},
		{api.MaxNum, 1, 1<<32 - 1}, {api.MaxNum, 0.5, 1<<31 - 1}, {api.MaxNum, below, 1<<32 - 2}, {api.MaxNum - 1, 1, 1<<32 - 2}, {api.MaxNum - 1, 0.5, 1<<31 - 1},
		{api.MaxNum + 1, 1, 1<<32 - 1}, {api.MaxNum + 1, 0.5, 1<<31 - 1}, {api.MaxNum + 1, math.NaN(), 1<<32 - 1}, {api.MaxNum + 1, 0, 0}, {1 << 40, below, 1<<32 - 2}, {math.MaxInt, 1, 1<<32 - 1}, {math.MaxInt, 0.25, 1<<30 - 1},
	}
	for _, c := range cases {
		if got := ratio.Near(c.limit, c.r); got != c.want {
			t.Errorf("Near(%d, %v) = %d, want %d", c.limit, c.r, got, c.want)
		}
	}
}

// nearModel is P5.3 by numbers of 53 bits.
func nearModel(limit int, r float64) int {
	if limit < 0 {
		limit = 0
	}
	if limit > 1<<32-1 {
		limit = 1<<32 - 1
	}
	if math.IsNaN(r) || !(r < 1) {
		return limit
	}
	if !(r > 0) {
		return 0
	}
	product := new(big.Float).SetPrec(53).SetMode(big.ToNearestEven).Mul(nearestFloat(limit), big.NewFloat(r))
	cut, _ := product.Int64()
	return int(cut)
}

func TestNearIsOneProductCut(t *testing.T) { // P5.3
	limits := []int{math.MinInt, -1, 0, 1, 2, 3, 7, 10, 49, 100, 1000, 999999, 1<<31 - 1, 1 << 31, 1<<31 + 1, api.MaxNum - 1, api.MaxNum, api.MaxNum + 1, math.MaxInt}
	for _, limit := range limits {
		for _, r := range edges() {
			if got, want := ratio.Near(limit, r), nearModel(limit, r); got != want {
				t.Errorf("Near(%d, %v) = %d, want %d", limit, r, got, want)
			}
		}
	}
	for limit := range 300 {
		for n := range limit + 2 {
			r := float64(n) / float64(limit)
			if got, want := ratio.Near(limit, r), nearModel(limit, r); got != want {
				t.Errorf("Near(%d, %v) = %d, want %d", limit, r, got, want)
			}
		}
	}
}

func TestText(t *testing.T) { // P5.4
	cases := []struct {
		f    float64
		want string
	}{
		{0.5, "0.500"}, {12, "12.000"}, {1234.5, "1234.500"}, {-1.25, "-1.250"}, {0.0625, "0.062"}, {0.001953125, "0.001"}, {0.0009765625, "0.000"}, {-0.0009765625, "-0.000"},
		{0, "0.000"}, {negZero, "-0.000"}, {math.SmallestNonzeroFloat64, "0.000"}, {-math.SmallestNonzeroFloat64, "-0.000"},
		{math.NaN(), "nan"}, {nans()[2], "nan"}, {nans()[4], "nan"}, {math.Inf(1), "inf"}, {math.Inf(-1), "-inf"},
		{1 << 53, "big"}, {-(1 << 53), "-big"}, {1<<53 + 2, "big"}, {-2e300, "-big"}, {math.MaxFloat64, "big"}, {-math.MaxFloat64, "-big"}, {1 << 63, "big"}, {1 << 64, "big"},
		{1<<53 - 1, "9007199254740991.000"}, {-(1<<53 - 1), "-9007199254740991.000"}, {1<<52 - 0.5, "4503599627370495.500"}, {1<<52 + 1, "4503599627370497.000"},
		// what is left just below the next whole number
		{math.Nextafter(1, 0), "0.999"}, {math.Nextafter(2, 0), "1.999"}, {math.Nextafter(1000, 0), "999.999"}, {math.Nextafter(-1, 0), "-0.999"}, {2.9996, "2.999"}, {1.9999999, "1.999"},
		// what is left at a whole thousandth, and just below it: the product alone says which
		{0.001, "0.001"}, {math.Nextafter(0.001, 0), "0.000"}, {0.29, "0.290"}, {0.57, "0.570"}, {math.Nextafter(0.29, 0), "0.289"}, {0.25, "0.250"}, {math.Nextafter(0.25, 0), "0.249"}, {math.Nextafter(0.125, 0), "0.124"},
		{4.35, "4.349"}, {1.1, "1.100"}, {2.3, "2.299"}, {-4.35, "-4.349"}, {1.001, "1.000"}, {1.005, "1.004"}, {1.01, "1.010"}, {10.1, "10.099"},
	}
	for _, c := range cases {
		if got := ratio.Text(c.f); got != c.want {
			t.Errorf("Text(%v) = %q, want %q", c.f, got, c.want)
		}
	}
}

// textModel is P5.4 by numbers of 53 bits.
func textModel(f float64) string {
	if math.IsNaN(f) {
		return "nan"
	}
	sign := ""
	if math.Float64bits(f)>>63 == 1 {
		sign = "-"
	}
	size := new(big.Float).Abs(big.NewFloat(f))
	if size.IsInf() {
		return sign + "inf"
	}
	if size.Cmp(big.NewFloat(1<<53)) >= 0 {
		return sign + "big"
	}
	whole, _ := size.Int(nil)
	left := new(big.Float).SetPrec(2000).Sub(size, new(big.Float).SetInt(whole))
	product, _ := new(big.Float).SetPrec(53).SetMode(big.ToNearestEven).Mul(left, big.NewFloat(1000)).Int64()
	three := strconv.Itoa(int(min(product, 999)) + 1000)[1:]
	return sign + whole.String() + "." + three
}

func checkText(t *testing.T, f float64) {
	t.Helper()
	if got, want := ratio.Text(f), textModel(f); got != want {
		t.Errorf("Text(%v) = %q, want %q", f, got, want)
	}
}

func TestTextIsOneProductCut(t *testing.T) { // P5.4
	for _, f := range edges() {
		checkText(t, f)
	}
	for n := range 20000 {
		f := float64(n) / 1000
		for _, g := range []float64{f, math.Nextafter(f, 0), math.Nextafter(f, math.Inf(1)), -f} {
			checkText(t, g)
		}
	}
	source := rand.New(rand.NewSource(4))
	for range 20000 {
		checkText(t, math.Float64frombits(source.Uint64()))
		checkText(t, source.NormFloat64()*math.Pow(2, source.Float64()*60))
	}
}

func TestParse(t *testing.T) { // P5.5
	cases := []struct {
		s    string
		want float64
	}{
		{"nan", math.NaN()}, {"inf", math.Inf(1)}, {"-inf", math.Inf(-1)},
		{"0", 0}, {"-0", negZero}, {"0.0", 0}, {"-0.0", negZero}, {"0.000000", 0}, {"-0.000000", negZero},
		{"1", 1}, {"9", 9}, {"-1", -1}, {"10", 10}, {"100", 100}, {"12", 12}, {"123456789", 123456789}, {"999999999", 999999999}, {"-999999999", -999999999}, {"100000000", 100000000},
		{"0.8", 0.8}, {"-0.8", -0.8}, {"0.5", 0.5}, {"0.50", 0.5}, {"1.0", 1}, {"1.000000", 1}, {"10.5", 10.5}, {"0.05", 0.05}, {"-2.25", -2.25},
		{"0.1", 0.1}, {"0.12", 0.12}, {"0.123", 0.123}, {"0.1234", 0.1234}, {"0.12345", 0.12345}, {"0.123456", 0.123456}, {"0.000001", 0.000001}, {"0.999999", 0.999999},
		{"999999999.999999", 999999999.999999}, {"-999999999.999999", -999999999.999999}, {"123456789.5", 123456789.5}, {"123456789.000001", 123456789.000001}, {"0.3", 3.0 / 10}, {"0.000003", 3.0 / 1e6}, {"0.009", 9.0 / 1000},
	}
	for _, c := range cases {
		if got, ok := ratio.Parse(c.s); !alike(got, c.want) || !ok {
			t.Errorf("Parse(%q) = %v, %v, want %v, true", c.s, got, ok, c.want)
		}
	}
}

func TestParseNone(t *testing.T) { // P5.5
	cases := []string{
		"", "-", "--", "+", ".", "-.", "..", " ", "--1", "+1", "-+1", "- 1", "1-", "-1-", " 1", "1 ", "1\n", "\n1", "\x00", "1\x00",
		"00", "01", "007", "-00", "-01", "00.5", "01.5", "-00.0", "000000000",
		"1.", "-1.", "0.", ".5", "-.5", "1..2", "1.2.3", "1.2.", "1.-2", "1.+2", "1. 2", "1.a", "1.2a", "1,5", "1.5 ", "1.\x00",
		"1234567890", "-1234567890", "1000000000", "1234567890.5", "0.1234567", "-0.1234567", "0.0000000", "1.0000000", "123456789.1234567",
		"1e3", "1E3", "1e", "0x1", "0b1", "0x1p3", "1_0", "1f", "a", "1a", "a1", "/", ":", "0/", "0:", "1.:", "1./",
		"-nan", "+nan", "NaN", "NAN", "Nan", "nan ", " nan", "nana", "na", "n", "nan.0", "nan0", "0nan",
		"+inf", "--inf", "Inf", "INF", "-Inf", "inf ", " inf", "- inf", "infinity", "-infinity", "in", "i", "-in", "-i", "-n", "inf.0", "big", "-big", "inf-",
		"\xff", "1\xff", "\uff11", "1\u0661", "\u0131nf", "\u22121", "1\u00b75", "\u01301",
		strings.Repeat("9", 10000), strings.Repeat("0", 10000), "0." + strings.Repeat("0", 10000), strings.Repeat("-", 10000), "1." + strings.Repeat("5", 265), strings.Repeat("1", 257), strings.Repeat(".", 300),
	}
	for _, s := range cases {
		if got, ok := ratio.Parse(s); !alike(got, 0) || ok {
			t.Errorf("Parse(%.40q) = %v, %v, want +0, false", s, got, ok)
		}
	}
}

var form = regexp.MustCompile(`^-?(0|[1-9][0-9]{0,8})(\.[0-9]{1,6})?$`)

// parseModel is P5.5's Parse: its form as an expression, and the nearest float64 of the digits, which is what one division of
// two whole numbers that are float64s tells.
func parseModel(s string) (float64, bool) {
	switch s {
	case "nan":
		return math.NaN(), true
	case "inf":
		return math.Inf(1), true
	case "-inf":
		return math.Inf(-1), true
	}
	if !form.MatchString(s) {
		return 0, false
	}
	f, _ := strconv.ParseFloat(s, 64)
	return f, true
}

func checkParse(t *testing.T, s string) {
	t.Helper()
	got, ok := ratio.Parse(s)
	if want, is := parseModel(s); !alike(got, want) || ok != is {
		t.Errorf("Parse(%q) = %v, %v, want %v, %v", s, got, ok, want, is)
	}
	if ok {
		checkWriteOfParse(t, s, got)
	}
}

// checkWriteOfParse: what Parse told has a text, which is read as that, and is no longer than s.
func checkWriteOfParse(t *testing.T, s string, f float64) {
	t.Helper()
	text, ok := ratio.Write(f)
	back, is := ratio.Parse(text)
	if !ok || !is || !ratio.Same(back, f) || !alike(back, f) || len(text) > len(s) {
		t.Errorf("Write of Parse(%q) = %q, %v, read as %v, %v", s, text, ok, back, is)
	}
}

func TestParseOfShortTexts(t *testing.T) { // P5.5, P5.6: all texts of up to 5 of these signs, all of up to 2 bytes
	signs := "01589.-+infae \xff"
	var each func(s string)
	each = func(s string) {
		checkParse(t, s)
		if len(s) == 5 {
			return
		}
		for i := range len(signs) {
			each(s + signs[i:i+1])
		}
	}
	each("")
	for i := range 256 {
		for j := range 256 {
			checkParse(t, string([]byte{byte(i), byte(j)}))
		}
		checkParse(t, string([]byte{byte(i)}))
	}
}

func TestParseOfLongTexts(t *testing.T) { // P5.5, P5.6: from 1 to 11 digits ahead of the point, none to 8 behind it
	source := rand.New(rand.NewSource(3))
	digits := func(n int) string {
		s := ""
		for range n {
			s += strconv.Itoa(source.Intn(10))
		}
		return s
	}
	for range 300 {
		for ahead := range 12 {
			for behind := range 9 {
				s := digits(ahead)
				checkParse(t, s+"."+digits(behind))
				checkParse(t, "-"+s+"."+digits(behind))
				checkParse(t, s)
				checkParse(t, strings.Repeat("9", ahead)+"."+strings.Repeat("9", behind))
				checkParse(t, "1"+strings.Repeat("0", ahead)+"."+strings.Repeat("0", behind)+"1")
			}
		}
	}
}

func TestWrite(t *testing.T) { // P5.5
	cases := []struct {
		f    float64
		want string
	}{
		{math.NaN(), "nan"}, {nans()[2], "nan"}, {nans()[4], "nan"}, {math.Inf(1), "inf"}, {math.Inf(-1), "-inf"},
		{0, "0"}, {negZero, "-0"}, {1, "1"}, {-1, "-1"}, {100, "100"}, {123456789, "123456789"}, {100000000, "100000000"}, {999999999, "999999999"}, {-999999999, "-999999999"},
		{0.5, "0.5"}, {0.1, "0.1"}, {-2.25, "-2.25"}, {0.125, "0.125"}, {1.0625, "1.0625"}, {0.03125, "0.03125"}, {0.015625, "0.015625"}, {0.05, "0.05"}, {10.01, "10.01"}, {3.14159, "3.14159"},
		{0.000001, "0.000001"}, {-0.000001, "-0.000001"}, {0.00001, "0.00001"}, {0.001, "0.001"}, {0.999999, "0.999999"}, {0.29, "0.29"}, {4.35, "4.35"}, {1.005, "1.005"},
		{999999999.999999, "999999999.999999"}, {-999999999.999999, "-999999999.999999"}, {999999999.5, "999999999.5"}, {123456789.123456, "123456789.123456"}, {99999999.9, "99999999.9"},
	}
	for _, c := range cases {
		if got, ok := ratio.Write(c.f); got != c.want || !ok {
			t.Errorf("Write(%v) = %q, %v, want %q, true", c.f, got, ok, c.want)
		}
	}
}

func TestWriteNone(t *testing.T) { // P5.5
	for _, f := range []float64{
		1e9, 1e9 + 1, 1e10, 1e15, 1 << 53, 1 << 62, 1 << 63, 1 << 64, 1e300, math.MaxFloat64, math.Nextafter(1e9, 0), 999999999.9999999, math.Nextafter(1e9, 2e9),
		1.0 / 3, 2.0 / 3, 0.0078125, 1e-7, 1.5e-6, 5e-7, 0.9999999, 0x1p-1022, math.SmallestNonzeroFloat64, 0.30000000000000004, math.Pi,
		math.Nextafter(0.5, 0), math.Nextafter(0.5, 1), math.Nextafter(0.1, 1), math.Nextafter(0.1, 0), math.Nextafter(1, 0), math.Nextafter(1, 2), math.Nextafter(123456789, 0), math.Nextafter(999999999.999999, 0), math.Nextafter(999999999.999999, 1e9),
	} {
		for _, f := range []float64{f, -f} {
			if got, ok := ratio.Write(f); got != "" || ok {
				t.Errorf("Write(%v) = %q, %v, want none", f, got, ok)
			}
		}
	}
}

// writeModel is P5.5's Write: two texts of up to 15 digits are never one float64, so that the shortest text there is must be
// Parse's, if Parse has one.
func writeModel(f float64) (string, bool) {
	switch {
	case math.IsNaN(f):
		return "nan", true
	case math.IsInf(f, 1):
		return "inf", true
	case math.IsInf(f, -1):
		return "-inf", true
	}
	s := strconv.FormatFloat(f, 'f', -1, 64)
	if !form.MatchString(s) {
		return "", false
	}
	return s, true
}

func checkWrite(t *testing.T, f float64) {
	t.Helper()
	got, ok := ratio.Write(f)
	if want, is := writeModel(f); got != want || ok != is {
		t.Errorf("Write(%v) = %q, %v, want %q, %v", f, got, ok, want, is)
	}
	if back, is := ratio.Parse(got); ok && (!is || !alike(back, f)) {
		t.Errorf("Write(%v) = %q is read as %v, %v", f, got, back, is)
	}
}

func TestWriteOfManyFloats(t *testing.T) { // P5.5, P5.6
	for _, f := range edges() {
		checkWrite(t, f)
	}
	source := rand.New(rand.NewSource(2))
	for range 3000 {
		checkWrite(t, math.Float64frombits(source.Uint64()))
		for ten := 1; ten <= 1e7; ten *= 10 {
			most := int(1e9) * ten
			for _, n := range []int{source.Intn(most), most - 1 - source.Intn(1000), source.Intn(1000), most + source.Intn(1000)} {
				f := float64(n) / float64(ten)
				checkWrite(t, f)
				checkWrite(t, -f)
				checkWrite(t, math.Nextafter(f, 0))
				checkWrite(t, math.Nextafter(f, 2e9))
			}
		}
	}
}

func TestWriteHasTheFewestSigns(t *testing.T) { // P5.5: held against all texts of up to 4 digits, the fewest signs behind the point first
	fewest := map[uint64]string{}
	put := func(s string) {
		f, ok := ratio.Parse(s)
		if !ok {
			return
		}
		if _, there := fewest[math.Float64bits(f)]; !there {
			fewest[math.Float64bits(f)] = s
		}
	}
	for places := range 7 {
		for n := range 10000 {
			s := strconv.Itoa(n)
			if places > 0 {
				s = strings.Repeat("0", max(0, places+1-len(s))) + s
				s = s[:len(s)-places] + "." + s[len(s)-places:]
			}
			put(s)
			put("-" + s)
		}
	}
	if len(fewest) < 100000 {
		t.Fatalf("%d floats only", len(fewest))
	}
	for bits, want := range fewest {
		f := math.Float64frombits(bits)
		if got, ok := ratio.Write(f); got != want || !ok {
			t.Errorf("Write(%v) = %q, %v, want %q, true", f, got, ok, want)
		}
	}
}

func FuzzFloats(f *testing.F) {
	for _, a := range edges() {
		f.Add(math.Float64bits(a), uint64(1), 10)
	}
	f.Fuzz(func(t *testing.T, x, y uint64, limit int) {
		a, b := math.Float64frombits(x), math.Float64frombits(y)
		checkOrder(t, a, b)
		checkText(t, a)
		checkWrite(t, a)
		if got, want := ratio.Near(limit, a), nearModel(limit, a); got != want {
			t.Errorf("Near(%d, %v) = %d, want %d", limit, a, got, want)
		}
	})
}

func FuzzParse(f *testing.F) {
	for _, s := range []string{"", "nan", "inf", "-inf", "-0", "123456789.123456", "-1.", "01"} {
		f.Add(s)
	}
	f.Fuzz(checkParse)
}
