package figure

import (
	"math"
	"math/big"
	"math/rand"
	"regexp"
	"slices"
	"strconv"
	"strings"
	"testing"

	"platen/api"
)

// nought is -0.
var nought = math.Copysign(0, -1)

// grammar is the text of a number as the chapter writes it; a POSIX expression takes the longest text.
var grammar = regexp.MustCompilePOSIX(`^[-+]?(nan|inf|[0-9]+(\.[0-9]+)?([eE][-+]?[0-9]+)?)`)

// same reports whether two numbers are one: all NaNs are, -0 and 0 are not.
func same(a, b float64) bool {
	return a != a && b != b || math.Float64bits(a) == math.Float64bits(b)
}

// value is the number of a text that the grammar has: the fraction that it is, rounded, with its sign.
func value(t *testing.T, s string) float64 {
	t.Helper()
	sign := 1.0
	if s[0] == '-' {
		sign = -1
	}
	switch bare := strings.TrimLeft(s, "+-"); bare {
	case "nan":
		return math.NaN()
	case "inf":
		return math.Inf(int(sign))
	default:
		r, ok := new(big.Rat).SetString(bare)
		if !ok {
			t.Fatalf("%q is no fraction", s)
		}
		x, _ := r.Float64()
		return math.Copysign(x, sign)
	}
}

// each gives all texts of at most n of the parts, one behind the other.
func each(parts []string, n int, do func(string)) {
	var more func(string, int)
	more = func(s string, left int) {
		do(s)
		if left == 0 {
			return
		}
		for _, p := range parts {
			more(s+p, left-1)
		}
	}
	more("", n)
}

// P7.1: how long the number is with which a text begins.
func TestLen(t *testing.T) {
	for s, want := range map[string]int{
		// Ordinary ones.
		"0": 1, "12": 2, "007": 3, "-5": 2, "+5": 2, "1.5": 3, "10.25": 5, "1e3": 3, "1E3": 3, "1.5e3": 5, "-1.50E-03": 9, "+2e+10": 6,
		// Nothing, and a sign alone.
		"": 0, "-": 0, "+": 0, "--": 0, "+-": 0, "-+1": 0, "--1": 0, "++nan": 0, "- 1": 0, "-.": 0, "-e1": 0, "-x": 0,
		// Each sign ahead of nan, inf and digits.
		"nan": 3, "-nan": 4, "+nan": 4, "inf": 3, "-inf": 4, "+inf": 4, "-1": 2, "+1": 2,
		// Parts of nan and inf, capitals, and more letters behind them.
		"n": 0, "na": 0, "i": 0, "in": 0, "-na": 0, "+in": 0, "NaN": 0, "NAN": 0, "Nan": 0, "nAn": 0, "naN": 0, "Inf": 0, "INF": 0, "iNf": 0, "inF": 0, "-Inf": 0,
		"nano": 3, "nan1": 3, "nannan": 3, "naninf": 3, "infinity": 3, "-infinity": 4, "Infinity": 0, "inf1": 3, "infe5": 3, "nane5": 3, "nan.5": 3, "inf.5": 3, "nan(1)": 3, "snan": 0,
		// A point with no digits ahead of it, or behind it.
		".": 0, ".5": 0, "-.5": 0, "+.5": 0, ".e1": 0, "1.": 1, "-1.": 2, "1.x": 1, "1.-5": 1, "1.+5": 1, "1. 5": 1, "1.e5": 1, "1.inf": 1, "1..5": 1,
		// e and E with no digits, with a sign alone, with a sign and digits.
		"1e": 1, "1E": 1, "1e-": 1, "1e+": 1, "1E-": 1, "1E+": 1, "1e-5": 4, "1e+5": 4, "1E-5": 4, "1E+5": 4, "1ex": 1, "1e-x": 1, "1e--5": 1, "1e+-5": 1, "1e 5": 1, "1e- 5": 1, "1e.5": 1, "1.5e": 3, "1.5E+": 3, "1einf": 1, "1enan": 1,
		"e": 0, "e5": 0, "E5": 0, "-e5": 0,
		// A second point, a second e.
		"1.2.3": 3, "1e2.3": 3, "1e2e3": 3, "1e2E3": 3, "1E2e3": 3, "1.2e3.4": 5, "1ee2": 1, "1.5ee2": 3, "1eE2": 1,
		// Too large, too small, -0.
		"1e400": 5, "-1e400": 6, "1e-400": 6, "-0": 2, "+0": 2, "-0.0": 4, "0e0": 3, "1e99999999999999999999": 22,
		// What ParseFloat reads and the grammar does not have.
		"0x1": 1, "0x1p4": 1, "0X1P-2": 1, "-0x10p0": 2, "0b1": 1, "0o7": 1, "1_000": 1, "0_1": 1, "1e1_0": 3, "1.0_1": 3, "_1": 0, "+Infinity": 0,
		// Blanks.
		" ": 0, " 1": 0, "\t1": 0, "\n1": 0, " nan": 0, "1 ": 1, "1\t": 1, "1\n": 1, "1 2": 1, "n an": 0, "in f": 0, "1 .5": 1, "1 e5": 1, "1.5 e5": 3,
		// What is no digit, though near to one.
		"/": 0, ":": 0, "1/2": 1, "1:2": 1, "1,5": 1, "1'000": 1, "\u0661": 0, "\uff11": 0, "1\uff11": 1, "\u22121": 0, "\u221e": 0, "\x00": 0, "\xff": 0, "1\xff": 1, "1\x00": 1,
		// One number behind another.
		"1-2": 1, "1+2": 1, "1nan": 1, "1inf": 1, "nan-1": 3, "1.5-2.5": 3, "1e5-2": 3,
	} {
		if n := Len(s); n != want {
			t.Errorf("Len(%q) = %d, not %d", s, n, want)
		}
	}
}

// P7.1: each byte alone, and each byte behind a digit, a point, an e.
func TestLenBytes(t *testing.T) {
	for i := range 256 {
		c := string([]byte{byte(i)})
		for _, s := range []string{c, "-" + c, "1" + c, "1." + c, "1.5" + c, "1e" + c, "1e-" + c, "1e5" + c, "na" + c, "in" + c} {
			if n, want := Len(s), len(grammar.FindString(s)); n != want {
				t.Errorf("Len(%q) = %d, not %d", s, n, want)
			}
		}
	}
}

// P7.1: all texts of a few parts, held against the grammar.
func TestShort(t *testing.T) {
	check := func(s string) {
		text := grammar.FindString(s)
		if n := Len(s); n != len(text) {
			t.Fatalf("Len(%q) = %d, not %d", s, n, len(text))
		}
		want, whole := 0.0, s != "" && text == s
		if whole {
			want = value(t, s)
		}
		if x, ok := Read(s); ok != whole || !same(x, want) {
			t.Fatalf("Read(%q) = %v, %v, not %v, %v", s, x, ok, want, whole)
		}
		want, any := 0.0, false
		for i := range len(s) {
			if text := grammar.FindString(s[i:]); text != "" {
				want, any = value(t, text), true
				break
			}
		}
		if x, ok := First(s); ok != any || !same(x, want) {
			t.Fatalf("First(%q) = %v, %v, not %v, %v", s, x, ok, want, any)
		}
	}
	each([]string{"-", "+", ".", "e", "E", "0", "7", "nan", "inf", "x"}, 5, check)
	each([]string{"-", ".", "e", "1", " "}, 7, check)
	each([]string{"n", "a", "i", "f", "N", "-", "1"}, 5, check)
}

// P7.1: texts that are read, as a whole.
func TestRead(t *testing.T) {
	inf := math.Inf(1)
	for s, want := range map[string]float64{
		"0": 0, "+0": 0, "-0": nought, "-0.0": nought, "-0e5": nought, "00": 0, "7": 7, "007": 7, "+7": 7, "-7": -7, "1.5": 1.5, "-2.5e1": -25, "2.5E-1": 0.25, "1e+2": 100, "0.1": 0.1,
		"inf": inf, "+inf": inf, "-inf": -inf, "nan": math.NaN(), "+nan": math.NaN(), "-nan": math.NaN(),
		// The nearest one; of two the even one.
		"9007199254740991": 1<<53 - 1, "9007199254740993": 1 << 53, "9007199254740995": 1<<53 + 4, "9007199254740993.00000000000000000001": 1<<53 + 2, "-9007199254740993": -1 << 53,
		"0.30000000000000004": 0x1.3333333333334p-2, "0.3": 0x1.3333333333333p-2,
		// Too large: from halfway beyond the greatest one on.
		"1.7976931348623157e308": math.MaxFloat64, "1.7976931348623158e308": math.MaxFloat64, "1.7976931348623159e308": inf, "-1.7976931348623159e308": -inf,
		"1e308": 1e308, "1e309": inf, "1e400": inf, "-1e400": -inf, "+1e400": inf, "1e99999999999999999999": inf, "-1e99999999999999999999": -inf, "0e99999999999999999999": 0, "-0e400": nought,
		// Too small to be above 0: up to half of the least one.
		"5e-324": 5e-324, "3e-324": 5e-324, "2e-324": 0, "-2e-324": nought, "1e-400": 0, "-1e-400": nought, "1e-99999999999999999999": 0, "-1e-99999999999999999999": nought,
		"2.2250738585072014e-308": 0x1p-1022, "2.2250738585072011e-308": 0x0.fffffffffffffp-1022,
	} {
		if x, ok := Read(s); !ok || !same(x, want) {
			t.Errorf("Read(%q) = %v, %v, not %v", s, x, ok, want)
		}
	}
}

// P7.1: texts that are no number as a whole are not read, and 0 stands beside the false.
func TestReadWrong(t *testing.T) {
	for _, s := range []string{
		"", "-", "+", "--1", "+-1", "-+1", ".", ".5", "-.5", "1.", "-1.", "1.e5", "e", "e5", "E5", "1e", "1E", "1e-", "1e+", "1E+", "1e--5", "1e5.5", "1.2.3", "1e2e3", "1ee2",
		"n", "na", "in", "NaN", "NAN", "Nan", "Inf", "INF", "-Inf", "+NaN", "nano", "nan1", "nannan", "-nannan", "1nan", "infnan", "xnan", "--nan", "+-nan", "inf1", "inff", "infe5", "--inf",
		// What ParseFloat would read.
		"0x1p4", "0x1p-2", "-0X1P+2", "0x10p0", "0x1", "1_000", "0x_1p0", "0_1", "infinity", "+infinity", "-infinity", "Infinity", "INFINITY", "-Infinity",
		// Blanks.
		" ", "\t", "\n", " 1", "1 ", "\t1", "1\t", "\n1", "1\n", " nan", "nan ", " inf", "inf ", "1 2", "- 1", "1 .5", "1. 5", "1 e5", "1e 5", "1e5 ", "n an", "in f", "- nan",
		"x", "1x", "x1", "1,5", "1/2", "1-2", "1+2", "\x00", "1\x00", "\xff", "1\xff", "\u0661", "1\uff11", "\u22121", "\u221e",
	} {
		if x, ok := Read(s); ok || !same(x, 0) {
			t.Errorf("Read(%q) = %v, %v", s, x, ok)
		}
	}
}

// P7.1: the first number of a text.
func TestFirst(t *testing.T) {
	inf, nan := math.Inf(1), math.NaN()
	for s, want := range map[string]float64{
		"1": 1, "-1": -1, "ab-1.5c2": -1.5, "a1b2": 1, "12ab": 12, "x = 3;": 3, " 7": 7, "\t-7 ": -7, "\n1": 1, "1 2": 1,
		// Behind signs, letters and points.
		"--1": -1, "-+1": 1, "+-1": -1, "++1": 1, "---0": nought, "- 1": 1, "+x-5": -5, "e5": 5, "e-5": -5, "E+5": 5, ".5": 5, "-.5": 5, "..5": 5, ".-5": -5, "a.5e3": 5e3, "v1.2.3": 1.2, "1.2.3": 1.2, "1.": 1, "x1e": 1, "x1e+": 1, "\u20ac5": 5, "\xff-5": -5,
		// One right behind the other.
		"1-2": 1, "-1-2": -1, "1+2": 1, "1.5-2.5": 1.5, "1e5-2": 1e5, "nan1": nan, "1nan": 1, "inf1": inf, "inf-inf": inf, "naninf": nan, "1e2e3": 100,
		// nan and inf within other words.
		"banana": nan, "nano": nan, "finance1": nan, "info 5": inf, "-info": -inf, "x-inf": -inf, "nainf": inf, "innan": nan, "nnan": nan, "iinf": inf, "infinity": inf, "NaN 5": 5, "Inf 5": 5, "na5": 5, "in-5": -5,
		// What ParseFloat would read otherwise.
		"0x1p4": 0, "-0x10": nought, "1_000": 1, "_1": 1, "INF1": 1,
		"1e400": inf, "x-1e400y": -inf, "1e-400": 0, "-1e-400": nought,
	} {
		if x, ok := First(s); !ok || !same(x, want) {
			t.Errorf("First(%q) = %v, %v, not %v", s, x, ok, want)
		}
	}
	for _, s := range []string{"", "-", "+", "--", "e", "e-", "E+", ".", "-.", "...", " ", "\t\n", "abc", "n an", "na", "in f", "NaN", "INF", "Infinity", "-Infinity", "\x00", "\xff\xfe", "\u0661", "\u221e", "x.y-z"} {
		if x, ok := First(s); ok || !same(x, 0) {
			t.Errorf("First(%q) = %v, %v", s, x, ok)
		}
	}
}

// P7.1, P1: long texts end, and are read as they are.
func TestLong(t *testing.T) {
	n := api.MaxText
	nines, noughts, signs := strings.Repeat("9", n), strings.Repeat("0", n), strings.Repeat("-", n)
	for s, want := range map[string]int{
		nines: n, "-" + nines: n + 1, noughts: n, "0." + noughts + "1": n + 3, "1e" + nines: n + 2, "1e-" + noughts + "5": n + 4, signs: 0, signs + "1": 0,
		strings.Repeat("n", n): 0, strings.Repeat("ni", n): 0, strings.Repeat("na", n): 3, nines + ".": n, nines + "e": n, nines + "e+": n,
	} {
		if got := Len(s); got != want {
			t.Errorf("Len(%.9q, of %d bytes) = %d, not %d", s, len(s), got, want)
		}
	}
	for s, want := range map[string]float64{
		nines: math.Inf(1), "-" + nines: math.Inf(-1), noughts: 0, "-" + noughts: nought, noughts + "25": 25, "0." + noughts + "1": 0, "1." + noughts: 1, "1e" + nines: math.Inf(1), "-1e-" + nines: nought, "1e" + noughts + "5": 1e5,
	} {
		if x, ok := Read(s); !ok || !same(x, want) {
			t.Errorf("Read(%.9q, of %d bytes) = %v, %v, not %v", s, len(s), x, ok, want)
		}
	}
	if x, ok := First(signs + "1.5" + signs); !ok || x != -1.5 {
		t.Errorf("the first number behind many signs is %v, %v", x, ok)
	}
	for _, s := range []string{signs, strings.Repeat("in", n), strings.Repeat("-na", n), strings.Repeat(".", n), strings.Repeat("e+", n)} {
		if x, ok := First(s); ok || x != 0 {
			t.Errorf("First(%.9q, of %d bytes) = %v, %v", s, len(s), x, ok)
		}
	}
}

// P7.1: numbers as texts.
func TestShow(t *testing.T) {
	for want, x := range map[string]float64{
		"nan": math.NaN(), "inf": math.Inf(1), "-inf": math.Inf(-1), "0": 0, "-0": nought,
		"5e-324": math.SmallestNonzeroFloat64, "-5e-324": -math.SmallestNonzeroFloat64, "1.7976931348623157e+308": math.MaxFloat64, "-1.7976931348623157e+308": -math.MaxFloat64,
		"1": 1, "-1": -1, "0.1": 0.1, "-2.5": -2.5, "100000": 1e5, "123456.789": 123456.789, "0.30000000000000004": 0x1.3333333333334p-2,
		// Where an exponent begins.
		"999999": 999999, "1e+06": 1e6, "1.234567e+06": 1234567, "1e+21": 1e21, "0.0001": 1e-4, "1e-05": 1e-5, "9.007199254740992e+15": 1 << 53, "2.2250738585072014e-308": 0x1p-1022,
	} {
		if s := Show(x); s != want {
			t.Errorf("Show(%v) = %q, not %q", x, s, want)
		}
	}
	// A NaN's sign and bits are not shown.
	for _, bits := range []uint64{0x7ff0000000000001, 0x7ff8000000000000, 0x7fffffffffffffff, 0xfff0000000000001, 0xfff8000000000000, 0xffffffffffffffff} {
		if s := Show(math.Float64frombits(bits)); s != "nan" {
			t.Errorf("Show(%x) = %q", bits, s)
		}
	}
}

// some are numbers of all kinds, at the edges and anywhere.
func some() []float64 {
	l := []float64{math.NaN(), math.Inf(1), math.Inf(-1), 0, nought, 5e-324, -5e-324, math.MaxFloat64, -math.MaxFloat64, 0x1p-1022, 0x0.fffffffffffffp-1022, 1 << 53, 1<<53 - 1, 1e20, 1e21, 1e22, 1e23, 0.1, 1e-4, 1e-5}
	r := rand.New(rand.NewSource(7))
	for range 20000 {
		l = append(l, math.Float64frombits(r.Uint64()), float64(r.Intn(2000)-1000)/8)
	}
	return l
}

// P7.1: what is shown is the text of a number, is read as it, and is the one that FormatFloat gives.
func TestShowRead(t *testing.T) {
	for _, x := range some() {
		s := Show(x)
		if n := Len(s); n != len(s) {
			t.Fatalf("Show(%v) = %q, of which %d bytes are a number", x, s, n)
		}
		if y, ok := Read(s); !ok || !same(x, y) {
			t.Fatalf("Read(Show(%v)) = %v, %v", x, y, ok)
		}
		if y, ok := First("a " + s + " b"); !ok || !same(x, y) {
			t.Fatalf("First of a text with %q = %v, %v", s, y, ok)
		}
		if x-x == 0 && s != strconv.FormatFloat(x, 'g', -1, 64) {
			t.Fatalf("Show(%v) = %q", x, s)
		}
	}
}

// ladder are numbers in their order.
func ladder() []float64 {
	return []float64{math.Inf(-1), -math.MaxFloat64, -1e9, -1.5, -1, -5e-324, nought, 0, 5e-324, 1, math.Nextafter(1, 2), 1.5, 1e9, math.MaxFloat64, math.Inf(1), math.NaN()}
}

// P7.2: each pair of numbers has its order.
func TestOrder(t *testing.T) {
	l := ladder()
	for i, a := range l {
		for k, b := range l {
			if Less(a, b) != (i < k) {
				t.Errorf("Less(%v, %v) = %v", a, b, i >= k)
			}
			if Same(a, b) != (i == k) {
				t.Errorf("Same(%v, %v) = %v", a, b, i != k)
			}
		}
	}
}

// P7.2: all NaNs have one position, behind all others.
func TestOrderNaN(t *testing.T) {
	var nans []float64
	for _, bits := range []uint64{0x7ff0000000000001, 0x7ff8000000000000, 0x7fffffffffffffff, 0xfff0000000000001, 0xfff8000000000000, 0xffffffffffffffff} {
		nans = append(nans, math.Float64frombits(bits))
	}
	for _, a := range nans {
		for _, b := range nans {
			if Less(a, b) || !Same(a, b) {
				t.Errorf("the NaNs %x and %x differ", math.Float64bits(a), math.Float64bits(b))
			}
		}
		for _, b := range ladder()[:15] {
			if Less(a, b) || !Less(b, a) || Same(a, b) || Same(b, a) {
				t.Errorf("the NaN %x is not behind %v", math.Float64bits(a), b)
			}
		}
	}
}

// rank is a number's position in the total order, from its bits.
func rank(x float64) uint64 {
	bits := math.Float64bits(x)
	switch {
	case x != x:
		return math.MaxUint64
	case bits>>63 == 1:
		return ^bits
	}
	return bits | 1<<63
}

// P7.2: numbers from anywhere, held against the order of their bits.
func TestOrderMany(t *testing.T) {
	l := some()
	for i, a := range l {
		b := l[(i*7919+13)%len(l)]
		if Less(a, b) != (rank(a) < rank(b)) || Same(a, b) != (rank(a) == rank(b)) {
			t.Fatalf("%v and %v: %v, %v", a, b, Less(a, b), Same(a, b))
		}
	}
}

// P7.2: sums, from the first number on.
func TestSum(t *testing.T) {
	inf, nan := math.Inf(1), math.NaN()
	for _, c := range []struct {
		l    []float64
		want float64
	}{
		{nil, 0}, {[]float64{}, 0},
		{[]float64{0}, 0}, {[]float64{nought}, nought}, {[]float64{nought, nought}, nought}, {[]float64{nought, 0}, 0}, {[]float64{0, nought}, 0}, {[]float64{1, -1}, 0},
		{[]float64{1.5}, 1.5}, {[]float64{1, 2, 3}, 6}, {[]float64{-1, 0.5}, -0.5}, {[]float64{inf}, inf}, {[]float64{-inf, 1}, -inf}, {[]float64{nan}, nan},
		// The order of adding is seen.
		{[]float64{0.1, 0.2, 0.3}, 0.6000000000000001}, {[]float64{0.3, 0.2, 0.1}, 0.6}, {[]float64{1e16, 1, -1e16}, 0}, {[]float64{1e16, -1e16, 1}, 1}, {[]float64{1, 1e16, -1e16}, 0}, {[]float64{1, 1, 1e16, -1e16}, 2}, {[]float64{1e16, 1, 1, -1e16}, 0},
		{[]float64{math.MaxFloat64, math.MaxFloat64, -math.MaxFloat64}, inf}, {[]float64{math.MaxFloat64, -math.MaxFloat64, math.MaxFloat64}, math.MaxFloat64},
		{[]float64{inf, -inf}, nan}, {[]float64{inf, inf}, inf}, {[]float64{nan, 1}, nan}, {[]float64{1, nan}, nan}, {[]float64{math.MaxFloat64, math.MaxFloat64, -inf}, nan},
	} {
		before := slices.Clone(c.l)
		if x := Sum(c.l); !same(x, c.want) {
			t.Errorf("Sum(%v) = %v, not %v", c.l, x, c.want)
		}
		if !slices.EqualFunc(before, c.l, same) {
			t.Errorf("Sum changed %v to %v", before, c.l)
		}
	}
}

// P1, P2: a call answers the same again, for texts of any bytes.
func TestAgain(t *testing.T) {
	const letters = "-+.eE019naif \n\xff\x00xX_"
	r := rand.New(rand.NewSource(11))
	for range 20000 {
		b := make([]byte, r.Intn(12))
		for i := range b {
			b[i] = letters[r.Intn(len(letters))]
		}
		s := string(b)
		n := Len(s)
		x, ok := Read(s)
		y, any := First(s)
		if n != Len(s) || n < 0 || n > len(s) || ok != (n > 0 && n == len(s)) || any && s == "" {
			t.Fatalf("%q: %d, %v, %v", s, n, ok, any)
		}
		if x2, ok2 := Read(s); !same(x, x2) || ok != ok2 {
			t.Fatalf("Read(%q) = %v, then %v", s, x, x2)
		}
		if y2, any2 := First(s); !same(y, y2) || any != any2 {
			t.Fatalf("First(%q) = %v, then %v", s, y, y2)
		}
	}
}
