package num_test

import (
	"math"
	"math/big"
	"strconv"
	"strings"
	"testing"

	"weir/api"
	"weir/num"
)

// checkRead holds Read against the chapter's words.
func checkRead(t *testing.T, s string) {
	t.Helper()
	v, e := num.Read(s)
	want, wantErr := uint64(0), api.OK
	switch {
	case len(s) > api.MaxNumber:
		wantErr = api.ErrLong
	case infForm.MatchString(s):
		want = firstHuge
	case nanForm.MatchString(s):
		want = 0x7FF8000000000001
	case !decimalForm.MatchString(s) && !hexForm.MatchString(s):
		wantErr = api.ErrNumber
	default:
		want = nearest(value(s))
		if want == firstHuge {
			want, wantErr = 0, api.ErrHuge
		}
	}
	if e != wantErr || num.Bits(v) != want {
		t.Errorf("Read(%q) = %v (%x), %d; want %x, %d", s, v, num.Bits(v), e, want, wantErr)
	}
}

// P2.1: Read, the chapter's examples.
func TestReadExamples(t *testing.T) {
	for s, want := range map[string]uint64{
		"0.1": 0x3FB999999999999A, "0x10": math.Float64bits(16), "1e3": math.Float64bits(1000), ".5": math.Float64bits(0.5), "1.": math.Float64bits(1),
		"nAn": 0x7FF8000000000001, "Inf": firstHuge, "7": math.Float64bits(7), "7.": math.Float64bits(7), "007": math.Float64bits(7), "1.e5": math.Float64bits(100000), "12E-3": math.Float64bits(0.012),
		strings.Repeat("0", 512): 0, "9007199254740993": math.Float64bits(9007199254740992), "1.7976931348623158e308": math.Float64bits(math.MaxFloat64), "2e-324": 0, "3e-324": 1,
		"0e99999999999999999999": 0, "1e-99999999999999999999": 0,
	} {
		if v, e := num.Read(s); e != api.OK || num.Bits(v) != want {
			t.Errorf("Read(%q) = %v, %d; want the bits %x", s, v, e, want)
		}
	}
	for s, want := range map[string]api.Errno{
		"": api.ErrNumber, "-1": api.ErrNumber, "+1": api.ErrNumber, "1_000": api.ErrNumber, "0x": api.ErrNumber, ".": api.ErrNumber, "1e": api.ErrNumber, "e5": api.ErrNumber, "1.2.3": api.ErrNumber, "infinity": api.ErrNumber,
		"1e400": api.ErrHuge, "1.7976931348623159e308": api.ErrHuge, "1e99999999999999999999": api.ErrHuge, strings.Repeat("1", 513): api.ErrLong,
	} {
		if v, e := num.Read(s); e != want || v != 0 {
			t.Errorf("Read(%q) = %v, %d; want error %d", s, v, e, want)
		}
	}
}

// P2.1: Read, every text of few bytes that matter.
func TestReadShortTexts(t *testing.T) {
	for s := range texts("01.e+-xA", 5) {
		checkRead(t, s)
	}
	for s := range texts("iInNaAfF", 4) {
		checkRead(t, s)
	}
}

// P2.1: wrong texts.
func TestReadWrong(t *testing.T) {
	for _, s := range []string{
		" 1", "1 ", "1\n", "\x001", "1\x00", "1,5", "1e5.", "1e+", "1e-", "1e+-5", "1e5e5", ".e5", "0x.", "0x1.8", "0x1p4", "0xg", "0x1g", "x1", "00x1", "0b1", "0o7", "1f", "١", "é", "\xff", "1\xff", "0x\xff",
		"in", "infx", "iınf", "ſnf", "na", "nanx", "+inf", "-nan", "Inf ", "İnf", "I.f", "\x49\x4e\x06", "\x09nf", "\x0ean", "0\x18", "0\x581\x00", "1\x05", "1\x455\x10",
	} {
		checkRead(t, s)
	}
	for c := range 256 {
		checkRead(t, string([]byte{byte(c)}))
		checkRead(t, "1"+string([]byte{byte(c)})+"1")
		checkRead(t, "0x"+string([]byte{byte(c)}))
		checkRead(t, "i"+string([]byte{byte(c)})+"f")
		checkRead(t, "na"+string([]byte{byte(c)}))
	}
}

// P2.1: the texts of MaxNumber bytes and of one more.
func TestReadLimit(t *testing.T) {
	for _, n := range []int{api.MaxNumber - 1, api.MaxNumber, api.MaxNumber + 1, 100000} {
		for _, s := range []string{
			strings.Repeat("0", n), strings.Repeat("1", n), "1." + strings.Repeat("0", n-2), "." + strings.Repeat("0", n-2) + "1", "0." + strings.Repeat("9", n-2),
			"0x" + strings.Repeat("0", n-2), "0x" + strings.Repeat("f", n-2), strings.Repeat("0", n-3) + "1e5", "1e" + strings.Repeat("0", n-3) + "7", "1e-" + strings.Repeat("0", n-4) + "7",
			"0e" + strings.Repeat("9", n-2), "1e" + strings.Repeat("9", n-2), "1e-" + strings.Repeat("9", n-3), "x" + strings.Repeat("1", n-1), strings.Repeat("1", n-1) + "e",
			"." + strings.Repeat("0", n-6) + "1e" + strconv.Itoa(n-6+1), strings.Repeat("1", n-5) + "e-" + strconv.Itoa(n - 5)[:3],
		} {
			checkRead(t, s)
		}
	}
}

// P2.1: rightly rounded, where it is hardest.
func TestReadEdges(t *testing.T) {
	tooGreat := new(big.Int).Lsh(big.NewInt(1<<54-1), 970)
	justBelow := new(big.Int).Sub(tooGreat, big.NewInt(1))
	for _, n := range []*big.Int{tooGreat, justBelow, new(big.Int).Add(tooGreat, big.NewInt(1))} {
		checkRead(t, n.String())
		checkRead(t, n.String()+".")
		checkRead(t, n.String()+".000001")
		checkRead(t, "0x"+n.Text(16))
		checkRead(t, "0X"+strings.ToUpper(n.Text(16)))
		checkRead(t, "."+n.String()+"e309")
	}
	if _, e := num.Read(tooGreat.String()); e != api.ErrHuge {
		t.Error("half a step beyond the greatest number isn't too great")
	}
	if v, e := num.Read(justBelow.String()); e != api.OK || v != math.MaxFloat64 {
		t.Error("less than half a step beyond the greatest number isn't that number")
	}
	half := halfway(0).FloatString(1075) // half of the least number: 752 digits, too many for a text, but these lie beside it
	digits := strings.TrimLeft(half[2:], "0")
	for n := 1; n < 480; n++ {
		checkRead(t, digits[:n]+"e-"+strconv.Itoa(323+n))
		checkRead(t, digits[:n]+"9e-"+strconv.Itoa(324+n))
	}
	for e := 300; e < 330; e++ {
		for _, s := range []string{"1", "9", "17", "2.4703282292062327", "2.4703282292062328", "0.00001", "123456789012345678901", "4.9", "2.2250738585072011", "2.2250738585072014", "1797693134862315.7"} {
			checkRead(t, s+"e-"+strconv.Itoa(e))
			checkRead(t, s+"E"+strconv.Itoa(e))
			checkRead(t, s+"e+"+strconv.Itoa(e))
		}
	}
	for n := 1; n <= 60; n++ { // around the digits and the powers that floats hold exactly
		for _, digit := range []string{"1", "9", "3"} {
			s := strings.Repeat(digit, n)
			for e := 18; e <= 27; e++ {
				checkRead(t, s+"e"+strconv.Itoa(e))
				checkRead(t, s+"e-"+strconv.Itoa(e))
			}
		}
	}
}

// P2.1: the mantissa's last bit decides between two that are equally near.
func TestReadHalfWay(t *testing.T) {
	for _, bits := range []uint64{1, 2, 3, 0x000FFFFFFFFFFFFF, 0x0010000000000000, 0x433FFFFFFFFFFFFF, 0x4340000000000000, 0x4340000000000001, 0x43DFFFFFFFFFFFFF, 0x43E0000000000000, 0x3FF0000000000000, 0x3FEFFFFFFFFFFFFF, 0x3FF0000000000001, 0x7FEFFFFFFFFFFFFE} {
		for _, s := range between(bits) {
			checkRead(t, s)
		}
	}
	for n := uint64(1) << 53; n < 1<<53+64; n++ {
		checkRead(t, strconv.FormatUint(n, 10))
		checkRead(t, "0x"+strconv.FormatUint(n, 16))
		checkRead(t, strconv.FormatUint(n, 10)+".0000000000000000000001")
		checkRead(t, strconv.FormatUint(n-1, 10)+".9999999999999999999999")
	}
}

// P2.1: lexemes of every size, against the words and against the library.
func TestReadMany(t *testing.T) {
	for _, s := range someLexemes(150) {
		checkRead(t, s)
	}
	for _, s := range someLexemes(6000) {
		if len(s) > api.MaxNumber || hexForm.MatchString(s) {
			continue
		}
		v, e := num.Read(s)
		want, err := strconv.ParseFloat(s, 64)
		if err != nil {
			want = 0
		}
		if (e == api.OK) != (err == nil) || num.Bits(v) != math.Float64bits(want) {
			t.Fatalf("Read(%q) = %v, %d; want %v", s, v, e, want)
		}
	}
}

// P2.1: Parse, the chapter's examples and edges.
func TestParseExamples(t *testing.T) {
	minus := math.Copysign(0, -1)
	for s, want := range map[string]float64{"-.5e1": -5, "+Inf": math.Inf(1), "-0": minus, "-inf": math.Inf(-1), "+0": 0, "0": 0, "-0x10": -16, "+0x10": 16, "-1e-400": minus, "iNF": math.Inf(1), "+nan": math.NaN(), "-NaN": math.NaN(), "NaN": math.NaN(), "-1.7976931348623158e308": -math.MaxFloat64, "-5e-324": -5e-324, "-1.": -1} {
		if v, ok := num.Parse(s); !ok || num.Bits(v) != num.Bits(want) {
			t.Errorf("Parse(%q) = %v, %v; want %v", s, v, ok, want)
		}
	}
	for _, s := range []string{"", "+", "-", "--1", "++1", "+-1", "-+1", "1-", "- 1", " 1", "1e400", "-1e400", "+1e400", "infinity", "-.", "1_0", "-x", "\xff", "−1"} {
		if v, ok := num.Parse(s); ok || num.Bits(v) != 0 {
			t.Errorf("Parse(%q) = %v, %v; want false", s, v, ok)
		}
	}
}

// P2.1: Parse counts the sign among the bytes of the text.
func TestParseLimit(t *testing.T) {
	for _, sign := range []string{"", "+", "-"} {
		fits := sign + strings.Repeat("0", api.MaxNumber-len(sign)-1) + "7"
		v, ok := num.Parse(fits)
		if !ok || math.Abs(v) != 7 || (v < 0) != (sign == "-") {
			t.Errorf("Parse of %d bytes with the sign %q = %v, %v", len(fits), sign, v, ok)
		}
		if v, ok := num.Parse(sign + "0" + fits[len(sign):]); ok || num.Bits(v) != 0 {
			t.Errorf("Parse of one byte more with the sign %q = %v, %v", sign, v, ok)
		}
	}
}

// P2.1: Parse is Read behind a sign, for every text.
func TestParseIsReadBehindASign(t *testing.T) {
	check := func(s string) {
		t.Helper()
		rest := s
		if s != "" && (s[0] == '+' || s[0] == '-') {
			rest = s[1:]
		}
		want, e := num.Read(rest)
		if s != rest && s[0] == '-' && e == api.OK {
			want = -want
		}
		if v, ok := num.Parse(s); ok != (e == api.OK) || num.Bits(v) != num.Bits(want) {
			t.Fatalf("Parse(%q) = %v, %v; want %v, %v", s, v, ok, want, e == api.OK)
		}
	}
	for s := range texts("01.e+-xf", 5) {
		check(s)
	}
	for _, s := range someLexemes(200) {
		if len(s) < api.MaxNumber {
			check(s)
			check("-" + s)
			check("+" + s)
		}
	}
}

// P2.1: Prefix.
func TestPrefix(t *testing.T) {
	for s, want := range map[string]int{"5m": 1, "1e5m": 3, "1e": 1, "0x1g": 3, "0x": 1, ".": 0, "1..2": 2, "inf": 0, "nan": 0, "": 0, "-1": 0, " 1": 0, "1e+": 1, "1.e": 2, "1.e-7d": 5, ".5.5": 2, ".e1": 0, "0x1e5": 5, "0X": 1, "0Xfg": 3, "0xfe-1": 4, "1x5": 1, "00x5": 2, "1\xff": 1} {
		if n := num.Prefix(s); n != want {
			t.Errorf("Prefix(%q) = %d; want %d", s, n, want)
		}
	}
	for s := range texts("01.e+-xA", 5) {
		if n, want := num.Prefix(s), prefix(s); n != want {
			t.Fatalf("Prefix(%q) = %d; want %d", s, n, want)
		}
	}
	for c := range 256 {
		for _, ahead := range []string{"", "0", "0x", "1e", "1e+", "1.", ".", "1.e", "0x1"} {
			s := ahead + string([]byte{byte(c)}) + "0"
			if n, want := num.Prefix(s), prefix(s); n != want {
				t.Errorf("Prefix(%q) = %d; want %d", s, n, want)
			}
		}
	}
}

// P2.1: Prefix doesn't ask MaxNumber.
func TestPrefixLong(t *testing.T) {
	const n = 1000000
	for s, want := range map[string]int{strings.Repeat("1", n): n, "0x" + strings.Repeat("f", n) + "g": n + 2, "." + strings.Repeat("0", n) + ".": n + 1, "1e" + strings.Repeat("9", n): n + 2, strings.Repeat(".", n): 0} {
		if got := num.Prefix(s); got != want {
			t.Errorf("Prefix(%.5q..) = %d; want %d", s, got, want)
		}
	}
}

// P2.4: reading keeps order.
func TestReadKeepsOrder(t *testing.T) {
	lexemes := append(someLexemes(40), "inf", "0", "0.0", "0x0", "1e-400", "2e-324", "3e-324", "1.7976931348623158e308")
	for _, bits := range []uint64{0, 1, 0x3FF0000000000000, 0x4340000000000000} {
		lexemes = append(lexemes, between(bits)...)
	}
	type taken struct {
		text   string
		value  *big.Rat // nil is inf
		number float64
	}
	var all []taken
	for _, s := range lexemes {
		v, e := num.Read(s)
		if e != api.OK {
			continue
		}
		if math.Signbit(v) {
			t.Errorf("Read(%q) = %v", s, v)
		}
		one := taken{text: s, number: v}
		if s != "inf" {
			one.value = value(s)
		}
		all = append(all, one)
	}
	for _, a := range all {
		for _, b := range all {
			if a.value != nil && (b.value == nil || a.value.Cmp(b.value) < 0) && a.number > b.number {
				t.Fatalf("%q is below %q, but %v isn't below %v", a.text, b.text, a.number, b.number)
			}
		}
	}
}
