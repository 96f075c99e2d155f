package word_test

import (
	"math"
	"math/big"
	"strconv"
	"strings"
	"testing"

	"fulling/api"
	"fulling/word"
)

const (
	smallest = math.MinInt64
	largest  = math.MaxInt64
)

// interestingWords lists the words around 0, around every power of two and around the ends of the range.
func interestingWords() []int64 {
	words := []int64{0, 7, -7, 10, -10, 1000003, -1000003, 0x5555555555555555, -0x5555555555555556}
	for shift := range 64 {
		power := int64(1) << shift
		words = append(words, power-1, power, power+1, -power-1, -power, -power+1)
	}
	return words
}

// wrap returns the word that is congruent to n modulo 2^64.
func wrap(n *big.Int) int64 {
	modulus := new(big.Int).Lsh(big.NewInt(1), 64)
	return int64(new(big.Int).Mod(n, modulus).Uint64())
}

func unsigned(a int64) *big.Int {
	return new(big.Int).SetUint64(uint64(a))
}

func indicator(holds bool) int64 {
	if holds {
		return 1
	}
	return 0
}

// expectedBinary computes the result of a binary operation with unbounded integers.
func expectedBinary(op int, a, b int64) int64 {
	x, y, z := big.NewInt(a), big.NewInt(b), new(big.Int)
	count := uint(new(big.Int).Mod(y, big.NewInt(64)).Uint64())
	switch op {
	case api.OpAdd:
		z.Add(x, y)
	case api.OpSub:
		z.Sub(x, y)
	case api.OpMul:
		z.Mul(x, y)
	case api.OpDiv:
		if b != 0 {
			z.Quo(x, y)
		}
	case api.OpRem:
		if b != 0 {
			z.Rem(x, y)
		}
	case api.OpAnd:
		z.And(x, y)
	case api.OpOr:
		z.Or(x, y)
	case api.OpXor:
		z.Xor(x, y)
	case api.OpShl:
		z.Lsh(x, count)
	case api.OpShr:
		z.Rsh(unsigned(a), count)
	case api.OpSar:
		z.Rsh(x, count)
	case api.OpEq:
		return indicator(x.Cmp(y) == 0)
	case api.OpNe:
		return indicator(x.Cmp(y) != 0)
	case api.OpLt:
		return indicator(x.Cmp(y) < 0)
	case api.OpLe:
		return indicator(x.Cmp(y) <= 0)
	case api.OpLtu:
		return indicator(unsigned(a).Cmp(unsigned(b)) < 0)
	}
	return wrap(z)
}

func isBinary(op int) bool {
	return op >= api.OpAdd && op <= api.OpLtu
}

// otherOperations lists numbers of operations in and out of the range of api, without those for which listed is true.
func otherOperations(listed func(op int) bool) []int {
	var ops []int
	for op := -70; op <= 300; op++ {
		if !listed(op) {
			ops = append(ops, op)
		}
	}
	return append(ops, math.MinInt, math.MaxInt, 1<<32+api.OpAdd, 1<<32+api.OpNeg)
}

// 1.1
func TestUnaryOperations(t *testing.T) {
	for _, c := range []struct {
		op      int
		a, want int64
	}{
		{api.OpNeg, 0, 0},
		{api.OpNeg, 1, -1},
		{api.OpNeg, -90, 90},
		{api.OpNeg, largest, smallest + 1},
		{api.OpNeg, smallest, smallest},
		{api.OpNot, 0, -1},
		{api.OpNot, -1, 0},
		{api.OpNot, 6, -7},
		{api.OpNot, smallest, largest},
		{api.OpNot, largest, smallest},
	} {
		if got := word.Unary(c.op, c.a); got != c.want {
			t.Errorf("Unary(%d, %d) = %d, want %d", c.op, c.a, got, c.want)
		}
	}
}

// 1.1
func TestUnaryAgreesWithUnboundedIntegers(t *testing.T) {
	for _, a := range interestingWords() {
		x := big.NewInt(a)
		if got, want := word.Unary(api.OpNeg, a), wrap(new(big.Int).Neg(x)); got != want {
			t.Errorf("Unary(OpNeg, %d) = %d, want %d", a, got, want)
		}
		if got, want := word.Unary(api.OpNot, a), wrap(new(big.Int).Not(x)); got != want {
			t.Errorf("Unary(OpNot, %d) = %d, want %d", a, got, want)
		}
	}
}

// 1.1
func TestUnaryReturnsZeroForOtherOperations(t *testing.T) {
	isUnary := func(op int) bool { return op == api.OpNeg || op == api.OpNot }
	for _, op := range otherOperations(isUnary) {
		for _, a := range []int64{0, 1, -1, 5, smallest, largest} {
			if got := word.Unary(op, a); got != 0 {
				t.Errorf("Unary(%d, %d) = %d, want 0", op, a, got)
			}
		}
	}
}

// 1.1
func TestBinaryOperations(t *testing.T) {
	for _, c := range []struct {
		op         int
		a, b, want int64
	}{
		{api.OpAdd, 2, 3, 5},
		{api.OpAdd, largest, 1, smallest},
		{api.OpAdd, smallest, smallest, 0},
		{api.OpSub, 2, 3, -1},
		{api.OpSub, 0, smallest, smallest},
		{api.OpSub, smallest, 1, largest},
		{api.OpMul, -6, 7, -42},
		{api.OpMul, 1 << 32, 1 << 32, 0},
		{api.OpMul, 1 << 32, 1 << 31, smallest},
		{api.OpMul, largest, largest, 1},
		{api.OpDiv, 7, 2, 3},
		{api.OpDiv, -7, 2, -3},
		{api.OpDiv, 7, -2, -3},
		{api.OpDiv, -7, -2, 3},
		{api.OpDiv, 0, 0, 0},
		{api.OpDiv, -7, 0, 0},
		{api.OpDiv, smallest, 0, 0},
		{api.OpDiv, smallest, -1, smallest},
		{api.OpDiv, largest, -1, -largest},
		{api.OpRem, 7, 2, 1},
		{api.OpRem, -7, 2, -1},
		{api.OpRem, 7, -2, 1},
		{api.OpRem, -7, -2, -1},
		{api.OpRem, 0, 0, 0},
		{api.OpRem, -7, 0, 0},
		{api.OpRem, smallest, 0, 0},
		{api.OpRem, smallest, -1, 0},
		{api.OpRem, 3, smallest, 3},
		{api.OpAnd, -4, 7, 4},
		{api.OpOr, -4, 2, -2},
		{api.OpXor, -4, 7, -5},
		{api.OpXor, smallest, largest, -1},
	} {
		if got := word.Binary(c.op, c.a, c.b); got != c.want {
			t.Errorf("Binary(%d, %d, %d) = %d, want %d", c.op, c.a, c.b, got, c.want)
		}
	}
}

// 1.1
func TestShiftsUseTheLowestSixBitsOfTheCount(t *testing.T) {
	for _, c := range []struct {
		op         int
		a, b, want int64
	}{
		{api.OpShl, 1, 0, 1},
		{api.OpShl, 1, 63, smallest},
		{api.OpShl, 1, 64, 1},
		{api.OpShl, 1, 65, 2},
		{api.OpShl, 3, -1, smallest},
		{api.OpShl, 3, -64, 3},
		{api.OpShl, 3, smallest, 3},
		{api.OpShl, 3, largest, smallest},
		{api.OpShr, -1, 0, -1},
		{api.OpShr, -1, 1, largest},
		{api.OpShr, -1, 63, 1},
		{api.OpShr, -1, 64, -1},
		{api.OpShr, -16, 130, 1<<62 - 4},
		{api.OpShr, smallest, -1, 1},
		{api.OpShr, smallest, -63, 1 << 62},
		{api.OpSar, -1, 0, -1},
		{api.OpSar, -16, 2, -4},
		{api.OpSar, 16, 2, 4},
		{api.OpSar, -16, 66, -4},
		{api.OpSar, smallest, 63, -1},
		{api.OpSar, largest, 63, 0},
		{api.OpSar, smallest, -1, -1},
		{api.OpSar, -8, -64, -8},
	} {
		if got := word.Binary(c.op, c.a, c.b); got != c.want {
			t.Errorf("Binary(%d, %d, %d) = %d, want %d", c.op, c.a, c.b, got, c.want)
		}
	}
}

// 1.1
func TestComparisons(t *testing.T) {
	for _, c := range []struct {
		a, b                int64
		eq, ne, lt, le, ltu int64
	}{
		{0, 0, 1, 0, 0, 1, 0},
		{1, 2, 0, 1, 1, 1, 1},
		{2, 1, 0, 1, 0, 0, 0},
		{-1, 0, 0, 1, 1, 1, 0},
		{0, -1, 0, 1, 0, 0, 1},
		{-2, -1, 0, 1, 1, 1, 1},
		{-1, -1, 1, 0, 0, 1, 0},
		{smallest, largest, 0, 1, 1, 1, 0},
		{largest, smallest, 0, 1, 0, 0, 1},
		{smallest, -1, 0, 1, 1, 1, 1},
		{0, 1 << 32, 0, 1, 1, 1, 1},
	} {
		for op, want := range map[int]int64{api.OpEq: c.eq, api.OpNe: c.ne, api.OpLt: c.lt, api.OpLe: c.le, api.OpLtu: c.ltu} {
			if got := word.Binary(op, c.a, c.b); got != want {
				t.Errorf("Binary(%d, %d, %d) = %d, want %d", op, c.a, c.b, got, want)
			}
		}
	}
}

// 1.1
func TestBinaryAgreesWithUnboundedIntegers(t *testing.T) {
	words := interestingWords()
	for op := api.OpAdd; op <= api.OpLtu; op++ {
		for _, a := range words {
			for _, b := range words {
				if got, want := word.Binary(op, a, b), expectedBinary(op, a, b); got != want {
					t.Fatalf("Binary(%d, %d, %d) = %d, want %d", op, a, b, got, want)
				}
			}
		}
	}
}

// 1.1
func TestRemainderFitsTheQuotient(t *testing.T) {
	words := interestingWords()
	for _, a := range words {
		for _, b := range words {
			want := a - word.Binary(api.OpDiv, a, b)*b
			if b == 0 {
				want = 0
			}
			if got := word.Binary(api.OpRem, a, b); got != want {
				t.Fatalf("Binary(OpRem, %d, %d) = %d, want %d", a, b, got, want)
			}
		}
	}
}

// 1.1
func TestBinaryReturnsZeroForOtherOperations(t *testing.T) {
	for _, op := range otherOperations(isBinary) {
		for _, a := range []int64{0, 1, -1, 5, smallest, largest} {
			for _, b := range []int64{0, 1, -1, 5, smallest, largest} {
				if got := word.Binary(op, a, b); got != 0 {
					t.Errorf("Binary(%d, %d, %d) = %d, want 0", op, a, b, got)
				}
			}
		}
	}
}

// 1.2
func TestTextAndParseAreInverse(t *testing.T) {
	for _, c := range []struct {
		n int64
		s string
	}{
		{0, "0"},
		{7, "7"},
		{-7, "-7"},
		{10, "10"},
		{-100, "-100"},
		{1234567890123456789, "1234567890123456789"},
		{largest - 1, "9223372036854775806"},
		{largest, "9223372036854775807"},
		{smallest + 1, "-9223372036854775807"},
		{smallest, "-9223372036854775808"},
	} {
		checkText(t, c.n, c.s)
	}
	for _, n := range interestingWords() {
		checkText(t, n, big.NewInt(n).String())
	}
}

func checkText(t *testing.T, n int64, s string) {
	t.Helper()
	if got := word.Text(n); got != s {
		t.Errorf("Text(%d) = %q, want %q", n, got, s)
	}
	if got, ok := word.Parse(s); got != n || !ok {
		t.Errorf("Parse(%q) = %d, %v, want %d, true", s, got, ok, n)
	}
}

func checkRejected(t *testing.T, s string) {
	t.Helper()
	if n, ok := word.Parse(s); n != 0 || ok {
		t.Errorf("Parse(%q) = %d, %v, want 0, false", s, n, ok)
	}
}

// 1.2
func TestParseRejectsOtherTexts(t *testing.T) {
	for _, s := range []string{
		"", "-", "--", "+", "+0", "+1", "-+1", "+-1", "--1", "1-", "1-1",
		"-0", "00", "01", "007", "-00", "-01", "0-",
		" ", " 1", "1 ", "1 2", "\t1", "1\n", "1\x00", "\x001",
		"a", "1a", "a1", "0x1", "0b1", "0o7", "1_000", "1,000", "1.0", "1e3", "1/", "1:", "/", ":",
		"\xff", "1\xff", "\u0661", "\u2212" + "1", "\uff11", "true", "1;",
	} {
		checkRejected(t, s)
	}
}

// 1.2
func TestParseRejectsNumbersOutOfRange(t *testing.T) {
	for _, s := range []string{
		"9223372036854775808", "-9223372036854775809", "9999999999999999999", "-9999999999999999999",
		"18446744073709551615", "18446744073709551616", "18446744073709551617", "-18446744073709551616", "-18446744073709551615",
		"92233720368547758070", "-92233720368547758080", "100000000000000000000",
		"340282366920938463463374607431768211456", "340282366920938463463374607431768211457",
		"000000000000000000000000001", strings.Repeat("9", 5000), "-" + strings.Repeat("1", 5000), strings.Repeat("0", 5000),
	} {
		checkRejected(t, s)
	}
	modulus := new(big.Int).Lsh(big.NewInt(1), 64)
	for _, n := range interestingWords() {
		checkRejected(t, new(big.Int).Add(big.NewInt(n), modulus).String())
		checkRejected(t, new(big.Int).Sub(big.NewInt(n), modulus).String())
	}
}

// 1.2
func TestParseDecidesAllShortTexts(t *testing.T) {
	const characters = "-+019 a/:\xff"
	texts := []string{""}
	for start, length := 0, 0; length < 4; length++ {
		end := len(texts)
		for ; start < end; start++ {
			for i := range len(characters) {
				texts = append(texts, texts[start]+characters[i:i+1])
			}
		}
	}
	for _, s := range texts {
		want, err := strconv.ParseInt(s, 10, 64)
		if err == nil && strconv.FormatInt(want, 10) == s {
			checkText(t, want, s)
		} else {
			checkRejected(t, s)
		}
	}
}
