package tests

import (
	"math"
	"testing"

	"loop.example/g00849/impl"
)

// productOf follows the definition: the sum of the doubles of a at the bits of b.
func productOf(a, b int64) int64 {
	sum := int64(0)
	for i := range 8 {
		if b>>i&1 == 1 {
			sum ^= a
		}
		if a *= 2; a > 255 {
			a ^= 285
		}
	}
	return sum
}

// products returns the table of GfMul.
func products(t *testing.T) *[256][256]int64 {
	t.Helper()
	var table [256][256]int64
	for a := range int64(256) {
		for b := range int64(256) {
			table[a][b] = mul(t, a, b)
		}
	}
	return &table
}

// P5: products are those of the definition; they commute.
func TestProductsAreAsDefined(t *testing.T) {
	table := products(t)
	for a := range int64(256) {
		for b := range int64(256) {
			if table[a][b] != productOf(a, b) || table[a][b] != table[b][a] {
				t.Fatalf("GfMul(%d, %d) = %d; want %d", a, b, table[a][b], productOf(a, b))
			}
		}
	}
}

// P5: products associate and distribute over sums.
func TestProductsAssociateAndDistribute(t *testing.T) {
	table := products(t)
	for a := range 256 {
		for b := range 256 {
			for c := range 256 {
				if table[table[a][b]][c] != table[a][table[b][c]] {
					t.Fatalf("(%d * %d) * %d", a, b, c)
				}
				if table[a][b^c] != table[a][b]^table[a][c] {
					t.Fatalf("%d * (%d + %d)", a, b, c)
				}
			}
		}
	}
}

// P5: sums are bitwise; they commute and associate, and each element is its own negative.
func TestSums(t *testing.T) {
	for a := range int64(256) {
		for b := range int64(256) {
			sum, code := impl.GfAdd(a, b)
			wantNumber(t, "GfAdd", sum, code, a^b, impl.OK)
			back, code := impl.GfAdd(b, sum)
			wantNumber(t, "GfAdd of a sum", back, code, a, impl.OK)
		}
	}
}

// P5: division inverts multiplication.
func TestQuotients(t *testing.T) {
	for b := int64(1); b < 256; b++ {
		inverse, code := impl.GfInv(b)
		if code != impl.OK || productOf(b, inverse) != 1 {
			t.Fatalf("GfInv(%d) = %d, code %d", b, inverse, code)
		}
		for a := range int64(256) {
			quotient, code := impl.GfDiv(a, b)
			wantNumber(t, "GfDiv", quotient, code, productOf(a, inverse), impl.OK)
			if productOf(quotient, b) != a {
				t.Fatalf("GfDiv(%d, %d) = %d", a, b, quotient)
			}
		}
	}
}

func TestFieldExamples(t *testing.T) {
	sum, code := impl.GfAdd(200, 1)
	wantNumber(t, "GfAdd(200, 1)", sum, code, 201, impl.OK)
	for _, v := range []struct{ a, b, want int64 }{{2, 128, 29}, {3, 7, 9}, {255, 255, 226}, {200, 1, 200}, {0, 255, 0}, {1, 1, 1}} {
		got, code := impl.GfMul(v.a, v.b)
		wantNumber(t, "GfMul", got, code, v.want, impl.OK)
	}
	for a, want := range map[int64]int64{1: 1, 2: 142, 3: 244, 255: 253, 142: 2} {
		got, code := impl.GfInv(a)
		wantNumber(t, "GfInv", got, code, want, impl.OK)
	}
	got, code := impl.GfDiv(200, 7)
	wantNumber(t, "GfDiv(200, 7)", got, code, 71, impl.OK)
	got, code = impl.GfDiv(0, 7)
	wantNumber(t, "GfDiv(0, 7)", got, code, 0, impl.OK)
	got, code = impl.GfPow(2, 8)
	wantNumber(t, "GfPow(2, 8)", got, code, 29, impl.OK)
	for a, want := range map[int64]int64{1: 0, 2: 1, 3: 25, 29: 8, 142: 254, 255: 175} {
		got, code := impl.GfLog(a)
		wantNumber(t, "GfLog", got, code, want, impl.OK)
	}
}

// P5: each power is the one before it times the base; the power 0 is 1, also of 0.
func TestPowers(t *testing.T) {
	for a := range int64(256) {
		want := int64(1)
		for n := range int64(600) {
			got, code := impl.GfPow(a, n)
			wantNumber(t, "GfPow", got, code, want, impl.OK)
			want = productOf(want, a)
		}
	}
}

// The powers of a nonzero element return after 255 steps.
func TestPowersOfLargeNumbers(t *testing.T) {
	for a := range int64(256) {
		for _, n := range []int64{1 << 31, 1<<32 - 1, 1 << 32, 255 * 1000003, 1 << 62, math.MaxInt64 - 1, math.MaxInt64} {
			want := int64(0)
			if a != 0 {
				want, _ = impl.GfPow(a, n%255)
			}
			got, code := impl.GfPow(a, n)
			wantNumber(t, "GfPow of a large number", got, code, want, impl.OK)
		}
	}
}

// P5: every nonzero element is a power of 2; the least exponent is found.
func TestLogarithms(t *testing.T) {
	power := int64(1)
	for n := range int64(255) {
		got, code := impl.GfLog(power)
		wantNumber(t, "GfLog", got, code, n, impl.OK)
		power = productOf(power, 2)
	}
	if power != 1 {
		t.Errorf("2 to the power 255 is %d", power)
	}
}

func TestScaleAndSum(t *testing.T) {
	scaled, code := impl.GfScale(2, "\x01\x80\x00")
	wantText(t, "GfScale", scaled, code, "\x02\x1d\x00", impl.OK)
	sum, code := impl.GfSum("\x01\x02", "\x03\x02")
	wantText(t, "GfSum", sum, code, "\x02\x00", impl.OK)
	sum, code = impl.GfSum("", "")
	wantText(t, "GfSum", sum, code, "", impl.OK)
	all := make([]byte, 256)
	for i := range all {
		all[i] = byte(i)
	}
	for a := range int64(256) {
		want, wantSum := make([]byte, 256), make([]byte, 256)
		for i := range want {
			want[i] = byte(productOf(a, int64(i)))
			wantSum[i] = want[i] ^ byte(i)
		}
		scaled, code := impl.GfScale(a, string(all))
		wantText(t, "GfScale", scaled, code, string(want), impl.OK)
		sum, code := impl.GfSum(scaled, string(all))
		wantText(t, "GfSum", sum, code, string(wantSum), impl.OK)
		empty, code := impl.GfScale(a, "")
		wantText(t, "GfScale", empty, code, "", impl.OK)
	}
}

func TestNothingIsDividedByZero(t *testing.T) {
	got, code := impl.GfInv(0)
	wantNumber(t, "GfInv(0)", got, code, 0, impl.ErrNone)
	got, code = impl.GfLog(0)
	wantNumber(t, "GfLog(0)", got, code, 0, impl.ErrNone)
	for a := range int64(256) {
		got, code = impl.GfDiv(a, 0)
		wantNumber(t, "GfDiv by 0", got, code, 0, impl.ErrNone)
	}
}

func TestOutsideTheField(t *testing.T) {
	wantRange := func(name string, got, code int64) {
		t.Helper()
		wantNumber(t, name, got, code, 0, impl.ErrRange)
	}
	for _, n := range notElements() {
		for name, f := range map[string]func(a, b int64) (int64, int64){"GfAdd": impl.GfAdd, "GfMul": impl.GfMul, "GfDiv": impl.GfDiv} {
			for _, other := range []int64{0, 1, 255, n} {
				got, code := f(n, other)
				wantRange(name, got, code)
				got, code = f(other, n)
				wantRange(name, got, code)
			}
		}
		for _, power := range []int64{-1, 0, 1, 255} {
			got, code := impl.GfPow(n, power)
			wantRange("GfPow", got, code)
		}
		got, code := impl.GfInv(n)
		wantRange("GfInv", got, code)
		got, code = impl.GfLog(n)
		wantRange("GfLog", got, code)
		for _, s := range []string{"", "abc"} {
			scaled, code := impl.GfScale(n, s)
			wantText(t, "GfScale", scaled, code, "", impl.ErrRange)
		}
	}
}

func TestNegativePowers(t *testing.T) {
	for _, n := range []int64{-1, -2, -255, math.MinInt64} {
		for _, a := range []int64{0, 1, 2, 255} {
			got, code := impl.GfPow(a, n)
			wantNumber(t, "GfPow of a negative number", got, code, 0, impl.ErrRange)
		}
	}
}

func TestSumOfUnequalLengths(t *testing.T) {
	for _, v := range [][2]string{{"a", ""}, {"", "a"}, {"ab", "a"}, {"a", "ab"}, {"abc", "ab"}} {
		sum, code := impl.GfSum(v[0], v[1])
		wantText(t, "GfSum", sum, code, "", impl.ErrForm)
	}
}
