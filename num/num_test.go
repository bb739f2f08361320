package num_test

import (
	"fmt"
	"math"
	"math/big"
	"slices"
	"testing"

	"cadency/num"
)

const (
	top      = uint64(math.MaxUint64)
	half     = uint64(1) << 63
	root     = uint64(1) << 32
	leastInt = math.MinInt
	mostInt  = math.MaxInt
)

type told struct {
	n  uint64
	ok bool
}

func tell(n uint64, ok bool) told { return told{n, ok} }

func want(t *testing.T, what string, got, wanted told) {
	t.Helper()
	if got != wanted {
		t.Errorf("%s: %d %v, want %d %v", what, got.n, got.ok, wanted.n, wanted.ok)
	}
}

// edges are numbers near all powers of 2, and some others with many divisors, or few.
func edges() []uint64 {
	l := []uint64{0, 5, 6, 7, 10, 12, 18, 60, 97, 720720, 1000000007, 6148914691236517205, 18446744073709551557, top - 1, top}
	for k := range 64 {
		l = append(l, 1<<k-1, 1<<k, 1<<k+1)
	}
	slices.Sort(l)
	return slices.Compact(l)
}

func wide(n uint64) *big.Int { return new(big.Int).SetUint64(n) }

// checked is what a call that checks should tell of an exact number.
func checked(n *big.Int) told {
	if !n.IsUint64() {
		return told{0, false}
	}
	return told{n.Uint64(), true}
}

// atEnd is what a call that stays at its end should tell of an exact number.
func atEnd(n *big.Int) uint64 {
	if !n.IsUint64() {
		return top
	}
	return n.Uint64()
}

// P1.1

func TestAdd(t *testing.T) {
	for _, c := range []struct {
		a, b   uint64
		wanted told
	}{
		{0, 0, told{0, true}},
		{2, 3, told{5, true}},
		{0, top, told{top, true}},
		{top, 0, told{top, true}},
		{top - 1, 1, told{top, true}},
		{half, half - 1, told{top, true}},
		{top, 1, told{0, false}},
		{1, top, told{0, false}},
		{half, half, told{0, false}},
		{top, top, told{0, false}},
	} {
		want(t, fmt.Sprint("Add ", c.a, c.b), tell(num.Add(c.a, c.b)), c.wanted)
	}
}

func TestMul(t *testing.T) {
	for _, c := range []struct {
		a, b   uint64
		wanted told
	}{
		{0, 0, told{0, true}},
		{0, top, told{0, true}},
		{top, 0, told{0, true}},
		{6, 7, told{42, true}},
		{1, top, told{top, true}},
		{top, 1, told{top, true}},
		{root - 1, root + 1, told{top, true}},
		{3, 6148914691236517205, told{top, true}},
		{half, 1, told{half, true}},
		{root, root, told{0, false}},
		{half, 2, told{0, false}},
		{2, half, told{0, false}},
		{3, 6148914691236517206, told{0, false}},
		{top, top, told{0, false}},
	} {
		want(t, fmt.Sprint("Mul ", c.a, c.b), tell(num.Mul(c.a, c.b)), c.wanted)
	}
}

func TestShift(t *testing.T) {
	for _, c := range []struct {
		a      uint64
		n      int
		wanted told
	}{
		{5, 0, told{5, true}},
		{top, 0, told{top, true}},
		{5, 1, told{10, true}},
		{5, -1, told{2, true}},
		{1, 63, told{half, true}},
		{3, 62, told{3 << 62, true}},
		{3, 63, told{0, false}},
		{2, 63, told{0, false}},
		{1, 64, told{0, false}},
		{1, 65, told{0, false}},
		{top, 1, told{0, false}},
		{half, 1, told{0, false}},
		{half - 1, 1, told{top - 1, true}},
		{1, mostInt, told{0, false}},
		{top, mostInt, told{0, false}},
		{0, 0, told{0, true}},
		{0, 63, told{0, true}},
		{0, 64, told{0, true}},
		{0, 65, told{0, true}},
		{0, mostInt, told{0, true}},
		{0, -1, told{0, true}},
		{0, leastInt, told{0, true}},
		{1, -1, told{0, true}},
		{top, -1, told{half - 1, true}},
		{top, -63, told{1, true}},
		{half, -63, told{1, true}},
		{half - 1, -63, told{0, true}},
		{top, -64, told{0, true}},
		{top, -65, told{0, true}},
		{top, -128, told{0, true}},
		{top, leastInt + 1, told{0, true}},
		{top, leastInt, told{0, true}},
		{1, leastInt, told{0, true}},
	} {
		want(t, fmt.Sprint("Shift ", c.a, c.n), tell(num.Shift(c.a, c.n)), c.wanted)
	}
}

func TestCeil(t *testing.T) {
	for _, c := range []struct {
		a, b   uint64
		wanted told
	}{
		{7, 2, told{4, true}},
		{8, 2, told{4, true}},
		{9, 3, told{3, true}},
		{0, 1, told{0, true}},
		{0, 7, told{0, true}},
		{1, 7, told{1, true}},
		{7, 7, told{1, true}},
		{8, 7, told{2, true}},
		{top, 1, told{top, true}},
		{top, 2, told{half, true}},
		{top - 1, top, told{1, true}},
		{top, top, told{1, true}},
		{top, top - 1, told{2, true}},
		{0, top, told{0, true}},
		{0, 0, told{0, false}},
		{7, 0, told{0, false}},
		{top, 0, told{0, false}},
	} {
		want(t, fmt.Sprint("Ceil ", c.a, c.b), tell(num.Ceil(c.a, c.b)), c.wanted)
	}
}

func TestCheckedAreExact(t *testing.T) {
	for _, a := range edges() {
		for n := -70; n <= 70; n++ {
			exact := new(big.Int)
			if n < 0 {
				exact.Rsh(wide(a), uint(-n))
			} else {
				exact.Lsh(wide(a), uint(n))
			}
			want(t, fmt.Sprint("Shift ", a, n), tell(num.Shift(a, n)), checked(exact))
		}
		for _, b := range edges() {
			want(t, fmt.Sprint("Add ", a, b), tell(num.Add(a, b)), checked(new(big.Int).Add(wide(a), wide(b))))
			want(t, fmt.Sprint("Mul ", a, b), tell(num.Mul(a, b)), checked(new(big.Int).Mul(wide(a), wide(b))))
			if b != 0 {
				above := new(big.Int).Add(wide(a), wide(b-1))
				want(t, fmt.Sprint("Ceil ", a, b), tell(num.Ceil(a, b)), checked(above.Div(above, wide(b))))
			}
		}
	}
}

// P1.2

func TestGcd(t *testing.T) {
	for _, c := range []struct{ a, b, wanted uint64 }{
		{12, 18, 6},
		{18, 12, 6},
		{7, 7, 7},
		{8, 2, 2},
		{2, 8, 2},
		{9, 4, 1},
		{1, top, 1},
		{top, top, top},
		{top, top - 1, 1},
		{half, 1 << 40, 1 << 40},
		{top, root + 1, root + 1},
		{12200160415121876738, 7540113804746346429, 1}, // neighbours of Fibonacci's row: the most steps
		{0, 7, 7},
		{7, 0, 7},
		{0, top, top},
		{top, 0, top},
		{0, 1, 1},
		{0, 0, 0},
	} {
		if got := num.Gcd(c.a, c.b); got != c.wanted {
			t.Errorf("Gcd %d %d: %d, want %d", c.a, c.b, got, c.wanted)
		}
	}
}

func TestLcm(t *testing.T) {
	for _, c := range []struct {
		a, b   uint64
		wanted told
	}{
		{4, 6, told{12, true}},
		{6, 4, told{12, true}},
		{1, 1, told{1, true}},
		{7, 7, told{7, true}},
		{5, 7, told{35, true}},
		{3, 9, told{9, true}},
		{1, top, told{top, true}},
		{top, top, told{top, true}},
		{half, 1 << 62, told{half, true}},
		{1 << 62, half, told{half, true}},
		{root - 1, root + 1, told{top, true}},
		{half, 3, told{0, false}},
		{3, half, told{0, false}},
		{top, top - 1, told{0, false}},
		{top, 2, told{0, false}},
		{0, 7, told{0, false}},
		{7, 0, told{0, false}},
		{0, top, told{0, false}},
		{top, 0, told{0, false}},
		{0, 0, told{0, false}},
	} {
		want(t, fmt.Sprint("Lcm ", c.a, c.b), tell(num.Lcm(c.a, c.b)), c.wanted)
	}
}

func TestDivisorsAreExact(t *testing.T) {
	for _, a := range edges() {
		for _, b := range edges() {
			great := new(big.Int).GCD(nil, nil, wide(a), wide(b))
			if got := num.Gcd(a, b); got != great.Uint64() {
				t.Errorf("Gcd %d %d: %d, want %d", a, b, got, great)
			}
			if a == 0 || b == 0 {
				continue
			}
			least := new(big.Int).Mul(wide(a), wide(b))
			want(t, fmt.Sprint("Lcm ", a, b), tell(num.Lcm(a, b)), checked(least.Div(least, great)))
		}
	}
}

// The least one is looked for among all, so that it hangs on no rule about products.
func TestDivisorsOfSmallNumbers(t *testing.T) {
	for a := uint64(1); a <= 40; a++ {
		for b := uint64(1); b <= 40; b++ {
			great, least := min(a, b), max(a, b)
			for a%great != 0 || b%great != 0 {
				great--
			}
			for least%a != 0 || least%b != 0 {
				least++
			}
			if got := num.Gcd(a, b); got != great {
				t.Errorf("Gcd %d %d: %d, want %d", a, b, got, great)
			}
			want(t, fmt.Sprint("Lcm ", a, b), tell(num.Lcm(a, b)), told{least, true})
		}
	}
}

// P1.3

func TestSum(t *testing.T) {
	for _, c := range []struct {
		first  uint64
		more   []uint64
		wanted uint64
	}{
		{0, nil, 0},
		{5, nil, 5},
		{5, []uint64{}, 5},
		{top, nil, top},
		{1, []uint64{2, 3}, 6},
		{0, []uint64{0, 0, 0}, 0},
		{top - 3, []uint64{1, 1, 1}, top},
		{top - 3, []uint64{1, 1, 1, 1}, top},
		{top - 3, []uint64{1, 1, 1, 1, 7}, top},
		{top, []uint64{0}, top},
		{top, []uint64{1}, top},
		{top, []uint64{2}, top},
		{1, []uint64{top}, top},
		{0, []uint64{top}, top},
		{0, []uint64{top, top, 2}, top},
		{half, []uint64{half}, top},
		{half, []uint64{half, 5, 0}, top},
		{half, []uint64{half - 1}, top},
		{half, []uint64{half - 2}, top - 1},
	} {
		before := slices.Clone(c.more)
		if got := num.Sum(c.first, c.more...); got != c.wanted {
			t.Errorf("Sum %d %v: %d, want %d", c.first, c.more, got, c.wanted)
		}
		if !slices.Equal(before, c.more) {
			t.Errorf("Sum %d %v: what was handed in is %v now", c.first, before, c.more)
		}
	}
}

func TestSumOfMany(t *testing.T) {
	more := make([]uint64, 1<<16)
	for i := range more {
		more[i] = 1 << 48
	}
	if got := num.Sum(0, more...); got != top {
		t.Errorf("Sum of 2^16 times 2^48: %d, want %d", got, top)
	}
	if got, wanted := num.Sum(0, more[1:]...), top-1<<48+1; got != wanted {
		t.Errorf("Sum of 2^16 less 1 times 2^48: %d, want %d", got, wanted)
	}
	if got := num.Sum(1<<48-1, more[1:]...); got != top {
		t.Errorf("Sum that just fits: %d, want %d", got, top)
	}
}

func TestTimes(t *testing.T) {
	for _, c := range []struct{ a, b, wanted uint64 }{
		{0, 0, 0},
		{0, top, 0},
		{top, 0, 0},
		{6, 7, 42},
		{1, top, top},
		{half - 1, 2, top - 1},
		{root - 1, root + 1, top},
		{root, root, top},
		{root + 1, root, top},
		{1 << 40, 1 << 40, top},
		{half, 2, top},
		{2, half, top},
		{top, top, top},
	} {
		if got := num.Times(c.a, c.b); got != c.wanted {
			t.Errorf("Times %d %d: %d, want %d", c.a, c.b, got, c.wanted)
		}
	}
}

func TestEndsAreExact(t *testing.T) {
	for _, a := range edges() {
		for _, b := range edges() {
			if got, wanted := num.Times(a, b), atEnd(new(big.Int).Mul(wide(a), wide(b))); got != wanted {
				t.Errorf("Times %d %d: %d, want %d", a, b, got, wanted)
			}
			sum := new(big.Int).Add(wide(a), wide(b))
			if got, wanted := num.Sum(a, b), atEnd(sum); got != wanted {
				t.Errorf("Sum %d %d: %d, want %d", a, b, got, wanted)
			}
			if got, wanted := num.Sum(a, b, a), atEnd(sum.Add(sum, wide(a))); got != wanted {
				t.Errorf("Sum %d %d %d: %d, want %d", a, b, a, got, wanted)
			}
		}
	}
}

// P1.4

type (
	tiny  int8
	plain uint32
)

func fits[T num.Small](t *testing.T, name string, low, high int64) {
	t.Helper()
	l := []int64{0, 1, -1, 5, -5, math.MinInt64, math.MinInt64 + 1, math.MaxInt64, math.MaxInt64 - 1, 6148914691236517205}
	for k := range 63 {
		p := int64(1) << k
		l = append(l, p-1, p, p+1, -p-1, -p, -p+1)
	}
	for _, end := range []int64{low, high} {
		for k := range 63 { // alike in their low bits
			l = append(l, end+1<<k, end-1<<k)
		}
	}
	l = append(l, low-1, low, low+1, high-1, high, high+1)
	for _, n := range l {
		got, ok := num.Fit[T](n)
		if inside := low <= n && n <= high; ok != inside {
			t.Errorf("Fit[%s] %d: %v, want %v", name, n, ok, inside)
		}
		if ok && int64(got) != n || !ok && got != 0 {
			t.Errorf("Fit[%s] %d: %d", name, n, got)
		}
	}
}

func TestFit(t *testing.T) {
	fits[int8](t, "int8", -1<<7, 1<<7-1)
	fits[int16](t, "int16", -1<<15, 1<<15-1)
	fits[int32](t, "int32", -1<<31, 1<<31-1)
	fits[uint8](t, "uint8", 0, 1<<8-1)
	fits[uint16](t, "uint16", 0, 1<<16-1)
	fits[uint32](t, "uint32", 0, 1<<32-1)
	fits[tiny](t, "tiny", -1<<7, 1<<7-1)
	fits[plain](t, "plain", 0, 1<<32-1)
}

// What the document shows.

func ExampleCeil() {
	fmt.Println(num.Ceil(7, 2))
	fmt.Println(num.Lcm(4, 6))
	fmt.Println(num.Shift(5, -1))
	// Output:
	// 4 true
	// 12 true
	// 2 true
}

func ExampleSum() {
	fmt.Println(num.Sum(math.MaxUint64, 2) == math.MaxUint64)
	fmt.Println(num.Fit[int8](128))
	// Output:
	// true
	// 0 false
}
