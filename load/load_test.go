package load_test

import (
	"fmt"
	"math"
	"math/big"
	"math/rand"
	"slices"
	"testing"

	"cadency/api"
	"cadency/load"
)

const (
	least = math.MinInt64
	most  = math.MaxInt64
	top   = uint64(math.MaxUint64)
	root  = int64(1) << 32
	third = most/3*2 + 1 // of top, which is three times that
)

// frac is a fraction as it stands.
func frac(a, b uint64) api.Frac { return api.Frac{Num: a, Den: b} }

// needs is a task that works c of each t ticks.
func needs(c, t int64) api.Task { return api.Task{C: c, T: t} }

// tasks are some, from C and T by turns.
func tasks(ct ...int64) []api.Task {
	var l []api.Task
	for i := 0; i+1 < len(ct); i += 2 {
		l = append(l, needs(ct[i], ct[i+1]))
	}
	return l
}

// periods are tasks that have but a T.
func periods(ts ...int64) []api.Task {
	var l []api.Task
	for _, t := range ts {
		l = append(l, api.Task{T: t})
	}
	return l
}

func shown(l []api.Task) string {
	s := ""
	for i, t := range l[:min(len(l), 12)] {
		if i > 0 {
			s += ", "
		}
		s += fmt.Sprint(t.C, " by ", t.T)
	}
	return fmt.Sprintf("%d tasks (%s)", len(l), s)
}

// The models: what the chapter's words say, in numbers of any size.

type total struct {
	f api.Frac
	e api.Errno
}

type told struct {
	n  uint64
	ok bool
}

func wide(n uint64) *big.Int { return new(big.Int).SetUint64(n) }

// modelForm is the form of a by b, which fits.
func modelForm(a, b *big.Int) api.Frac {
	r := new(big.Rat).SetFrac(a, b)
	return frac(r.Num().Uint64(), r.Denom().Uint64())
}

func modelOf(t api.Task) api.Frac {
	if t.C < 0 || t.T < 1 {
		return frac(0, 0)
	}
	return modelForm(big.NewInt(t.C), big.NewInt(t.T))
}

func modelLcm(a, b *big.Int) *big.Int {
	m := new(big.Int).Mul(a, b)
	return m.Div(m, new(big.Int).GCD(nil, nil, a, b))
}

func modelSum(l []api.Task) total {
	for _, t := range l {
		if modelOf(t) == frac(0, 0) {
			return total{e: api.ErrArg}
		}
	}
	sum := frac(0, 1)
	for _, t := range l {
		of := modelOf(t)
		a, b, c, d := wide(sum.Num), wide(sum.Den), wide(of.Num), wide(of.Den)
		m := modelLcm(b, d)
		left := new(big.Int).Mul(a, new(big.Int).Div(m, b))
		right := new(big.Int).Mul(c, new(big.Int).Div(m, d))
		both := new(big.Int).Add(left, right)
		for _, n := range []*big.Int{m, left, right, both} {
			if !n.IsUint64() {
				return total{e: api.ErrOver}
			}
		}
		sum = modelForm(both, m)
	}
	return total{f: sum}
}

// exactSum is what all need together, however great it is.
func exactSum(l []api.Task) *big.Rat {
	sum := new(big.Rat)
	for _, t := range l {
		sum.Add(sum, big.NewRat(t.C, t.T))
	}
	return sum
}

func modelPeriod(l []api.Task) told {
	m := big.NewInt(1)
	for _, t := range l {
		if t.T < 1 {
			return told{}
		}
		m = modelLcm(m, big.NewInt(t.T))
	}
	if !m.IsUint64() {
		return told{}
	}
	return told{m.Uint64(), true}
}

func modelCompare(a, b api.Frac) int {
	if a.Den == 0 || b.Den == 0 {
		return 0
	}
	return new(big.Rat).SetFrac(wide(a.Num), wide(a.Den)).Cmp(new(big.Rat).SetFrac(wide(b.Num), wide(b.Den)))
}

// Calls, and what they should tell.

// kept makes a call, and holds what it was handed in against what that is afterwards, also behind its end.
func kept(t *testing.T, what string, l []api.Task, call func(l []api.Task)) {
	t.Helper()
	room := append(slices.Clone(l), needs(11, 13), needs(-1, 0))
	before := slices.Clone(room)
	call(room[:len(l)])
	if !slices.Equal(room, before) {
		t.Fatalf("%s of %s: what was handed in is changed", what, shown(l))
	}
}

func wantOf(t *testing.T, a api.Task, want api.Frac) {
	t.Helper()
	if got := load.Of(a); got != want {
		t.Errorf("Of %d by %d: %d, want %d", a.C, a.T, got, want)
	}
}

// wantSum holds Sum, and Over, against what should be told.
func wantSum(t *testing.T, l []api.Task, want total) {
	t.Helper()
	var got total
	kept(t, "Sum", l, func(l []api.Task) { got.f, got.e = load.Sum(l) })
	if got != want {
		t.Fatalf("Sum of %s: %d, %d, want %d, %d", shown(l), got.f, int(got.e), want.f, int(want.e))
	}
	wantOver(t, l, want.e == api.OK && want.f.Num > want.f.Den, want.e)
}

func wantOver(t *testing.T, l []api.Task, want bool, e api.Errno) {
	t.Helper()
	var got bool
	var gotE api.Errno
	kept(t, "Over", l, func(l []api.Task) { got, gotE = load.Over(l) })
	if got != want || gotE != e {
		t.Fatalf("Over of %s: %v, %d, want %v, %d", shown(l), got, int(gotE), want, int(e))
	}
}

func wantPeriod(t *testing.T, l []api.Task, want told) {
	t.Helper()
	var got told
	kept(t, "Period", l, func(l []api.Task) { got.n, got.ok = load.Period(l) })
	if got != want {
		t.Fatalf("Period of %s: %d, %v, want %d, %v", shown(l), got.n, got.ok, want.n, want.ok)
	}
}

// wantAll holds all that is told of tasks against the models, and a sum that is told against the exact one.
func wantAll(t *testing.T, l []api.Task) {
	t.Helper()
	want := modelSum(l)
	wantSum(t, l, want)
	if want.e == api.OK && new(big.Rat).SetFrac(wide(want.f.Num), wide(want.f.Den)).Cmp(exactSum(l)) != 0 {
		t.Fatalf("Sum of %s: %d, want %s", shown(l), want.f, exactSum(l))
	}
	wantPeriod(t, l, modelPeriod(l))
}

func wantCompare(t *testing.T, a, b api.Frac, want int) {
	t.Helper()
	if got := load.Compare(a, b); got != want {
		t.Errorf("Compare of %d and %d: %d, want %d", a, b, got, want)
	}
	if got := load.Compare(b, a); got != -want {
		t.Errorf("Compare of %d and %d: %d, want %d", b, a, got, -want)
	}
}

// orders calls do with each order of l.
func orders(l []api.Task, do func(l []api.Task)) {
	own := slices.Clone(l)
	var from func(n int)
	from = func(n int) {
		if n == len(own) {
			do(own)
			return
		}
		for i := n; i < len(own); i++ {
			own[n], own[i] = own[i], own[n]
			from(n + 1)
			own[n], own[i] = own[i], own[n]
		}
	}
	from(0)
}

// edges are numbers at the ends, near all powers of 2, and some others with many divisors, or few.
func edges() []int64 {
	l := []int64{least, least + 1, -720720, -2, -1, 0, 5, 6, 7, 10, 12, 18, 60, 97, 720720, 1000000007, 3037000499, 3037000500, 6148914691236517205 / 5, 6148914691236517205, most - 1, most}
	for k := range 63 {
		l = append(l, 1<<k-1, 1<<k, 1<<k+1)
	}
	slices.Sort(l)
	return slices.Compact(l)
}

// P12.1

func TestOf(t *testing.T) {
	for _, c := range []struct {
		c, t int64
		want api.Frac
	}{
		{1, 4, frac(1, 4)},
		{2, 6, frac(1, 3)}, // with a divisor
		{6, 9, frac(2, 3)},
		{3, 7, frac(3, 7)}, // with none
		{8, 9, frac(8, 9)},
		{5, 5, frac(1, 1)},
		{12, 4, frac(3, 1)}, // more than there is
		{9, 6, frac(3, 2)},
		{0, 1, frac(0, 1)}, // a C of 0
		{0, 7, frac(0, 1)},
		{0, most, frac(0, 1)},
		{-1, 7, frac(0, 0)}, // a C below 0
		{-2, 4, frac(0, 0)},
		{least, 1, frac(0, 0)},
		{1, 0, frac(0, 0)}, // a T of 0
		{0, 0, frac(0, 0)},
		{most, 0, frac(0, 0)},
		{1, -1, frac(0, 0)}, // a T below 0
		{0, -1, frac(0, 0)},
		{1, least, frac(0, 0)},
		{-1, -1, frac(0, 0)},
		{-2, -4, frac(0, 0)},
		{least, least, frac(0, 0)},
		{-1, 0, frac(0, 0)},
		{1, 1, frac(1, 1)}, // a T of 1
		{7, 1, frac(7, 1)},
		{most, 1, frac(most, 1)}, // the greatest
		{1, most, frac(1, most)},
		{most, most, frac(1, 1)},
		{most - 1, most, frac(most-1, most)},
		{most, most - 1, frac(most, most-1)},
		{most / 7, most, frac(1, 7)},
		{1 << 62, 1 << 61, frac(2, 1)},
	} {
		wantOf(t, needs(c.c, c.t), c.want)
	}
}

func TestOfHangsOnCAndTAlone(t *testing.T) {
	for _, a := range []api.Task{
		{Name: "a", C: 4, T: 6, D: 5, J: 3, Q: 2, P: 1},
		{Name: "no name", C: 4, T: 6, D: -1, J: least, Q: most, P: -9},
		{C: 4, T: 6, D: 0, J: 99, Q: 99, P: math.MaxInt},
	} {
		wantOf(t, a, frac(2, 3))
	}
}

func TestOfAgainstTheModel(t *testing.T) {
	for c := int64(-3); c <= 60; c++ {
		for p := int64(-3); p <= 60; p++ {
			wantOf(t, needs(c, p), modelOf(needs(c, p)))
		}
	}
	for _, c := range edges() {
		for _, p := range edges() {
			wantOf(t, needs(c, p), modelOf(needs(c, p)))
		}
	}
}

func TestCompare(t *testing.T) {
	for _, c := range []struct {
		a, b api.Frac
		want int
	}{
		{frac(1, 3), frac(1, 3), 0},
		{frac(1, 3), frac(1, 2), -1},
		{frac(2, 3), frac(3, 4), -1},
		{frac(3, 2), frac(4, 3), 1},
		{frac(7, 12), frac(1, 1), -1},
		{frac(13, 12), frac(1, 1), 1},
		{frac(0, 1), frac(1, most), -1},
		{frac(1, 2), frac(2, 4), 0}, // as great, but not written alike
		{frac(6, 4), frac(9, 6), 0},
		{frac(0, 1), frac(0, 7), 0},
		{frac(0, 5), frac(0, top), 0},
		{frac(top, top), frac(1, 1), 0},
		{frac(3, 1), frac(top, uint64(third)), 0},
		{frac(2, 4), frac(3, 5), -1}, // as they stand
		{frac(1, 0), frac(1, 2), 0},  // no fractions
		{frac(1, 0), frac(0, 1), 0},
		{frac(0, 0), frac(1, 2), 0},
		{frac(0, 0), frac(top, 1), 0},
		{frac(0, 0), frac(0, 0), 0},
		{frac(1, 0), frac(2, 0), 0},
		{frac(top, 0), frac(0, 0), 0},
		{frac(top, 0), frac(1, top), 0},
		{frac(1, 3), frac(most, top), -1}, // products of more than 64 bits
		{frac(top, top-1), frac(top-1, top), 1},
		{frac(top-1, top), frac(1, 1), -1},
		{frac(top, top-1), frac(1, 1), 1},
		{frac(top-2, top-1), frac(top-1, top), -1}, // one less
		{frac(top-1, top-2), frac(top, top-1), 1},  // one greater
		{frac(top, 1), frac(top-1, 1), 1},
		{frac(1, top), frac(1, top-1), -1},
		{frac(top, 1), frac(1, top), 1},
		{frac(1<<32, 1), frac(1, 1<<32), 1}, // 2^64 against 1: alike where the product is cut off and one more
		{frac(1<<32, 1), frac(0, 1<<32), 1}, // 2^64 against 0: alike where the product is cut off
		{frac(1<<63, 3), frac(1<<63, 4), 1},
		{frac(1<<63, 1<<63), frac(1<<62, 1<<62), 0},
		{frac(3<<62, 1<<62), frac(1<<63, 1<<62), 1}, // their low words are alike
		{frac(1<<32, 1<<32), frac(1<<32-1, 1<<32), 1},
		{frac(1<<32+1, 1<<32), frac(1<<32, 1<<32-1), -1}, // 2^64 less 1 against 2^64
	} {
		wantCompare(t, c.a, c.b, c.want)
	}
}

func TestCompareAgainstTheModel(t *testing.T) {
	for a := range uint64(7) {
		for b := range uint64(7) {
			for c := range uint64(7) {
				for d := range uint64(7) {
					wantCompare(t, frac(a, b), frac(c, d), modelCompare(frac(a, b), frac(c, d)))
				}
			}
		}
	}
	near := []uint64{0, 1, 2, 3, 1<<32 - 1, 1 << 32, 1<<32 + 1, 1<<63 - 1, 1 << 63, 1<<63 + 1, top - 2, top - 1, top}
	var all []api.Frac
	for _, a := range near {
		for _, b := range near {
			all = append(all, frac(a, b))
		}
	}
	for _, a := range all {
		for _, b := range all {
			wantCompare(t, a, b, modelCompare(a, b))
		}
	}
	r := rand.New(rand.NewSource(1))
	for range 20000 {
		a, b := frac(r.Uint64()>>r.Intn(64), r.Uint64()>>r.Intn(64)), frac(r.Uint64()>>r.Intn(64), r.Uint64()>>r.Intn(64))
		wantCompare(t, a, b, modelCompare(a, b))
		k := uint64(1 + r.Intn(1<<16))
		same := frac(a.Num>>16*k, a.Den>>16*k)
		wantCompare(t, frac(a.Num>>16, a.Den>>16), same, 0)
	}
}

// P12.2

func TestSum(t *testing.T) {
	ok := func(f api.Frac, ct ...int64) {
		t.Helper()
		wantSum(t, tasks(ct...), total{f, api.OK})
	}
	wantSum(t, nil, total{frac(0, 1), api.OK})
	wantSum(t, []api.Task{}, total{frac(0, 1), api.OK})
	ok(frac(7, 12), 1, 4, 2, 6) // the chapter's
	ok(frac(1, 4), 1, 4)
	ok(frac(1, 3), 2, 6)
	ok(frac(0, 1), 0, 1)
	ok(frac(0, 1), 0, 6, 0, 9)
	ok(frac(1, 3), 2, 6, 0, 9)
	ok(frac(1, 3), 0, 9, 2, 6)
	ok(frac(1, 1), 1, 2, 1, 3, 1, 6)
	ok(frac(2, 3), 1, 6, 1, 2)
	ok(frac(11, 6), 1, 1, 1, 2, 1, 3)
	ok(frac(9, 1), 2, 1, 3, 1, 4, 1)
	ok(frac(1, 1), 2, 8, 5, 10, 3, 12)
	ok(frac(3, 2), 6, 12, 7, 7)
	ok(frac(3, 4), 1, 4, 1, 4, 1, 4) // alike
	ok(frac(1, most), 1, most)
	ok(frac(most, 1), most, 1)
	ok(frac(1, 1), most-1, most, 1, most)
	ok(frac(most-1, most), most-2, most, 1, most)
	ok(frac(2, 1), most, most, most, most)
}

func TestSumOfOneIsOf(t *testing.T) {
	for _, c := range edges() {
		for _, p := range edges() {
			want := total{f: modelOf(needs(c, p))}
			if want.f == frac(0, 0) {
				want.e = api.ErrArg
			}
			wantSum(t, tasks(c, p), want)
		}
	}
}

func TestSumHangsOnCAndTAlone(t *testing.T) {
	l := []api.Task{
		{Name: "a", C: 1, T: 4, D: 4, Q: 1, P: 1},
		{Name: "a", C: 2, T: 6, D: -6, J: most, Q: 9, P: 1}, // twice there, and not one that may be
	}
	wantSum(t, l, total{f: frac(7, 12)})
	wantPeriod(t, l, told{12, true})
}

func TestSumOfTasksThatTellNone(t *testing.T) {
	refused := total{e: api.ErrArg}
	for _, bad := range []api.Task{needs(-1, 4), needs(least, 4), needs(1, 0), needs(1, -1), needs(1, least), needs(0, 0), needs(-1, -1), needs(0, -4), {}} {
		wantSum(t, []api.Task{bad}, refused)
		wantSum(t, []api.Task{bad, bad}, refused)
		good := tasks(1, 4, 2, 6, 0, 9)
		huge := tasks(most, 1, most, 1, 2, 1, 1, 1<<62, 1, 1<<62-1)
		wantSum(t, huge, total{e: api.ErrOver})
		for at := range len(good) + 1 { // for the first, the last, one between
			wantSum(t, slices.Insert(slices.Clone(good), at, bad), refused)
		}
		for at := range len(huge) + 1 { // also where a sum ahead of it, or behind it, is too great
			wantSum(t, slices.Insert(slices.Clone(huge), at, bad), refused)
		}
	}
}

// Each step of a sum, where it needs just 64 bits, and more.
func TestSumAtItsEnds(t *testing.T) {
	ok := func(f api.Frac, ct ...int64) {
		t.Helper()
		wantSum(t, tasks(ct...), total{f, api.OK})
	}
	over := func(ct ...int64) {
		t.Helper()
		wantSum(t, tasks(ct...), total{e: api.ErrOver})
	}
	// The multiple.
	ok(frac(1<<33, top), 1, root-1, 1, root+1)
	ok(frac(5, 3<<62), 1, 3<<61, 1, 1<<62)
	ok(frac(1, 1<<62), 0, 5, 1, 1<<62, 0, most) // what is 0 needs no greater one
	over(1, root, 1, root+1)
	over(1, 1<<62, 1, 1<<62-1)
	over(1, most, 1, most-1)
	over(1, 1<<62, 1, 5)
	over(1, root-1, 1, root+1, 1, 2)
	over(1, root-1, 1, root+1, 1, 7)
	// What there was times what is left of the multiple.
	ok(frac(top-2, 3), third-1, 1, 1, 3)
	over(third+1, 1, 1, 3) // 2 behind the end: cut off, it would be 1 by 1
	over(most, 1, 1, 3)
	over(most, 2, 1, 5)
	ok(frac(3<<61-1, 1<<62-1), most, most-1, 1, 2) // just what is left: not the whole multiple
	// What comes, times what is left.
	ok(frac(top-2, 3), 1, 3, third-1, 1)
	over(1, 3, third+1, 1)
	over(1, 3, most, 1)
	over(1, 5, most, 2)
	// Both together.
	ok(frac(top-1, 1), most, 1, most, 1)
	ok(frac(top, 1), most, 1, most, 1, 1, 1)
	ok(frac(top, 1), most, 1, 1, 1, most, 1)
	over(most, 1, most, 1, 2, 1)
	over(most, 1, most, 1, 1, 1, 1, 1)
	over(most, 1, most, 1, most, 1)
	ok(frac(top-1, 3), third-1, 1, 2, 3)
	ok(frac(top, 2), most, 1, 1, 2)
	over(third, 1, 1, 3)      // the product is at its end
	over(most, 1, 1, 2, 1, 2) // though its form would have few bits: the sum is asked of ahead of that
	over(1, 2, most, 1, 1, 2)
	ok(frac(1<<63, 1), 1, 2, 1, 2, most, 1) // in another order none needs more
	// What came ahead is told in its form, so that it needs less.
	ok(frac(1<<62+1, 1<<62), 1, 6, 5, 6, 1, 1<<62)
	ok(frac(1+1<<62, 1<<62), 2, 10, 4, 5, 1, 1<<62)
	// It stays over, whatever comes behind.
	over(most, 1, most, 1, 2, 1, 0, 1)
	over(1, 1<<62, 1, 1<<62-1, 0, 5, 1, 1<<62)
}

func TestOver(t *testing.T) {
	for _, c := range []struct {
		l    []api.Task
		want bool
		e    api.Errno
	}{
		{nil, false, api.OK},
		{tasks(0, 1), false, api.OK},
		{tasks(1, 4, 2, 6), false, api.OK}, // below 1
		{tasks(most-1, most), false, api.OK},
		{tasks(1, 2, 1, 3, 1, 7), false, api.OK},
		{tasks(1, 1), false, api.OK}, // just 1
		{tasks(1, 2, 1, 3, 1, 6), false, api.OK},
		{tasks(most, most), false, api.OK},
		{tasks(most-1, most, 1, most), false, api.OK},
		{tasks(1, 1, 1, most), true, api.OK}, // above 1
		{tasks(most, most-1), true, api.OK},
		{tasks(1, 2, 1, 3, 1, 5), true, api.OK},
		{tasks(2, 1), true, api.OK},
		{tasks(most, 1, most, 1, 1, 1), true, api.OK},
		{tasks(-1, 1), false, api.ErrArg},
		{tasks(2, 1, 1, 0), false, api.ErrArg},
		{tasks(most, 1, most, 1, 2, 1, 1, 0), false, api.ErrArg},
		{tasks(most, 1, most, 1, 2, 1), false, api.ErrOver}, // though it is above 1
		{tasks(1, 1<<62, 1, 1<<62-1), false, api.ErrOver},   // though it is below 1
	} {
		wantOver(t, c.l, c.want, c.e)
	}
}

// P12.3

func TestPeriod(t *testing.T) {
	ok := func(n uint64, ts ...int64) {
		t.Helper()
		wantPeriod(t, periods(ts...), told{n, true})
	}
	none := func(ts ...int64) {
		t.Helper()
		wantPeriod(t, periods(ts...), told{})
	}
	wantPeriod(t, nil, told{1, true})
	wantPeriod(t, []api.Task{}, told{1, true})
	ok(1, 1)
	ok(1, 1, 1)
	ok(7, 7)
	ok(12, 4, 6)
	ok(12, 6, 4)
	ok(120, 8, 10, 12)
	ok(210, 2, 3, 5, 7)
	ok(12, 12, 4, 6, 1)
	ok(most, most)
	ok(most, most, most, 7)
	none(0) // below 1
	none(-1)
	none(least)
	none(0, 4, 6)
	none(4, -1, 6)
	none(4, 6, 0)
	none(least, least)
	none(-4, -6)
	ok(top, root-1, root+1) // just 64 bits
	ok(top, third, 3, 5)
	ok(1<<62*3, 1<<62, 3)
	ok(1<<62, 1<<62, 1<<61) // as great as the greatest one
	ok(top-1, most, 2)
	none(root, root+1) // more
	none(1<<62, 3, 5)
	none(1<<62, 5)
	none(most, 3, 5, 7)
	none(most, most-1)
	none(third, 3, 5, 2)
	none(most, most-1, 1) // whatever comes behind
	none(most, most-1, 0)
	none(0, most, most-1)
}

func TestPeriodHangsOnTAlone(t *testing.T) {
	l := tasks(-1, 4, least, 6, most, 9) // no Of tells the first two
	l[2].Name, l[2].D, l[2].J, l[2].Q, l[2].P = "a b", -1, least, most, -9
	wantPeriod(t, l, told{36, true})
}

// P12.4, and all that is told of tasks

// wantOneSum holds the sums of all orders of l against each other, and asks which orders tell one.
func wantOneSum(t *testing.T, l []api.Task) (all, some bool) {
	t.Helper()
	sums, periods, over := map[total]bool{}, map[told]bool{}, false
	orders(l, func(l []api.Task) {
		wantAll(t, l)
		f, e := load.Sum(l)
		if e == api.ErrOver {
			over = true
		} else {
			sums[total{f, e}] = true
		}
		n, ok := load.Period(l)
		periods[told{n, ok}] = true
	})
	if len(sums) > 1 || len(periods) > 1 {
		t.Fatalf("Sum and Period of %s tell several, by the order: %v, %v", shown(l), sums, periods)
	}
	return !over, over && len(sums) == 1
}

// drawnRows are tasks whose sums are told in each order, in some, and in none.
func drawnRows(r *rand.Rand) [][]api.Task {
	hard := []int64{0, 1, 2, 3, 5, 6, 9, 15, root - 1, root, root + 1, third / 5, third, third - 1, third + 1, 1 << 61, 1 << 62, 1<<62 - 1, most / 2, most - 1, most}
	l := make([]api.Task, 1+r.Intn(5))
	for i := range l {
		l[i] = needs(hard[r.Intn(len(hard))], hard[1+r.Intn(len(hard)-1)])
	}
	few := 2 + r.Int63n(8)
	part := 1 + r.Int63n(few-1)
	whole := tasks(part, few, few-part, few, most-r.Int63n(most/4), 1, r.Int63n(3), 1) // the first two are 1 by 1
	great := root + r.Int63n(root)
	part = 1 + r.Int63n(great-1)
	apart := tasks(part, great, great-part, great, 1, root+r.Int63n(root))
	return [][]api.Task{l, whole, apart}
}

func TestSumHangsOnNoOrder(t *testing.T) {
	for _, l := range [][]api.Task{
		tasks(1, 4, 2, 6, 3, 9, 5, 10, 7, 12, 0, 3),
		tasks(1, 2, most, 1, 1, 2, 0, 9),
		tasks(2, 3, third-1, 1, 1, 3),
		tasks(1, root-1, 1, root+1, 1, 2, 1, 2),
		tasks(1, 4, -1, 6, 3, 9),
		tasks(most, 1, most, 1, 2, 1, 1, 0),
	} {
		wantOneSum(t, l)
	}
	ofAll, ofSome := 0, 0
	r := rand.New(rand.NewSource(2))
	for range 500 {
		for _, l := range drawnRows(r) {
			all, some := wantOneSum(t, l)
			if all {
				ofAll++
			}
			if some {
				ofSome++
			}
		}
	}
	if ofAll < 100 || ofSome < 300 {
		t.Errorf("too few rows of which each order tells the sum (%d), or only some do (%d)", ofAll, ofSome)
	}
}

// small are all tasks whose C and T are from -1 up to end.
func small(end int64) []api.Task {
	var l []api.Task
	for c := int64(-1); c <= end; c++ {
		for p := int64(-1); p <= end; p++ {
			l = append(l, needs(c, p))
		}
	}
	return l
}

func TestSmallTasksAgainstTheModel(t *testing.T) {
	for _, a := range small(9) {
		for _, b := range small(9) {
			wantAll(t, []api.Task{a, b})
		}
	}
	for _, a := range small(4) {
		for _, b := range small(4) {
			for _, c := range small(4) {
				wantAll(t, []api.Task{a, b, c})
			}
		}
	}
}

func TestPairsOfEdgesAgainstTheModel(t *testing.T) {
	l := []int64{1, 2, 3, 5, 6, 7, 720720, root - 1, root, root + 1, third / 5, third - 1, third, third + 1, 1 << 62, most - 1, most}
	for _, a := range append([]int64{0}, l...) {
		for _, b := range l {
			for _, c := range append([]int64{0}, l...) {
				for _, d := range l {
					wantAll(t, tasks(a, b, c, d))
				}
			}
		}
	}
}

func TestDrawnTasksAgainstTheModel(t *testing.T) {
	r := rand.New(rand.NewSource(3))
	for range 20000 {
		l := make([]api.Task, r.Intn(8))
		shift := r.Intn(62)
		for i := range l {
			l[i] = needs(r.Int63()>>(shift+r.Intn(63-shift)), 1+r.Int63()>>(shift+1+r.Intn(62-shift)))
		}
		if r.Intn(8) == 0 && len(l) > 0 {
			l[r.Intn(len(l))] = needs(r.Int63n(5)-2, r.Int63n(5)-2)
		}
		wantAll(t, l)
	}
}

func TestManyTasks(t *testing.T) {
	for _, n := range []int{1000, api.MaxTasks, api.MaxTasks + 1, 100000} { // more than a set may have, too
		l := slices.Repeat(tasks(1, 4, 2, 6), n/2)
		f := modelForm(big.NewInt(7*int64(n/2)), big.NewInt(12))
		wantSum(t, l, total{f: f})
		wantPeriod(t, l, told{12, true})
		wantSum(t, append(l, needs(1, 0)), total{e: api.ErrArg})
		wantPeriod(t, append(l, needs(1, 0)), told{})
		wantSum(t, append(l, tasks(1, root, 1, root+1)...), total{e: api.ErrOver})
		wantPeriod(t, append(l, tasks(1, root, 1, root+1)...), told{})
	}
	wantSum(t, slices.Repeat(tasks(most, 1), 100000), total{e: api.ErrOver})
	wantSum(t, slices.Repeat(tasks(0, most), 100000), total{f: frac(0, 1)})
	wantPeriod(t, slices.Repeat(tasks(0, most), 100000), told{most, true})
}

func TestNothingIsKept(t *testing.T) {
	good, wrong, great := tasks(1, 4, 2, 6), tasks(1, 4, 2, 0), tasks(most, 1, most, 1, 2, 1)
	for range 3 { // one call's error, or sum, is not the next one's
		wantSum(t, good, total{f: frac(7, 12)})
		wantPeriod(t, good, told{12, true})
		wantSum(t, great, total{e: api.ErrOver})
		wantSum(t, good, total{f: frac(7, 12)})
		wantSum(t, wrong, total{e: api.ErrArg})
		wantPeriod(t, wrong, told{})
		wantSum(t, nil, total{f: frac(0, 1)})
		wantPeriod(t, nil, told{1, true})
	}
}
