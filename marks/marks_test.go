package marks_test

import (
	"fmt"
	"maps"
	"math"
	"math/rand"
	"slices"
	"testing"

	"cadency/api"
	"cadency/marks"
)

const (
	leastInt = math.MinInt
	mostInt  = math.MaxInt
)

// outside are numbers that no set has: those beside the ends, and far ones that are like small ones in their low bits.
var outside = []int{
	-1, -2, -63, -64, -65, -1023, -1024, -1025, -1 << 32, -1<<32 + 5, -1 << 62, leastInt, leastInt + 1, leastInt + 5, leastInt + 1023,
	1024, 1025, 1087, 1088, 2048, 1 << 16, 1<<32 - 1, 1 << 32, 1<<32 + 5, 1 << 62, 1<<62 + 5, mostInt - 1, mostInt,
}

// edges are numbers at the ends of all words.
func edges() []int {
	var l []int
	for n := 0; n < api.MaxMark; n += 64 {
		l = append(l, n, n+1, n+62, n+63)
	}
	return l
}

func span(from, to int) []int {
	var l []int
	for n := from; n < to; n++ {
		l = append(l, n)
	}
	return l
}

// model is a set by the document's words, without any bits.
type model map[int]bool

func modelOf(l ...int) model {
	m := model{}
	for _, n := range l {
		if n >= 0 && n <= 1023 {
			m[n] = true
		}
	}
	return m
}

func (m model) sorted() []int { return slices.Sorted(maps.Keys(m)) }

// words are those that the document tells of these numbers.
func (m model) words() marks.Set {
	var s marks.Set
	for n := range m {
		s[n/64] += uint64(1) << (n % 64)
	}
	return s
}

func (m model) above(n int) (int, bool) {
	for k := range 1024 {
		if k > n && m[k] {
			return k, true
		}
	}
	return 0, false
}

func numbers(s marks.Set) []int {
	var l []int
	for n := range s.All() {
		l = append(l, n)
	}
	return l
}

func wantSet(t *testing.T, what string, got marks.Set, wanted model) {
	t.Helper()
	if got != wanted.words() {
		t.Errorf("%s: %v, want %v", what, numbers(got), wanted.sorted())
	}
}

func wantNext(t *testing.T, what string, n int, ok bool, wanted int, wantedOK bool) {
	t.Helper()
	if n != wanted || ok != wantedOK {
		t.Errorf("%s: %d %v, want %d %v", what, n, ok, wanted, wantedOK)
	}
}

// samples are sets of all kinds: few numbers, many, at the ends, in one word or in all.
func samples() []model {
	var odd, even []int
	for n := range 1024 {
		if n%2 == 1 {
			odd = append(odd, n)
		} else {
			even = append(even, n)
		}
	}
	l := []model{
		{},
		modelOf(span(0, 1024)...),
		modelOf(0), modelOf(63), modelOf(64), modelOf(1023),
		modelOf(0, 63, 64, 1023),
		modelOf(3, 70),
		modelOf(odd...), modelOf(even...),
		modelOf(edges()...),
		modelOf(span(0, 64)...), modelOf(span(64, 128)...), modelOf(span(960, 1024)...),
		modelOf(span(1, 1023)...), modelOf(span(40, 700)...),
	}
	r := rand.New(rand.NewSource(2))
	for _, many := range []int{1, 5, 40, 300, 3000} {
		var some []int
		for range many {
			some = append(some, r.Intn(1024))
		}
		l = append(l, modelOf(some...))
	}
	return l
}

// P2.1

func TestOf(t *testing.T) {
	for _, l := range [][]int{
		nil,
		{},
		{0}, {63}, {64}, {1023},
		{3, 70, 3, -1},
		{0, 63, 64, 1023},
		{1023, 64, 63, 0, 1023, 64, 63, 0},
		{-1}, {1024}, {leastInt}, {mostInt},
		{5, -1, 6, 1024, 7, leastInt, 8, mostInt, 9},
		outside,
		span(0, 1024),
		span(-2000, 3000),
		edges(),
	} {
		before := slices.Clone(l)
		wantSet(t, fmt.Sprint("Of ", l), marks.Of(l...), modelOf(l...))
		if !slices.Equal(before, l) {
			t.Errorf("Of %v: what was handed in is %v now", before, l)
		}
	}
	if marks.Of() != (marks.Set{}) {
		t.Errorf("Of nothing: %v", numbers(marks.Of()))
	}
}

func TestOfKeepsNothing(t *testing.T) {
	l := []int{3, 70}
	s := marks.Of(l...)
	l[0], l[1] = 4, 71
	wantSet(t, "Of a row that is changed then", s, modelOf(3, 70))
}

func TestWordsAreThoseOfTheDocument(t *testing.T) {
	for n := range 1024 {
		var wanted marks.Set
		wanted[n>>6] = 1 << (n & 63)
		if got := marks.Of(n); got != wanted {
			t.Errorf("Of %d: words %x, want %x", n, [16]uint64(got), [16]uint64(wanted))
		}
	}
}

func TestSameNumbersAreTheSameValue(t *testing.T) {
	r := rand.New(rand.NewSource(1))
	of := map[marks.Set]int{}
	for i, m := range samples() {
		l := m.sorted()
		of[marks.Of(l...)] = i
		for range 5 {
			r.Shuffle(len(l), func(a, b int) { l[a], l[b] = l[b], l[a] })
			var one marks.Set
			for _, n := range l {
				one = one.With(n).With(n)
			}
			left := marks.Below(1024)
			for n := range 1024 {
				if !m[n] {
					left = left.Without(n)
				}
			}
			again := append(slices.Clone(l), l...)
			for _, s := range []marks.Set{marks.Of(l...), marks.Of(again...), one, left} {
				wantSet(t, fmt.Sprint("set ", i), s, m)
				if k, ok := of[s]; !ok || k != i {
					t.Errorf("set %d as a key: found %d %v", i, k, ok)
				}
			}
		}
	}
	if len(of) != len(samples()) {
		t.Errorf("%d keys, want %d", len(of), len(samples()))
	}
}

func TestBelow(t *testing.T) {
	for n := -3; n <= 1100; n++ {
		wantSet(t, fmt.Sprint("Below ", n), marks.Below(n), modelOf(span(0, n)...))
	}
	for _, n := range outside {
		var wanted []int
		if n > 0 {
			wanted = span(0, 1024)
		}
		wantSet(t, fmt.Sprint("Below ", n), marks.Below(n), modelOf(wanted...))
	}
}

func TestWithAndWithout(t *testing.T) {
	for i, m := range samples() {
		s := m.words()
		for n := range 1024 {
			more, less := maps.Clone(m), maps.Clone(m)
			more[n] = true
			delete(less, n)
			wantSet(t, fmt.Sprintf("set %d With %d", i, n), s.With(n), more)
			wantSet(t, fmt.Sprintf("set %d Without %d", i, n), s.Without(n), less)
		}
		for _, n := range outside {
			wantSet(t, fmt.Sprintf("set %d With %d", i, n), s.With(n), m)
			wantSet(t, fmt.Sprintf("set %d Without %d", i, n), s.Without(n), m)
		}
		wantSet(t, fmt.Sprintf("set %d, asked for others", i), s, m)
	}
}

func TestOrAndMinus(t *testing.T) {
	for i, a := range samples() {
		for k, b := range samples() {
			both, less := maps.Clone(a), maps.Clone(a)
			for n := range b {
				both[n] = true
				delete(less, n)
			}
			s, o := a.words(), b.words()
			wantSet(t, fmt.Sprintf("set %d Or set %d", i, k), s.Or(o), both)
			wantSet(t, fmt.Sprintf("set %d Minus set %d", i, k), s.Minus(o), less)
			wantSet(t, fmt.Sprintf("set %d, asked for others", i), s, a)
			wantSet(t, fmt.Sprintf("set %d, put to another one", k), o, b)
		}
	}
}

// P2.2

func TestHas(t *testing.T) {
	for i, m := range samples() {
		s := m.words()
		for n := range 1024 {
			if got := s.Has(n); got != m[n] {
				t.Errorf("set %d Has %d: %v", i, n, got)
			}
		}
		for _, n := range outside {
			if s.Has(n) {
				t.Errorf("set %d Has %d", i, n)
			}
		}
	}
}

func TestLen(t *testing.T) {
	for i, m := range samples() {
		if got := m.words().Len(); got != len(m) {
			t.Errorf("set %d Len: %d, want %d", i, got, len(m))
		}
	}
	if got := marks.Of(3, 70, 3, 70, 3, -1, 1024).Len(); got != 2 {
		t.Errorf("Len of numbers put twice: %d, want 2", got)
	}
	if got := marks.Below(1024).Len(); got != 1024 {
		t.Errorf("Len of the full set: %d", got)
	}
	if got := (marks.Set{}).Len(); got != 0 {
		t.Errorf("Len of the empty set: %d", got)
	}
}

func TestFirst(t *testing.T) {
	for i, m := range samples() {
		n, ok := m.words().First()
		wanted, wantedOK := m.above(-1)
		wantNext(t, fmt.Sprintf("set %d First", i), n, ok, wanted, wantedOK)
	}
	for k := range 1024 {
		n, ok := marks.Of(k, 1023).First()
		wantNext(t, fmt.Sprintf("First of %d and 1023", k), n, ok, k, true)
	}
	n, ok := marks.Set{}.First()
	wantNext(t, "First of the empty set", n, ok, 0, false)
}

func TestNext(t *testing.T) {
	for i, m := range samples() {
		s := m.words()
		for _, n := range append(span(-3, 1030), outside...) {
			got, ok := s.Next(n)
			wanted, wantedOK := m.above(n)
			wantNext(t, fmt.Sprintf("set %d Next %d", i, n), got, ok, wanted, wantedOK)
		}
	}
	for _, c := range []struct {
		s      marks.Set
		n      int
		wanted int
		ok     bool
	}{
		{marks.Of(3, 70, 3, -1), 3, 70, true},
		{marks.Of(3, 70), 2, 3, true},
		{marks.Of(3, 70), 70, 0, false},
		{marks.Of(0, 5), 0, 5, true},
		{marks.Of(0, 5), -1, 0, true},
		{marks.Of(0, 5), leastInt, 0, true},
		{marks.Of(63, 64), 62, 63, true},
		{marks.Of(63, 64), 63, 64, true},
		{marks.Of(63, 64), 64, 0, false},
		{marks.Of(0, 1023), 0, 1023, true},
		{marks.Of(0, 1023), 1022, 1023, true},
		{marks.Of(0, 1023), 1023, 0, false},
		{marks.Below(1024), 1023, 0, false},
		{marks.Below(1024), 1024, 0, false},
		{marks.Below(1024), mostInt, 0, false},
		{marks.Set{}, 0, 0, false},
		{marks.Set{}, -1, 0, false},
		{marks.Set{}, leastInt, 0, false},
	} {
		got, ok := c.s.Next(c.n)
		wantNext(t, fmt.Sprint(numbers(c.s), " Next ", c.n), got, ok, c.wanted, c.ok)
	}
}

func TestAll(t *testing.T) {
	for i, m := range samples() {
		if got, wanted := numbers(m.words()), m.sorted(); !slices.Equal(got, wanted) {
			t.Errorf("set %d All: %v, want %v", i, got, wanted)
		}
	}
	if (marks.Set{}).All() == nil {
		t.Error("All of the empty set is nil")
	}
}

// A sequence that is left off must not tell one more, and one that was gone over is still whole.
func TestAllLeftOffAndGoneOverAgain(t *testing.T) {
	for i, m := range samples() {
		l := m.sorted()
		all := m.words().All()
		for stop := range min(len(l), 130) {
			var got []int
			all(func(n int) bool {
				got = append(got, n)
				return len(got) <= stop
			})
			if !slices.Equal(got, l[:stop+1]) {
				t.Errorf("set %d All, left off behind %d: %v", i, stop+1, got)
			}
		}
		for range 2 {
			if got := slices.Collect(all); !slices.Equal(got, l) {
				t.Errorf("set %d All, gone over again: %v, want %v", i, got, l)
			}
		}
	}
}

func TestAllWithinItself(t *testing.T) {
	all := marks.Of(0, 63, 64, 1023).All()
	var got []int
	for a := range all {
		for b := range all {
			if b > a {
				break
			}
			got = append(got, b)
		}
	}
	if wanted := []int{0, 0, 63, 0, 63, 64, 0, 63, 64, 1023}; !slices.Equal(got, wanted) {
		t.Errorf("All within All: %v, want %v", got, wanted)
	}
}

func TestAllOfASetThatIsChangedThen(t *testing.T) {
	s := marks.Of(3, 70)
	all := s.All()
	s[0], s[1] = 0, 0
	if got := slices.Collect(all); !slices.Equal(got, []int{3, 70}) {
		t.Errorf("All of a set that is changed then: %v", got)
	}
}

// What the document shows.

func ExampleOf() {
	s := marks.Of(3, 70, 3, -1)
	fmt.Println(s.Len())
	fmt.Println(s.First())
	fmt.Println(s.Next(3))
	// Output:
	// 2
	// 3 true
	// 70 true
}
