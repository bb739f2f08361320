package heap_test

import (
	"fmt"
	"math"
	"math/rand"
	"runtime"
	"slices"
	"strings"
	"testing"
	"weak"

	"cadency/heap"
)

// item is a thing of which only the key is looked at by less; its name tells it apart from those that are alike.
type item struct {
	key  int
	name string
}

func byKey(a, b item) bool     { return a.key < b.key }
func byKeyDown(a, b item) bool { return a.key > b.key }
func rising(a, b int) bool     { return a < b }
func falling(a, b int) bool    { return a > b }
func byLength(a, b string) bool {
	return len(a) < len(b)
}
func neverLess[T any](a, b T) bool { return false }

// model is a heap by the document's words: things as they came, of which the one is looked for than which none is less, and none ahead is like it.
type model[T any] struct {
	less func(a, b T) bool
	l    []T
}

func (m *model[T]) push(x T) { m.l = append(m.l, x) }

func (m *model[T]) first() int {
	for i, x := range m.l {
		least := true
		for _, y := range m.l {
			least = least && !m.less(y, x)
		}
		if least {
			return i
		}
	}
	return -1
}

func (m *model[T]) peek() (T, bool) {
	if i := m.first(); i >= 0 {
		return m.l[i], true
	}
	var none T
	return none, false
}

func (m *model[T]) pop() (T, bool) {
	x, ok := m.peek()
	if ok {
		i := m.first()
		m.l = slices.Delete(slices.Clone(m.l), i, i+1)
	}
	return x, ok
}

func (m *model[T]) all() []T {
	own := model[T]{m.less, slices.Clone(m.l)}
	var l []T
	for x, ok := own.pop(); ok; x, ok = own.pop() {
		l = append(l, x)
	}
	return l
}

// told are what Each tells.
func told[T any](h *heap.Heap[T]) []T {
	var l []T
	h.Each(func(x T) { l = append(l, x) })
	return l
}

// drained are what Drain tells.
func drained[T any](h *heap.Heap[T]) []T { return slices.Collect(h.Drain()) }

// popped are what Pop tells, till it tells false.
func popped[T any](h *heap.Heap[T]) []T {
	var l []T
	for x, ok := h.Pop(); ok; x, ok = h.Pop() {
		l = append(l, x)
	}
	return l
}

func wantAll[T comparable](t *testing.T, what string, got []T, wanted ...T) {
	t.Helper()
	if !slices.Equal(got, wanted) {
		t.Errorf("%s: %v, want %v", what, got, wanted)
	}
}

func wantOne[T comparable](t *testing.T, what string, got T, ok bool, wanted T, wantedOK bool) {
	t.Helper()
	if got != wanted || ok != wantedOK {
		t.Errorf("%s: %v %v, want %v %v", what, got, ok, wanted, wantedOK)
	}
}

func wantLen[T any](t *testing.T, what string, h *heap.Heap[T], wanted int) {
	t.Helper()
	if n := h.Len(); n != wanted {
		t.Errorf("%s: Len %d, want %d", what, n, wanted)
	}
}

// wantPeek asks what goes first.
func wantPeek[T comparable](t *testing.T, what string, h *heap.Heap[T], wanted T, wantedOK bool) {
	t.Helper()
	x, ok := h.Peek()
	wantOne(t, what+": Peek", x, ok, wanted, wantedOK)
}

// wantPop asks what goes first, and takes it out.
func wantPop[T comparable](t *testing.T, what string, h *heap.Heap[T], wanted T, wantedOK bool) {
	t.Helper()
	x, ok := h.Pop()
	wantOne(t, what+": Pop", x, ok, wanted, wantedOK)
}

// wantLike asks that all that leaves a heap as it is tells what the model does, twice.
func wantLike[T comparable](t *testing.T, what string, h *heap.Heap[T], m *model[T]) {
	t.Helper()
	for range 2 {
		x, ok := m.peek()
		wantPeek(t, what, h, x, ok)
		wantLen(t, what, h, len(m.l))
		wantAll(t, what+": Each", told(h), m.all()...)
	}
}

// wantEmpty asks all that a heap without things tells, twice: what was asked leaves it so.
func wantEmpty[T comparable](t *testing.T, what string, h *heap.Heap[T]) {
	t.Helper()
	var none T
	for range 2 {
		wantLen(t, what, h, 0)
		wantPeek(t, what, h, none, false)
		wantPop(t, what, h, none, false)
		wantAll(t, what+": Each", told(h))
		wantAll(t, what+": Drain", drained(h))
	}
}

// P6.1

func TestChapterExample(t *testing.T) {
	wantAll(t, "New, Drain", drained(heap.New(rising, 5, 1, 4, 1)), 1, 1, 4, 5)
	h := heap.New(rising)
	for _, n := range []int{5, 1, 4, 1} {
		h.Push(n)
	}
	wantAll(t, "Push, Drain", drained(h), 1, 1, 4, 5)
}

func TestNewOfNothing(t *testing.T) {
	wantEmpty(t, "numbers", heap.New(rising))
	wantEmpty(t, "nil numbers", heap.New(rising, []int(nil)...))
	wantEmpty(t, "no numbers", heap.New(rising, []int{}...))
	wantEmpty(t, "texts", heap.New(byLength))
	wantEmpty(t, "structs", heap.New(byKey))
	wantEmpty(t, "arrays", heap.New(neverLess[[3]int]))
	wantEmpty(t, "pointers", heap.New(neverLess[*int]))
}

func TestNewOfOne(t *testing.T) {
	for _, n := range []int{0, 7, -7, math.MinInt, math.MaxInt} {
		h := heap.New(rising, n)
		wantLen(t, "one", h, 1)
		wantPeek(t, "one", h, n, true)
		wantAll(t, "one: Each", told(h), n)
		wantPop(t, "one", h, n, true)
		wantEmpty(t, "none is left", h)
	}
}

// A thing that is the zero one is a thing.
func TestZeroThings(t *testing.T) {
	h := heap.New(byLength, "", "a", "")
	wantPeek(t, "zero things", h, "", true)
	wantAll(t, "zero things: Each", told(h), "", "", "a")
	wantPop(t, "zero things", h, "", true)
	wantPop(t, "zero things", h, "", true)
	wantPop(t, "zero things", h, "a", true)
	wantEmpty(t, "zero things", h)
	p := heap.New(neverLess[*int], nil, nil)
	wantPop(t, "nil pointers", p, nil, true)
	wantAll(t, "nil pointers", drained(p), nil)
}

func TestPush(t *testing.T) {
	h := heap.New(rising)
	for i, step := range []struct{ push, first int }{{5, 5}, {7, 5}, {5, 5}, {3, 3}, {4, 3}, {math.MinInt, math.MinInt}, {math.MaxInt, math.MinInt}, {0, math.MinInt}} {
		h.Push(step.push)
		wantLen(t, "pushed", h, i+1)
		wantPeek(t, "pushed", h, step.first, true)
	}
	wantAll(t, "pushed", popped(h), math.MinInt, 0, 3, 4, 5, 5, 7, math.MaxInt)
}

func TestLenBehindEachAct(t *testing.T) {
	h := heap.New(rising, 3, 1)
	wantLen(t, "New of two", h, 2)
	h.Push(2)
	wantLen(t, "Push", h, 3)
	h.Peek()
	wantLen(t, "Peek", h, 3)
	h.Each(func(int) { wantLen(t, "within Each", h, 3) })
	wantLen(t, "Each", h, 3)
	seq := h.Drain()
	wantLen(t, "Drain that is not gone over", h, 3)
	h.Pop()
	wantLen(t, "Pop", h, 2)
	left := 2
	for range seq {
		left--
		wantLen(t, "within Drain", h, left)
	}
	wantLen(t, "Drain", h, 0)
	h.Pop()
	wantLen(t, "Pop of an empty heap", h, 0)
	h.Push(1)
	wantLen(t, "Push behind it", h, 1)
}

// Pop of an empty heap leaves it one into which things can be pushed.
func TestPopOfEmptyAndPush(t *testing.T) {
	h := heap.New(byKey)
	for round := range 3 {
		wantEmpty(t, "empty", h)
		h.Push(item{2, "a"})
		h.Push(item{1, "b"})
		h.Push(item{2, "c"})
		wantPop(t, fmt.Sprint("round ", round), h, item{1, "b"}, true)
		wantPop(t, fmt.Sprint("round ", round), h, item{2, "a"}, true)
		wantPop(t, fmt.Sprint("round ", round), h, item{2, "c"}, true)
	}
}

// named are things of these keys, whose names tell how many came ahead.
func named(keys ...int) []item {
	var l []item
	for i, k := range keys {
		l = append(l, item{k, fmt.Sprint(i)})
	}
	return l
}

func names(l []item) string {
	var s []string
	for _, x := range l {
		s = append(s, x.name)
	}
	return strings.Join(s, " ")
}

func TestAlikeByWhatCameFirst(t *testing.T) {
	for _, c := range []struct {
		keys   []int
		wanted string
	}{
		{[]int{1, 1}, "0 1"},
		{[]int{1, 1, 1}, "0 1 2"},
		{[]int{1, 1, 1, 1, 1, 1, 1, 1, 1, 1}, "0 1 2 3 4 5 6 7 8 9"},
		{[]int{2, 1, 2, 1, 2, 1}, "1 3 5 0 2 4"},
		{[]int{3, 3, 2, 2, 1, 1}, "4 5 2 3 0 1"},
		{[]int{1, 2, 2, 2, 0}, "4 0 1 2 3"},
		{[]int{0, 5, 1, 5, 5, 1, 1, 5}, "0 2 5 6 1 3 4 7"},
	} {
		for handed := range len(c.keys) + 1 { // so many were handed to New, the others pushed
			l := named(c.keys...)
			h := heap.New(byKey, l[:handed]...)
			for _, x := range l[handed:] {
				h.Push(x)
			}
			what := fmt.Sprint(c.keys, ", ", handed, " of them handed to New")
			if got := names(told(h)); got != c.wanted {
				t.Errorf("%s: Each %s, want %s", what, got, c.wanted)
			}
			if got := names(popped(h)); got != c.wanted {
				t.Errorf("%s: Pop %s, want %s", what, got, c.wanted)
			}
		}
	}
}

// Also when others were popped in between, things that came first go first, and things that come again are the last of those that are alike.
func TestAlikeWithPopsBetween(t *testing.T) {
	h := heap.New(byKey, item{1, "a"}, item{1, "b"}, item{1, "c"}, item{0, "d"})
	wantPop(t, "least", h, item{0, "d"}, true)
	wantPop(t, "first", h, item{1, "a"}, true)
	h.Push(item{1, "a"})
	h.Push(item{0, "e"})
	wantPop(t, "less came later", h, item{0, "e"}, true)
	wantPop(t, "second", h, item{1, "b"}, true)
	h.Push(item{1, "b"})
	wantAll(t, "the others", popped(h), item{1, "c"}, item{1, "a"}, item{1, "b"})
}

// A row that goes round: each thing that is popped is pushed again.
func TestAlikeGoRound(t *testing.T) {
	for n := range 20 {
		h := heap.New(neverLess[int])
		for i := range n {
			h.Push(i)
		}
		for i := range 5 * n {
			wantPop(t, fmt.Sprint(n, " alike"), h, i%n, true)
			h.Push(i % n)
		}
		wantLen(t, "alike", h, n)
	}
}

// act does one thing to a heap and to its model, and asks that both tell the same: those below keys push a thing of that key, all others pop.
func act(t *testing.T, what string, h *heap.Heap[item], m *model[item], a, keys, turn int) {
	t.Helper()
	if a < keys {
		x := item{a, fmt.Sprint(turn)}
		h.Push(x)
		m.push(x)
	} else {
		x, ok := m.pop()
		wantPop(t, what, h, x, ok)
	}
	wantLike(t, what, h, m)
}

// All short rows of acts, of few keys.
func TestAllShortRowsLikeModel(t *testing.T) {
	for _, c := range []struct{ keys, acts int }{{1, 8}, {2, 7}, {3, 6}} {
		rows := 1
		for range c.acts {
			rows *= c.keys + 1
		}
		for row := range rows {
			h, m := heap.New(byKey), &model[item]{less: byKey}
			for turn, left := 0, row; turn < c.acts; turn, left = turn+1, left/(c.keys+1) {
				act(t, fmt.Sprintf("row %d of %v, act %d", row, c, turn), h, m, left%(c.keys+1), c.keys, turn)
			}
			if wanted := m.all(); !slices.Equal(drained(h), wanted) || t.Failed() {
				t.Fatalf("row %d of %v: Drain, want %v", row, c, wanted)
			}
		}
	}
}

// Long rows of acts, drawn, of few and of many keys, with more pushes and with more pops.
func TestDrawnRowsLikeModel(t *testing.T) {
	draw := rand.New(rand.NewSource(6))
	for _, less := range []func(a, b item) bool{byKey, byKeyDown, neverLess[item]} {
		for range 60 {
			keys := 1 + draw.Intn(12)
			pops := 1 + draw.Intn(keys+3)
			var l []item
			for i := range draw.Intn(20) {
				l = append(l, item{draw.Intn(keys), fmt.Sprint("new ", i)})
			}
			h, m := heap.New(less, l...), &model[item]{less, l}
			wantLike(t, "New", h, m)
			for turn := range 60 {
				act(t, fmt.Sprint("turn ", turn), h, m, draw.Intn(keys+pops), keys, turn)
			}
			wantAll(t, "Drain", drained(h), m.all()...)
			if t.Failed() {
				t.FailNow()
			}
		}
	}
}

// All orders of some numbers, of which some are alike.
func TestAllOrders(t *testing.T) {
	for _, keys := range [][]int{{1, 2, 3, 4, 5, 6, 7}, {1, 1, 2, 2, 3, 3, 3}, {1, 2, 2, 2, 2, 2, 3}} {
		var arrange func(done, left []int)
		arrange = func(done, left []int) {
			if t.Failed() {
				return
			}
			if len(left) == 0 {
				l := named(done...)
				wanted := slices.Clone(l)
				slices.SortStableFunc(wanted, func(a, b item) int { return a.key - b.key })
				wantAll(t, fmt.Sprint(done, ": Each"), told(heap.New(byKey, l...)), wanted...)
				wantAll(t, fmt.Sprint(done, ": Drain"), drained(heap.New(byKey, l...)), wanted...)
				return
			}
			for i := range left {
				arrange(append(slices.Clone(done), left[i]), slices.Delete(slices.Clone(left), i, i+1))
			}
		}
		arrange(nil, keys)
	}
}

// Many things, that come rising, falling, and drawn.
func TestMany(t *testing.T) {
	const many = 100000
	draw := rand.New(rand.NewSource(61))
	for what, key := range map[string]func(i int) int{
		"rising":  func(i int) int { return i },
		"falling": func(i int) int { return -i },
		"drawn":   func(int) int { return draw.Int() },
		"few":     func(int) int { return draw.Intn(5) },
		"alike":   func(int) int { return 1 },
	} {
		l := make([]item, many)
		for i := range l {
			l[i] = item{key(i), fmt.Sprint(i)}
		}
		wanted := slices.Clone(l)
		slices.SortStableFunc(wanted, func(a, b item) int {
			if a.key < b.key {
				return -1
			} else if a.key > b.key {
				return 1
			}
			return 0
		})
		h := heap.New(byKey, l[:many/2]...)
		for _, x := range l[many/2:] {
			h.Push(x)
		}
		wantLen(t, what, h, many)
		if !slices.Equal(told(h), wanted) {
			t.Errorf("%s: Each tells another order", what)
		}
		if !slices.Equal(popped(h), wanted) {
			t.Errorf("%s: Pop tells another order", what)
		}
	}
}

func TestOtherOrders(t *testing.T) {
	wantAll(t, "falling", popped(heap.New(falling, 5, 1, 4, 1)), 5, 4, 1, 1)
	wantAll(t, "by a part", popped(heap.New(byKey, item{2, "a"}, item{1, "b"}, item{2, "A"}, item{1, "B"})),
		item{1, "b"}, item{1, "B"}, item{2, "a"}, item{2, "A"})
	wantAll(t, "by a part, falling", popped(heap.New(byKeyDown, item{2, "a"}, item{1, "b"}, item{2, "A"}, item{1, "B"})),
		item{2, "a"}, item{2, "A"}, item{1, "b"}, item{1, "B"})
	byRest := func(a, b int) bool { return a%3 < b%3 }
	wantAll(t, "by the rest of 3", popped(heap.New(byRest, 5, 4, 3, 2, 1, 0)), 3, 0, 4, 1, 5, 2)
	wantAll(t, "never less", popped(heap.New(neverLess[int], 5, 1, 4, 1)), 5, 1, 4, 1)
}

func TestThingsOfSeveralTypes(t *testing.T) {
	wantAll(t, "texts", drained(heap.New(func(a, b string) bool { return a < b }, "b", "", "a\xff", "B", "a")), "", "B", "a", "a\xff", "b")
	wantAll(t, "texts by length", drained(heap.New(byLength, "ccc", "a", "bb", "x", "dd")), "a", "x", "bb", "dd", "ccc")
	wantAll(t, "floats", drained(heap.New(func(a, b float64) bool { return a < b }, 2.5, math.Inf(1), -1, math.Inf(-1))), math.Inf(-1), -1, 2.5, math.Inf(1))
	wantAll(t, "bytes", drained(heap.New(func(a, b uint8) bool { return a < b }, 255, 0, 128)), 0, 128, 255)
	wantAll(t, "bools", drained(heap.New(func(a, b bool) bool { return !a && b }, true, false, true)), false, true, true)
	wantAll(t, "arrays", drained(heap.New(func(a, b [2]int) bool { return a[1] < b[1] }, [2]int{1, 2}, [2]int{2, 1})), [2]int{2, 1}, [2]int{1, 2})
	wantAll(t, "empty structs", drained(heap.New(neverLess[struct{}], struct{}{}, struct{}{})), struct{}{}, struct{}{})
	wantAll(t, "of any type", drained(heap.New(func(a, b any) bool { return fmt.Sprint(a) < fmt.Sprint(b) }, any("b"), any(1), any("a"))), any(1), any("a"), any("b"))
	x, y := 1, 2
	wantAll(t, "pointers", drained(heap.New(func(a, b *int) bool { return *a < *b }, &y, &x)), &x, &y)
	rows := heap.New(func(a, b []int) bool { return len(a) < len(b) }, []int{1, 2}, nil, []int{3})
	if got := fmt.Sprint(drained(rows)); got != "[[] [3] [1 2]]" {
		t.Error("rows:", got)
	}
	heaps := heap.New(func(a, b *heap.Heap[int]) bool { return a.Len() < b.Len() }, heap.New(rising, 1), nil)
	wantPop(t, "heaps", heaps, nil, true)
}

func TestWhatIsHandedInStays(t *testing.T) {
	for n := range 40 {
		var l []item
		for i := range n {
			l = append(l, item{(i * 7) % 5, fmt.Sprint(i)})
		}
		kept := slices.Clone(l)
		whole := append(l, item{-1, "behind"})
		h := heap.New(byKey, whole[:n]...)
		h.Push(item{-2, "pushed"})
		h.Each(func(item) {})
		drained(h)
		wantAll(t, "handed in", l, kept...)
		wantPeek(t, "drained", h, item{}, false)
		if whole[n] != (item{-1, "behind"}) {
			t.Errorf("behind what was handed in: %v", whole[n])
		}
	}
}

func TestChangedLaterIsNotSeen(t *testing.T) {
	l := []int{5, 1, 4, 1}
	h := heap.New(rising, l...)
	for i := range l {
		l[i] = 100 * i
	}
	wantAll(t, "Each", told(h), 1, 1, 4, 5)
	wantAll(t, "Pop", popped(h), 1, 1, 4, 5)
	h = heap.New(rising, l[:2]...)
	l = append(l[:0], 7, 8, 9, 10)
	wantAll(t, "of a longer row", drained(h), 0, 100)
}

// What is told is the caller's: changed, it is not so in the heap.
func TestWhatIsToldIsTheCallers(t *testing.T) {
	h := heap.New(byKey, item{1, "a"}, item{2, "b"})
	x, _ := h.Peek()
	x.key, x.name = 9, "changed"
	h.Each(func(x item) { x.key = 9 })
	wantAll(t, "told", drained(h), item{1, "a"}, item{2, "b"})
}

func TestHeapsOfTheirOwn(t *testing.T) {
	l := []int{3, 1, 2}
	up, down, same := heap.New(rising, l...), heap.New(falling, l...), heap.New(rising, l...)
	up.Push(0)
	wantPop(t, "falling", down, 3, true)
	down.Push(7)
	wantAll(t, "rising", drained(up), 0, 1, 2, 3)
	wantAll(t, "falling", drained(down), 7, 2, 1)
	wantAll(t, "the same row", drained(same), 1, 2, 3)
}

// The same calls have the same answers.
func TestTheSameAgain(t *testing.T) {
	run := func() string {
		h := heap.New(byKey, named(3, 1, 3, 2, 1, 1)...)
		said := names(told(h))
		h.Pop()
		h.Push(item{1, "x"})
		for x := range h.Drain() {
			said += x.name
		}
		return said
	}
	first := run()
	for range 20 {
		if again := run(); again != first {
			t.Fatalf("%s, then %s", first, again)
		}
	}
}

func TestPeekLeavesAllAsItIs(t *testing.T) {
	h := heap.New(byKey, named(2, 1, 2, 1)...)
	for range 5 {
		wantPeek(t, "peeked", h, item{1, "1"}, true)
		wantLen(t, "peeked", h, 4)
	}
	wantAll(t, "peeked", popped(h), item{1, "1"}, item{1, "3"}, item{2, "0"}, item{2, "2"})
	wantEmpty(t, "popped", h)
}

// Less is asked of nothing but things that are in the heap, or are pushed into it.
func TestLessIsAskedOfItsThingsOnly(t *testing.T) {
	in := map[int]bool{}
	h := heap.New(func(a, b int) bool {
		if !in[a] || !in[b] {
			t.Errorf("asked of %d and %d", a, b)
		}
		return a < b
	})
	draw := rand.New(rand.NewSource(62))
	for range 2000 {
		if n := 1 + draw.Intn(1000); draw.Intn(2) == 0 {
			in[n] = true
			h.Push(n)
		} else if x, ok := h.Pop(); ok {
			told := told(h)
			in[x] = slices.Contains(told, x)
		}
	}
}

// great is a thing whose memory can be watched.
type great struct {
	n    int
	rest [100]int
}

// watched pushes n things, and pops as many again; what it tells are all those that were popped, watched.
func watched(h *heap.Heap[*great], n int) []weak.Pointer[great] {
	for i := range n {
		h.Push(&great{n: i})
	}
	var l []weak.Pointer[great]
	for range n {
		x, _ := h.Pop()
		l = append(l, weak.Make(x))
	}
	return l
}

// What went is not held on to.
func TestWhatWentIsLetGo(t *testing.T) {
	h := heap.New(func(a, b *great) bool { return a.n < b.n }, &great{n: 100}, &great{n: 101})
	l := watched(h, 30)
	for range 5 {
		runtime.GC()
	}
	for i, p := range l {
		if p.Value() != nil {
			t.Errorf("popped thing %d is held on to", i)
		}
	}
	wantLen(t, "kept", h, 2)
	runtime.KeepAlive(h)
}

// P6.2

func TestDrainLeftOff(t *testing.T) {
	sorted := []item{{1, "1"}, {1, "3"}, {1, "5"}, {2, "0"}, {2, "4"}, {3, "2"}}
	for _, stop := range []int{1, 2, 3, 4, 5, 6} {
		h := heap.New(byKey, named(2, 1, 3, 1, 2, 1)...)
		var l []item
		for x := range h.Drain() {
			l = append(l, x)
			if len(l) == stop {
				break
			}
		}
		what := fmt.Sprint("left off after ", stop)
		wantAll(t, what, l, sorted[:stop]...)
		wantLen(t, what, h, 6-stop)
		wantAll(t, what+": Each", told(h), sorted[stop:]...)
		wantAll(t, what+": Pop", popped(h), sorted[stop:]...)
	}
}

// A Drain that is not gone over pops nothing.
func TestDrainOfNone(t *testing.T) {
	h := heap.New(rising, 2, 1)
	h.Drain()
	seq := h.Drain()
	if seq == nil {
		t.Error("Drain tells nil")
	}
	wantAll(t, "Each", told(h), 1, 2)
	seq(func(x int) bool { return false })
	wantAll(t, "Each behind one", told(h), 2)
}

func TestDrainGoneOverAgain(t *testing.T) {
	h := heap.New(byKey, named(2, 1, 3, 1)...)
	seq := h.Drain()
	for range seq {
		break
	}
	for x := range seq {
		wantOne(t, "second time", x, true, item{1, "3"}, true)
		break
	}
	wantAll(t, "third time", slices.Collect(seq), item{2, "0"}, item{3, "2"})
	wantAll(t, "of an empty heap", slices.Collect(seq))
	h.Push(item{1, "x"})
	wantAll(t, "of what was pushed since", slices.Collect(seq), item{1, "x"})
	wantEmpty(t, "drained", h)
}

// What is in the heap when Drain is gone over is told, not what was there when it was called.
func TestDrainOfWhatIsThere(t *testing.T) {
	h := heap.New(rising)
	empty := h.Drain()
	h.Push(2)
	h.Push(1)
	wantAll(t, "called when empty", slices.Collect(empty), 1, 2)
	h.Push(4)
	h.Push(3)
	full := h.Drain()
	h.Pop()
	wantAll(t, "called ahead of Pop", slices.Collect(full), 4)
}

func TestDrainWithPushes(t *testing.T) {
	h := heap.New(byKey, item{5, "a"}, item{9, "b"})
	var l []item
	for x := range h.Drain() {
		l = append(l, x)
		switch x.name {
		case "a":
			h.Push(item{9, "c"}) // behind b
			h.Push(item{4, "d"}) // less than what was told
			h.Push(item{5, "e"})
		case "c":
			h.Push(item{0, "f"}) // when none was left
		}
	}
	wantAll(t, "pushed while it is drained", l, item{5, "a"}, item{4, "d"}, item{5, "e"}, item{9, "b"}, item{9, "c"}, item{0, "f"})
	wantEmpty(t, "drained", h)
}

func TestDrainWithPopsAndOtherDrains(t *testing.T) {
	h := heap.New(rising, 6, 5, 4, 3, 2, 1)
	seq := h.Drain()
	var outer, inner []int
	for x := range seq {
		outer = append(outer, x)
		wantLen(t, "within", h, 6-len(outer)-len(inner))
		for y := range seq {
			inner = append(inner, y)
			break
		}
	}
	wantAll(t, "outer", outer, 1, 3, 5)
	wantAll(t, "inner", inner, 2, 4, 6)
	h = heap.New(rising, 3, 2, 1)
	outer = nil
	for x := range h.Drain() {
		outer = append(outer, x)
		h.Pop()
	}
	wantAll(t, "with Pop", outer, 1, 3)
}

// What is told is not in the heap any more when it is told.
func TestDrainPopsAheadOfTelling(t *testing.T) {
	h := heap.New(rising, 3, 1, 2)
	for x := range h.Drain() {
		if slices.Contains(told(h), x) {
			t.Errorf("%d is told, and still there", x)
		}
	}
}

func TestEachStays(t *testing.T) {
	h := heap.New(byKey, named(2, 1, 3, 1)...)
	wanted := []item{{1, "1"}, {1, "3"}, {2, "0"}, {3, "2"}}
	for range 3 {
		wantAll(t, "Each", told(h), wanted...)
		wantLen(t, "Each", h, 4)
	}
	h.Push(item{1, "x"}) // what came first is still known
	wantAll(t, "Each, and one more", told(h), item{1, "1"}, item{1, "3"}, item{1, "x"}, item{2, "0"}, item{3, "2"})
	wantAll(t, "Pop", popped(h), item{1, "1"}, item{1, "3"}, item{1, "x"}, item{2, "0"}, item{3, "2"})
}

// Each tells what was in the heap when it was called, whatever do does to it.
func TestEachThatChangesTheHeap(t *testing.T) {
	h := heap.New(rising, 3, 1, 2)
	var l []int
	h.Each(func(x int) {
		l = append(l, x)
		h.Push(x - 10)
	})
	wantAll(t, "pushed", l, 1, 2, 3)
	wantAll(t, "pushed", told(h), -9, -8, -7, 1, 2, 3)
	l = nil
	h.Each(func(x int) {
		l = append(l, x)
		h.Pop()
		h.Pop()
	})
	wantAll(t, "popped", l, -9, -8, -7, 1, 2, 3)
	wantEmpty(t, "popped", h)
	h = heap.New(rising, 2, 1)
	l = nil
	h.Each(func(int) { h.Each(func(y int) { l = append(l, y) }) })
	wantAll(t, "Each within Each", l, 1, 2, 1, 2)
}

// A nil heap, and others that were not made by New.

func TestNilHeap(t *testing.T) {
	var h *heap.Heap[item]
	wantEmpty(t, "nil", h)
	h.Push(item{1, "a"})
	if h != nil {
		t.Error("Push changed a nil heap")
	}
	wantEmpty(t, "nil, pushed into", h)
	seq := h.Drain()
	if seq == nil {
		t.Fatal("Drain of a nil heap tells nil")
	}
	for range 2 {
		for range seq {
			t.Error("Drain of a nil heap tells something")
		}
	}
	wantEmpty(t, "nil number heap", (*heap.Heap[int])(nil))
}

// The document tells nothing of a heap without a less function but that no call panics, and that each ends: nothing is less in it.
func TestZeroHeap(t *testing.T) {
	var h heap.Heap[int]
	wantEmpty(t, "zero", &h)
	for _, n := range []int{5, 1, 4, 1} {
		h.Push(n)
	}
	wantAll(t, "zero: Each", told(&h), 5, 1, 4, 1)
	wantAll(t, "zero: Drain", drained(&h), 5, 1, 4, 1)
}

// What is no order still lets each call end, and each thing be told once.
func TestLessThatIsNoOrder(t *testing.T) {
	draw := rand.New(rand.NewSource(63))
	for what, less := range map[string]func(a, b int) bool{
		"both ways":  func(a, b int) bool { return true },
		"not less":   func(a, b int) bool { return a <= b },
		"goes round": func(a, b int) bool { return (a-b+9)%3 == 1 },
		"drawn":      func(a, b int) bool { return draw.Intn(2) == 0 },
	} {
		var l []int
		for i := range 50 {
			l = append(l, i)
		}
		h := heap.New(less, l...)
		each, all := told(h), drained(h)
		if what != "drawn" {
			wantAll(t, what+": Each as Drain", each, all...)
		}
		slices.Sort(each)
		wantAll(t, what+": Each", each, l...)
		slices.Sort(all)
		wantAll(t, what+": Drain", all, l...)
	}
}

// A less function that itself changes the heap orders nothing; still no call panics, and each ends.
func TestLessThatChangesTheHeap(t *testing.T) {
	var h *heap.Heap[int]
	within, asked := false, 0
	h = heap.New(func(a, b int) bool {
		if asked++; h != nil && !within {
			within = true
			if asked%2 == 0 {
				h.Push(asked)
			} else {
				h.Pop()
			}
			told(h)
			within = false
		}
		return a < b
	})
	for i := range 200 {
		h.Push(i * 7 % 50)
		if i%3 == 0 {
			h.Pop()
		}
	}
	for range 1000 {
		h.Pop()
	}
}

func Example() {
	h := heap.New(func(a, b int) bool { return a < b }, 5, 1, 4)
	h.Push(1)
	for n := range h.Drain() {
		fmt.Print(n, " ")
		if n == 4 {
			break
		}
	}
	n, ok := h.Peek()
	fmt.Println("then", n, ok, h.Len())
	// Output: 1 1 4 then 5 true 1
}
