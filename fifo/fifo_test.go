package fifo_test

import (
	"fmt"
	"math"
	"math/rand"
	"runtime"
	"slices"
	"testing"
	"weak"

	"cadency/fifo"
)

type item struct {
	n    int
	name string
}

// model is a queue by the document's words: a row, of which the first goes first, and the greatest length that it had.
type model[T any] struct {
	l        []T
	greatest int
}

func modelOf[T any](l ...T) *model[T] { return &model[T]{slices.Clone(l), len(l)} }

func (m *model[T]) push(x T) {
	m.l = append(m.l, x)
	m.greatest = max(m.greatest, len(m.l))
}

func (m *model[T]) at(i int) (T, bool) {
	for ahead, x := range m.l {
		if ahead == i {
			return x, true
		}
	}
	var none T
	return none, false
}

func (m *model[T]) pop() (T, bool) {
	x, ok := m.at(0)
	if ok {
		m.l = slices.Clone(m.l[1:])
	}
	return x, ok
}

func (m *model[T]) find(so func(x T) bool) (T, bool) {
	for _, x := range m.l {
		if so(x) {
			return x, true
		}
	}
	var none T
	return none, false
}

// told are what All tells; of each it is asked that as many are ahead of it as All says.
func told[T any](t *testing.T, q *fifo.Queue[T]) []T {
	t.Helper()
	var l []T
	for i, x := range q.All() {
		if i != len(l) {
			t.Errorf("All: %d are ahead of what is told behind %d others", i, len(l))
		}
		l = append(l, x)
	}
	return l
}

// popped are what Pop tells, till it tells false.
func popped[T any](q *fifo.Queue[T]) []T {
	var l []T
	for x, ok := q.Pop(); ok; x, ok = q.Pop() {
		l = append(l, x)
	}
	return l
}

func wantAll[T comparable](t *testing.T, what string, got []T, wanted ...T) {
	t.Helper()
	if !slices.Equal(got, wanted) {
		t.Errorf("%s: %v, want %v", what, got, wanted)
	}
}

func wantOne[T comparable](t *testing.T, what string, got T, ok bool, wanted T, wantedOK bool) {
	t.Helper()
	if got != wanted || ok != wantedOK {
		t.Errorf("%s: %v %v, want %v %v", what, got, ok, wanted, wantedOK)
	}
}

func wantLen[T any](t *testing.T, what string, q *fifo.Queue[T], wanted int) {
	t.Helper()
	if n := q.Len(); n != wanted {
		t.Errorf("%s: Len %d, want %d", what, n, wanted)
	}
}

// wantRoom asks that there is room for all things that are there, and for no more than may be when there were that many at most.
func wantRoom[T any](t *testing.T, what string, q *fifo.Queue[T], greatest int) {
	t.Helper()
	if room := q.Room(); room < q.Len() || room > 8+4*greatest {
		t.Errorf("%s: Room %d, with Len %d, and %d at most", what, room, q.Len(), greatest)
	}
}

func wantAt[T comparable](t *testing.T, what string, q *fifo.Queue[T], i int, wanted T, wantedOK bool) {
	t.Helper()
	x, ok := q.At(i)
	wantOne(t, fmt.Sprint(what, ": At ", i), x, ok, wanted, wantedOK)
}

// wantPop asks what goes first, and takes it out.
func wantPop[T comparable](t *testing.T, what string, q *fifo.Queue[T], wanted T, wantedOK bool) {
	t.Helper()
	x, ok := q.Pop()
	wantOne(t, what+": Pop", x, ok, wanted, wantedOK)
}

func wantFind[T comparable](t *testing.T, what string, q *fifo.Queue[T], so func(x T) bool, wanted T, wantedOK bool) {
	t.Helper()
	x, ok := q.Find(so)
	wantOne(t, what+": Find", x, ok, wanted, wantedOK)
}

// wantLike asks that all that leaves a queue as it is tells what the model does, twice.
func wantLike[T comparable](t *testing.T, what string, q *fifo.Queue[T], m *model[T]) {
	t.Helper()
	for range 2 {
		wantLen(t, what, q, len(m.l))
		wantRoom(t, what, q, m.greatest)
		wantAll(t, what+": All", told(t, q), m.l...)
		for i := -2; i < len(m.l)+2; i++ {
			x, ok := m.at(i)
			wantAt(t, what, q, i, x, ok)
		}
		for i, y := range m.l {
			x, ok := m.find(func(z T) bool { return z == y })
			wantFind(t, fmt.Sprint(what, ", thing ", i), q, func(z T) bool { return z == y }, x, ok)
		}
	}
}

// wantEmpty asks all that a queue without things tells, twice: what was asked leaves it so.
func wantEmpty[T comparable](t *testing.T, what string, q *fifo.Queue[T]) {
	t.Helper()
	var none T
	for range 2 {
		wantLen(t, what, q, 0)
		if q.Room() < 0 {
			t.Errorf("%s: Room %d", what, q.Room())
		}
		wantPop(t, what, q, none, false)
		for _, i := range []int{0, 1, -1, 7, math.MinInt, math.MaxInt} {
			wantAt(t, what, q, i, none, false)
		}
		wantAll(t, what+": All", told(t, q))
		wantFind(t, what, q, func(T) bool {
			t.Errorf("%s: Find asks of a thing", what)
			return true
		}, none, false)
	}
}

func always[T any](x T) bool { return true }
func never[T any](x T) bool  { return false }

// P7.1

func TestChapterExample(t *testing.T) {
	q := fifo.New(1, 2)
	q.Push(3)
	wantPop(t, "example", q, 1, true)
	wantAt(t, "example", q, 1, 3, true)
}

func TestNewOfNothing(t *testing.T) {
	for what, q := range map[string]*fifo.Queue[int]{
		"nothing":  fifo.New[int](),
		"nil row":  fifo.New([]int(nil)...),
		"no thing": fifo.New([]int{}...),
		"cut row":  fifo.New([]int{1, 2, 3}[:0]...),
	} {
		if q == nil {
			t.Fatalf("%s: New tells nil", what)
		}
		wantRoom(t, what, q, 0)
		wantEmpty(t, what, q)
		q.Push(4)
		wantRoom(t, what, q, 1)
		wantAll(t, what, told(t, q), 4)
	}
	wantEmpty(t, "texts", fifo.New[string]())
	wantEmpty(t, "structs", fifo.New[item]())
	wantEmpty(t, "pointers", fifo.New[*int]())
}

func TestNewOfOne(t *testing.T) {
	for _, n := range []int{0, 7, -7, math.MinInt, math.MaxInt} {
		q := fifo.New(n)
		wantLike(t, "one", q, modelOf(n))
		wantPop(t, "one", q, n, true)
		wantEmpty(t, "none is left", q)
	}
}

func TestNewOfMany(t *testing.T) {
	for n := range 70 {
		var l []int
		for i := range n {
			l = append(l, i*i)
		}
		what := fmt.Sprint("New of ", n)
		q, m := fifo.New(l...), modelOf(l...)
		wantLike(t, what, q, m)
		q.Push(-1)
		m.push(-1)
		wantLike(t, what+", Push", q, m)
		wantAll(t, what, popped(q), append(l, -1)...)
		wantEmpty(t, what, q)
	}
}

// A thing that is the zero one is a thing.
func TestZeroThings(t *testing.T) {
	q := fifo.New("", "a", "")
	q.Push("")
	wantLike(t, "zero things", q, modelOf("", "a", "", ""))
	wantFind(t, "zero thing", q, func(s string) bool { return s == "" }, "", true)
	wantPop(t, "zero things", q, "", true)
	wantPop(t, "zero things", q, "a", true)
	wantPop(t, "zero things", q, "", true)
	wantPop(t, "zero things", q, "", true)
	wantEmpty(t, "zero things", q)
	p := fifo.New[*int](nil, nil)
	wantPop(t, "nil pointers", p, nil, true)
	wantAll(t, "nil pointers", told(t, p), nil)
}

func TestAlikeThings(t *testing.T) {
	q := fifo.New(5, 5, 5)
	q.Push(5)
	wantPop(t, "alike", q, 5, true)
	wantAll(t, "alike", told(t, q), 5, 5, 5)
}

func TestAtOfNone(t *testing.T) {
	q := fifo.New("a", "b", "c")
	q.Pop()
	q.Push("d")
	for _, i := range []int{-1, -2, -3, -4, 3, 4, 5, 6, 100, math.MinInt, math.MinInt + 1, math.MaxInt, math.MaxInt - 1, 1 << 32, -1 << 32} {
		wantAt(t, "of three", q, i, "", false)
	}
	wantAt(t, "of three", q, 0, "b", true)
	wantAt(t, "of three", q, 1, "c", true)
	wantAt(t, "of three", q, 2, "d", true)
}

// What was popped stands where a place is free; it isn't told any more.
func TestAtDoesNotTellWhatWent(t *testing.T) {
	q := fifo.New(1, 2, 3)
	q.Pop()
	for i := 2; i < 20; i++ {
		wantAt(t, "popped", q, i, 0, false)
	}
	wantFind(t, "popped", q, func(n int) bool { return n == 1 }, 0, false)
}

// Pop of an empty queue leaves it one into which things can be pushed.
func TestPopOfEmptyAndPush(t *testing.T) {
	q := fifo.New[item]()
	for round := range 30 {
		wantEmpty(t, "empty", q)
		what := fmt.Sprint("round ", round)
		for n := range round % 7 {
			q.Push(item{n, what})
		}
		wantLen(t, what, q, round%7)
		for n := range round % 7 {
			wantPop(t, what, q, item{n, what}, true)
		}
	}
}

// Push and Pop in turns, of as many things as there may be, so that the ring goes round at each place where it can.
func TestGoesRound(t *testing.T) {
	for handed := range 12 {
		for n := range 24 {
			q := fifo.New[int]()
			m := modelOf[int]()
			if handed > 0 {
				q = fifo.New(make([]int, handed)...)
				wantAll(t, "handed in", popped(q), make([]int, handed)...)
				m.greatest = handed
			}
			turn := 0
			for range n {
				turn++
				q.Push(turn)
				m.push(turn)
			}
			for range 3*n + 30 {
				turn++
				q.Push(turn)
				m.push(turn)
				x, ok := m.pop()
				wantPop(t, fmt.Sprint("turn ", turn), q, x, ok)
				wantLike(t, fmt.Sprintf("%d handed in, %d there, turn %d", handed, n, turn), q, m)
				if t.Failed() {
					t.FailNow()
				}
			}
			wantAll(t, "the others", popped(q), m.l...)
		}
	}
}

// act does one thing to a queue and to its model, and asks that both tell the same: 0 pops, another number pushes a thing.
func act(t *testing.T, what string, q *fifo.Queue[item], m *model[item], a, turn int) {
	t.Helper()
	if a > 0 {
		x := item{a, fmt.Sprint(turn)}
		q.Push(x)
		m.push(x)
	} else {
		x, ok := m.pop()
		wantPop(t, what, q, x, ok)
	}
	wantLike(t, what, q, m)
}

// All short rows of pushes and pops, of what New makes of few things.
func TestAllShortRowsLikeModel(t *testing.T) {
	const acts = 9
	for handed := range 4 {
		l := make([]item, handed)
		for i := range l {
			l[i] = item{i, "new"}
		}
		for row := range 1 << acts {
			q, m := fifo.New(l...), modelOf(l...)
			for turn := range acts {
				act(t, fmt.Sprintf("%d of New, row %b, act %d", handed, row, turn), q, m, row>>turn&1, turn)
			}
			wantAll(t, "the others", popped(q), m.l...)
			if t.Failed() {
				t.FailNow()
			}
		}
	}
}

// Long rows of acts, drawn: of few and many things, with more pushes, and with more pops.
func TestDrawnRowsLikeModel(t *testing.T) {
	draw := rand.New(rand.NewSource(7))
	for range 150 {
		l := make([]item, draw.Intn(30))
		for i := range l {
			l[i] = item{draw.Intn(4), fmt.Sprint("new ", i)}
		}
		q, m := fifo.New(l...), modelOf(l...)
		wantLike(t, "New", q, m)
		pushes := 1 + draw.Intn(9)
		for turn := range 100 {
			if turn%25 == 0 {
				pushes = 1 + draw.Intn(9)
			}
			a := 0
			if draw.Intn(10) < pushes {
				a = 1 + draw.Intn(4)
			}
			act(t, fmt.Sprint("turn ", turn), q, m, a, turn)
		}
		wantAll(t, "the others", popped(q), m.l...)
		if t.Failed() {
			t.FailNow()
		}
	}
}

// Many things, all pushed, and then all popped; and as many in waves.
func TestMany(t *testing.T) {
	const many = 200000
	q := fifo.New[int]()
	for i := range many {
		q.Push(i)
	}
	wantLen(t, "many", q, many)
	wantRoom(t, "many", q, many)
	wantAt(t, "many", q, many-1, many-1, true)
	wantAt(t, "many", q, many, 0, false)
	for i, x := range q.All() {
		if i != x {
			t.Fatalf("All: %d has %d ahead", x, i)
		}
	}
	for i := range many {
		if x, ok := q.Pop(); x != i || !ok {
			t.Fatalf("Pop: %d %v, want %d", x, ok, i)
		}
	}
	wantEmpty(t, "many", q)
	came, went, greatest := 0, 0, many
	for wave := range 50 {
		for range 40 * wave {
			q.Push(came)
			came++
		}
		for range 39 * wave {
			if x, ok := q.Pop(); x != went || !ok {
				t.Fatalf("Pop: %d %v, want %d", x, ok, went)
			}
			went++
		}
		wantLen(t, "wave", q, came-went)
		wantRoom(t, "wave", q, greatest)
	}
}

func TestAllStays(t *testing.T) {
	q := fifo.New("a", "b", "c")
	q.Pop()
	q.Push("d")
	for range 3 {
		wantAll(t, "All", told(t, q), "b", "c", "d")
		wantLen(t, "All", q, 3)
	}
	q.Push("e")
	wantAll(t, "All, and one more", told(t, q), "b", "c", "d", "e")
	wantAll(t, "Pop", popped(q), "b", "c", "d", "e")
}

func TestAllLeftOff(t *testing.T) {
	for n := range 8 {
		q := fifo.New(-2, -1)
		for i := range n {
			q.Push(i)
		}
		q.Pop()
		q.Pop()
		seq := q.All()
		for stop := 1; stop <= n; stop++ {
			var l []int
			for i, x := range seq {
				wantOne(t, "ahead", i, true, len(l), true)
				l = append(l, x)
				if len(l) == stop {
					break
				}
			}
			what := fmt.Sprintf("%d of %d", stop, n)
			wantLen(t, what, q, n)
			for i := range stop {
				wantOne(t, what, l[i], len(l) == stop, i, true)
			}
			wantOne(t, what+", again", len(told(t, q)), true, n, true)
		}
	}
}

func TestAllOfNone(t *testing.T) {
	q := fifo.New(1, 2)
	q.All() // not gone over
	seq := q.All()
	seq(func(i, x int) bool {
		wantOne(t, "first", x, i == 0, 1, true)
		return false
	})
	wantAll(t, "behind it", told(t, q), 1, 2)
	if fifo.New[int]().All() == nil {
		t.Error("All of an empty queue tells nil")
	}
}

// What is in the queue when All is gone over is told, each time, not what was there when it was called.
func TestAllGoneOverAgain(t *testing.T) {
	q := fifo.New[int]()
	seq := q.All()
	collect := func() (l []int) {
		for i, x := range seq {
			wantOne(t, "ahead", i, true, len(l), true)
			l = append(l, x)
		}
		return l
	}
	wantAll(t, "empty", collect())
	q.Push(1)
	q.Push(2)
	wantAll(t, "pushed", collect(), 1, 2)
	wantAll(t, "again", collect(), 1, 2)
	q.Pop()
	wantAll(t, "popped", collect(), 2)
	for range seq {
		break
	}
	wantAll(t, "left off", collect(), 2)
	q.Pop()
	wantAll(t, "empty again", collect())
}

func TestAllWithinAll(t *testing.T) {
	q := fifo.New("a", "b")
	said := ""
	for i, x := range q.All() {
		for j, y := range q.All() {
			said += fmt.Sprint(i, x, j, y, " ")
		}
	}
	if said != "0a0a 0a1b 1b0a 1b1b " {
		t.Error("All within All:", said)
	}
}

// Who is told by All may push and pop: what was there when All began is told, and the queue has what was pushed and not popped.
func TestChangedWhileAllIsGoneOver(t *testing.T) {
	for n := range 20 {
		var l []int
		for i := range n {
			l = append(l, i)
		}
		gone := func(change func(q *fifo.Queue[int], x int)) ([]int, *fifo.Queue[int]) {
			q := fifo.New(l...)
			var seen []int
			for i, x := range q.All() {
				wantOne(t, "ahead", i, true, len(seen), true)
				seen = append(seen, x)
				change(q, x)
			}
			return seen, q
		}
		var pushed []int
		for i := range n {
			pushed = append(pushed, 100+i)
		}
		seen, q := gone(func(q *fifo.Queue[int], x int) { q.Push(100 + x) })
		wantAll(t, "pushed: All", seen, l...)
		wantAll(t, "pushed", told(t, q), append(slices.Clone(l), pushed...)...)
		seen, q = gone(func(q *fifo.Queue[int], x int) { wantPop(t, "within", q, x, true) })
		wantAll(t, "popped: All", seen, l...)
		wantEmpty(t, "popped", q)
		seen, q = gone(func(q *fifo.Queue[int], x int) { popped(q) })
		wantAll(t, "all popped: All", seen, l...)
		wantEmpty(t, "all popped", q)
		seen, q = gone(func(q *fifo.Queue[int], x int) {
			q.Pop()
			q.Push(100 + x)
		})
		wantAll(t, "both: All", seen, l...)
		wantAll(t, "both", told(t, q), pushed...)
		wantRoom(t, "both", q, n+1)
	}
}

func TestFind(t *testing.T) {
	q := fifo.New(item{9, "gone"}, item{1, "a"}, item{2, "b"}, item{2, "c"}, item{3, "d"})
	q.Pop()
	q.Push(item{1, "e"})
	q.Push(item{4, "f"})
	for _, c := range []struct {
		n      int
		wanted string
	}{{1, "a"}, {2, "b"}, {3, "d"}, {4, "f"}} {
		wantFind(t, "by number", q, func(x item) bool { return x.n == c.n }, item{c.n, c.wanted}, true)
	}
	for _, x := range []item{{1, "a"}, {2, "b"}, {2, "c"}, {3, "d"}, {1, "e"}, {4, "f"}} {
		wantFind(t, "by all", q, func(y item) bool { return y == x }, x, true)
	}
	wantFind(t, "always", q, always, item{1, "a"}, true)
	wantFind(t, "never", q, never, item{}, false)
	wantFind(t, "what went", q, func(x item) bool { return x.n == 9 }, item{}, false)
	wantFind(t, "the zero one", q, func(x item) bool { return x == item{} }, item{}, false)
	wantLen(t, "Find", q, 6)
}

// Find asks from the first thing on, of each once, up to that one which is it.
func TestFindAsksInOrder(t *testing.T) {
	q := fifo.New(1, 2, 3, 4, 5)
	for stop := 1; stop <= 6; stop++ {
		var asked []int
		x, ok := q.Find(func(n int) bool {
			asked = append(asked, n)
			return n == stop
		})
		if stop <= 5 {
			wantOne(t, "found", x, ok, stop, true)
		} else {
			wantOne(t, "not found", x, ok, 0, false)
		}
		wantAll(t, "asked", asked, []int{1, 2, 3, 4, 5}[:min(stop, 5)]...)
	}
	wantAll(t, "Find", popped(q), 1, 2, 3, 4, 5)
}

// What so does to the queue is not seen by Find, and leaves the queue a right one.
func TestFindThatChangesTheQueue(t *testing.T) {
	q := fifo.New(1, 2, 3)
	wantFind(t, "pushes", q, func(n int) bool {
		q.Push(n + 10)
		return false
	}, 0, false)
	wantAll(t, "pushed", told(t, q), 1, 2, 3, 11, 12, 13)
	wantFind(t, "pops", q, func(n int) bool {
		q.Pop()
		return n == 13
	}, 13, true)
	wantEmpty(t, "popped", q)
}

func TestLenBehindEachAct(t *testing.T) {
	q := fifo.New("a", "b")
	wantLen(t, "New of two", q, 2)
	q.Push("c")
	wantLen(t, "Push", q, 3)
	q.At(1)
	wantLen(t, "At", q, 3)
	q.Find(always)
	q.Find(never)
	wantLen(t, "Find", q, 3)
	for range q.All() {
		wantLen(t, "within All", q, 3)
	}
	wantLen(t, "All", q, 3)
	q.Room()
	wantLen(t, "Room", q, 3)
	for left := 2; left >= 0; left-- {
		q.Pop()
		wantLen(t, "Pop", q, left)
	}
	q.Pop()
	wantLen(t, "Pop of an empty queue", q, 0)
	q.Push("d")
	wantLen(t, "Push behind it", q, 1)
}

func TestThingsOfSeveralTypes(t *testing.T) {
	wantAll(t, "texts", popped(fifo.New("b", "", "a\xff", "B")), "b", "", "a\xff", "B")
	wantAll(t, "floats", popped(fifo.New(2.5, math.Inf(1), -1)), 2.5, math.Inf(1), -1)
	wantAll(t, "bytes", popped(fifo.New[uint8](255, 0, 128)), 255, 0, 128)
	wantAll(t, "bools", popped(fifo.New(true, false, true)), true, false, true)
	wantAll(t, "structs", popped(fifo.New(item{1, "a"}, item{}, item{-1, ""})), item{1, "a"}, item{}, item{-1, ""})
	wantAll(t, "arrays", popped(fifo.New([2]int{1, 2}, [2]int{2, 1})), [2]int{1, 2}, [2]int{2, 1})
	wantAll(t, "of any type", popped(fifo.New[any]("b", 1, nil, 2.5)), any("b"), any(1), nil, any(2.5))
	x, y := 1, 2
	wantAll(t, "pointers", popped(fifo.New(&y, nil, &x)), &y, nil, &x)
	rows := fifo.New([]int{1, 2}, nil, []int{3})
	if got := fmt.Sprint(popped(rows)); got != "[[1 2] [] [3]]" {
		t.Error("rows:", got)
	}
	funcs := fifo.New(func() int { return 1 }, func() int { return 2 })
	if f, ok := funcs.At(1); !ok || f() != 2 {
		t.Error("functions")
	}
	queues := fifo.New(fifo.New(1), nil, fifo.New(2))
	if q, ok := queues.Find(func(q *fifo.Queue[int]) bool { return q.Len() == 0 }); q != nil || !ok {
		t.Error("queues")
	}
}

// Things without any size are told apart by how many are ahead of them only.
func TestThingsWithoutSize(t *testing.T) {
	q, m := fifo.New[struct{}](), modelOf[struct{}]()
	for range 100 {
		q.Push(struct{}{})
		m.push(struct{}{})
		wantLen(t, "without size", q, len(m.l))
		wantRoom(t, "without size", q, m.greatest)
	}
	wantOne(t, "without size", len(popped(q)), true, 100, true)
	wantEmpty(t, "without size", q)
}

func TestWhatIsHandedInStays(t *testing.T) {
	for n := range 40 {
		var l []item
		for i := range n {
			l = append(l, item{i, fmt.Sprint(i)})
		}
		whole := append(slices.Clone(l), item{-1, "behind"}, item{-2, "behind"})
		q := fifo.New(whole[:n]...)
		for i := range 3 {
			q.Push(item{100 + i, "pushed"})
		}
		told(t, q)
		popped(q)
		for i := range n + 3 {
			q.Push(item{200 + i, "pushed"})
		}
		wantAll(t, "handed in, and behind it", whole, append(l, item{-1, "behind"}, item{-2, "behind"})...)
	}
}

func TestChangedLaterIsNotSeen(t *testing.T) {
	l := []int{5, 1, 4, 1}
	q := fifo.New(l...)
	for i := range l {
		l[i] = 100 * i
	}
	wantAll(t, "All", told(t, q), 5, 1, 4, 1)
	wantFind(t, "Find", q, func(n int) bool { return n == 100 }, 0, false)
	wantAll(t, "Pop", popped(q), 5, 1, 4, 1)
	q = fifo.New(l[:2]...)
	l = append(l[:0], 7, 8, 9, 10)
	wantAll(t, "of a longer row", popped(q), 0, 100)
}

// What is told is the caller's: changed, it is not so in the queue.
func TestWhatIsToldIsTheCallers(t *testing.T) {
	q := fifo.New(item{1, "a"}, item{2, "b"})
	x, _ := q.At(0)
	x.n, x.name = 9, "changed"
	for _, x := range q.All() {
		x.n = 9
	}
	q.Find(func(x item) bool { x.n = 9; return false })
	wantAll(t, "told", popped(q), item{1, "a"}, item{2, "b"})
}

func TestQueuesOfTheirOwn(t *testing.T) {
	l := []int{3, 1, 2}
	one, two := fifo.New(l...), fifo.New(l...)
	one.Push(7)
	two.Pop()
	two.Push(8)
	two.Push(9)
	wantAll(t, "one", popped(one), 3, 1, 2, 7)
	wantAll(t, "two", popped(two), 1, 2, 8, 9)
}

// The same calls have the same answers, and the same room.
func TestTheSameAgain(t *testing.T) {
	run := func() string {
		q := fifo.New("a", "b", "c")
		said := ""
		for i := range 100 {
			q.Push(fmt.Sprint(i))
			if i%3 > 0 {
				x, _ := q.Pop()
				said += x
			}
			said += fmt.Sprint(" ", q.Room(), " ", q.Len(), ";")
		}
		return said
	}
	first := run()
	for range 20 {
		if again := run(); again != first {
			t.Fatalf("%s, then %s", first, again)
		}
	}
}

// great is a thing whose memory can be watched.
type great struct {
	n    int
	rest [100]int
}

// watched pushes n things, and pops as many; what it tells are all those that were popped, watched.
func watched(q *fifo.Queue[*great], n int) []weak.Pointer[great] {
	for i := range n {
		q.Push(&great{n: i})
		q.Find(never)
	}
	var l []weak.Pointer[great]
	for range n {
		x, _ := q.Pop()
		l = append(l, weak.Make(x))
	}
	return l
}

// What went is not held on to.
func TestWhatWentIsLetGo(t *testing.T) {
	q := fifo.New(&great{n: 100}, &great{n: 101})
	l := watched(q, 30)
	l = append(l, watched(q, 2)...)
	for range 5 {
		runtime.GC()
	}
	for i, p := range l {
		if p.Value() != nil {
			t.Errorf("popped thing %d is held on to", i)
		}
	}
	wantLen(t, "kept", q, 2)
	runtime.KeepAlive(q)
}

// P7.2

// Room behind each act, of rows of acts that first fill the queue, and then empty it, or keep it at few.
func TestRoomBehindEachAct(t *testing.T) {
	for n := range 200 {
		q, greatest := fifo.New[int](), 0
		wantRoom(t, "New", q, 0)
		for i := range n {
			q.Push(i)
			greatest++
			wantRoom(t, "Push", q, greatest)
		}
		for range 3*n + 50 {
			q.Push(0)
			greatest = n + 1
			wantRoom(t, "Push in turns", q, greatest)
			q.Pop()
			wantRoom(t, "Pop in turns", q, greatest)
		}
		for range n + 2 {
			q.Pop()
			wantRoom(t, "Pop", q, greatest)
		}
		for i := range 2 * n {
			q.Push(i)
			greatest = max(greatest, i+1)
			wantRoom(t, "Push again", q, greatest)
		}
	}
}

// Where many came and went, but few were there at once, room is for few.
func TestRoomWhereManyCameAndWent(t *testing.T) {
	for few := range 10 {
		q := fifo.New(make([]int, few)...)
		for range 100000 {
			q.Push(1)
			q.Pop()
		}
		wantRoom(t, fmt.Sprint("few: ", few), q, few+1)
	}
}

// Many that were handed to New have room, and not more than may be, also when one comes behind them.
func TestRoomOfNew(t *testing.T) {
	for n := range 300 {
		q := fifo.New(make([]byte, n)...)
		wantRoom(t, "New", q, n)
		q.Push(1)
		wantRoom(t, "Push", q, n+1)
		q.Pop()
		q.Pop()
		wantRoom(t, "Pop", q, n+1)
	}
	whole := make([]int, 1000)
	wantRoom(t, "New of a piece", fifo.New(whole[:2]...), 2)
}

// Room hangs on what came and went, not on how much memory there happens to be for things of a size.
func TestRoomWhateverTheType(t *testing.T) {
	for n := range 70 {
		small, great := fifo.New(make([]byte, n)...), fifo.New(make([][33]int, n)...)
		for i := range 100 {
			if small.Room() != great.Room() {
				t.Fatalf("%d of New, act %d: Room %d, and %d", n, i, small.Room(), great.Room())
			}
			small.Push(0)
			great.Push([33]int{})
			if i%4 == 0 {
				small.Pop()
				great.Pop()
			}
		}
	}
}

// Asking leaves the room as it is.
func TestRoomOfAsking(t *testing.T) {
	q := fifo.New(1, 2, 3)
	q.Push(4)
	room := q.Room()
	for range 100 {
		q.At(0)
		q.At(-1)
		q.At(99)
		q.Len()
		q.Find(never)
		told(t, q)
		if q.Room() != room {
			t.Fatalf("Room %d, and then %d", room, q.Room())
		}
	}
}

// Room is what there is: the memory that a queue takes is about that of as many things.
func TestRoomIsMemory(t *testing.T) {
	var ahead, behind runtime.MemStats
	runtime.GC()
	runtime.ReadMemStats(&ahead)
	q := fifo.New[[1024]byte]()
	for range 1000 {
		q.Push([1024]byte{})
	}
	runtime.GC()
	runtime.ReadMemStats(&behind)
	if more := int64(behind.HeapAlloc) - int64(ahead.HeapAlloc); more > 1024*(8+4*1000)+1<<20 || more < 1024*1000-1<<20 {
		t.Errorf("%d bytes for %d things, room %d", more, q.Len(), q.Room())
	}
	runtime.KeepAlive(q)
}

// A nil queue, and a zero one.

func TestNilQueue(t *testing.T) {
	var q *fifo.Queue[item]
	for range 2 {
		wantEmpty(t, "nil", q)
		if q.Room() != 0 {
			t.Errorf("nil: Room %d", q.Room())
		}
		q.Push(item{1, "a"})
		if q != nil {
			t.Fatal("Push changed a nil queue")
		}
	}
	seq := q.All()
	if seq == nil {
		t.Fatal("All of a nil queue tells nil")
	}
	for range 2 {
		for range seq {
			t.Error("All of a nil queue tells something")
		}
	}
	wantEmpty(t, "nil numbers", (*fifo.Queue[int])(nil))
	wantEmpty(t, "nil texts", (*fifo.Queue[string])(nil))
}

// A zero queue is what New makes of nothing, act by act.
func TestZeroQueue(t *testing.T) {
	var zero fifo.Queue[item]
	made, m := fifo.New[item](), modelOf[item]()
	wantRoom(t, "zero", &zero, 0)
	wantEmpty(t, "zero", &zero)
	for turn := range 200 {
		a := 1
		if turn%5 > 2 {
			a = 0
		}
		act(t, "zero", &zero, m, a, turn)
		if a > 0 {
			made.Push(item{a, fmt.Sprint(turn)})
		} else {
			made.Pop()
		}
		wantLike(t, "made", made, m)
		wantOne(t, "zero: Room", zero.Room(), true, made.Room(), true)
	}
	var text struct{ within fifo.Queue[string] }
	text.within.Push("a")
	wantAll(t, "within a struct", popped(&text.within), "a")
	wantEmpty(t, "within a struct", &text.within)
}

func Example() {
	q := fifo.New(1, 2)
	q.Push(3)
	n, ok := q.Pop()
	fmt.Println(n, ok, q.Len(), q.Room() <= 8+4*3)
	for ahead, n := range q.All() {
		fmt.Println(ahead, n)
	}
	n, ok = q.Find(func(n int) bool { return n > 3 })
	fmt.Println(n, ok)
	// Output:
	// 1 true 2 true
	// 0 2
	// 1 3
	// 0 false
}
