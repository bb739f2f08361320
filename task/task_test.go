package task_test

import (
	"fmt"
	"math"
	"math/big"
	"math/rand"
	"slices"
	"strings"
	"testing"

	"cadency/api"
	"cadency/marks"
	"cadency/task"
)

const (
	most  = 1<<31 - 1 // of C, T, D, J and Q
	prios = 1 << 20

	leastInt   = math.MinInt
	mostInt    = math.MaxInt
	leastInt64 = math.MinInt64
	mostInt64  = math.MaxInt64
)

// good is a task that may be, with room on all sides.
func good() api.Task {
	return api.Task{Name: "a", C: 5, T: 100, D: 50, J: 7, Q: 3, P: 9}
}

// with is the good task, changed.
func with(change func(t *api.Task)) api.Task {
	t := good()
	change(&t)
	return t
}

// many are n tasks that may be, with names and P of their own.
func many(n int) []api.Task {
	l := make([]api.Task, n)
	for i := range l {
		l[i] = good()
		l[i].Name = fmt.Sprint("t", i)
		l[i].P = i + 1
	}
	return l
}

// ofPrios are tasks that have but a P.
func ofPrios(ps ...int) []api.Task {
	l := make([]api.Task, len(ps))
	for i, p := range ps {
		l[i].P = p
	}
	return l
}

// shown is a task, with no more of its name than is of use.
func shown(a api.Task) string {
	return fmt.Sprintf("%.40q (%d bytes) C %d T %d D %d J %d Q %d P %d", a.Name, len(a.Name), a.C, a.T, a.D, a.J, a.Q, a.P)
}

func wantCheck(t *testing.T, a api.Task, want api.Errno) {
	t.Helper()
	if got := task.Check(a); got != want {
		t.Errorf("Check of %s: %d, want %d", shown(a), int(got), int(want))
	}
}

func wantAll(t *testing.T, what string, l []api.Task, at int, e api.Errno) {
	t.Helper()
	before := slices.Clone(l)
	if gotAt, got := task.CheckAll(l); gotAt != at || got != e {
		t.Errorf("CheckAll of %s: %d, %d, want %d, %d", what, gotAt, int(got), at, int(e))
	}
	if !slices.Equal(before, l) {
		t.Errorf("CheckAll of %s: what was handed in is changed", what)
	}
}

// P4.1

func TestCheckOfTasksThatMayBe(t *testing.T) {
	wantCheck(t, good(), api.OK)
	for _, a := range []api.Task{
		{Name: "a", C: 1, T: 1, D: 1, J: 0, Q: 1, P: 1},
		{Name: "a", C: 1, T: 4, D: 4, J: 0, Q: 1, P: 3},
		{Name: "b", C: 2, T: 9, D: 8, J: 6, Q: 2, P: 1},
		{Name: "c", C: 3, T: 20, D: 20, J: 0, Q: 3, P: prios},
		{Name: "_", C: most, T: most, D: most, J: 0, Q: most, P: prios},
		{Name: "z.-9", C: 1, T: most, D: most, J: most - 1, Q: 1, P: 7},
	} {
		wantCheck(t, a, api.OK)
	}
}

func TestCheckOfTheExample(t *testing.T) {
	wantCheck(t, api.Task{Name: "a", C: 2, T: 9, D: 9, J: 8, Q: 1, P: 1}, api.ErrConstraint)
	wantCheck(t, api.Task{Name: "a", C: 2, T: 9, D: 9, J: 7, Q: 1, P: 1}, api.OK)
}

func TestCheckOfNames(t *testing.T) {
	name := func(s string, want api.Errno) {
		t.Helper()
		wantCheck(t, with(func(a *api.Task) { a.Name = s }), want)
	}
	for _, s := range []string{"a", "Z", "_", "a.b", "a-", "a9", "task", "order", "bound", strings.Repeat("a", 31), strings.Repeat("a", 32), strings.Repeat("_", 32), "a" + strings.Repeat(".", 31)} {
		name(s, api.OK)
	}
	for _, s := range []string{
		"", " ", "a ", " a", "a\n", "\n", "a b", "1", "1a", "-a", ".a", "a=", "=", "#", "a#", "a# b", "a,b", "a\x00", "\x00", "\xff", "\u00e4", "a\u00e4",
		strings.Repeat("a", 33), strings.Repeat("a", 34), strings.Repeat("_", 64), strings.Repeat("a", 32) + " ", strings.Repeat(" ", 32) + "a", strings.Repeat("a", 288), strings.Repeat("a", 1<<20),
		strings.Repeat("\u00e4", 16), strings.Repeat("\u00e4", 20),
	} {
		name(s, api.ErrRange)
	}
}

// A number's edges, with room made for it on all sides.
func TestCheckOfEdges(t *testing.T) {
	roomy := api.Task{Name: "a", C: 1, T: most, D: most, J: 0, Q: 1, P: 1}
	tight := api.Task{Name: "a", C: most, T: most, D: most, J: 0, Q: 1, P: 1}
	one := api.Task{Name: "a", C: 1, T: 1, D: 1, J: 0, Q: 1, P: 1}
	for _, x := range []struct {
		what string
		from api.Task
		set  func(a *api.Task, n int64)
		okay []int64
		bad  []int64
	}{
		{"C", roomy, func(a *api.Task, n int64) { a.C = n }, []int64{1, 2, most - 1, most}, nil},
		{"T", one, func(a *api.Task, n int64) { a.T = n }, []int64{1, 2, most - 1, most}, nil},
		{"D", api.Task{Name: "a", C: 1, T: most, D: 1, Q: 1, P: 1}, func(a *api.Task, n int64) { a.D = n }, []int64{1, 2, most - 1, most}, nil},
		{"Q", tight, func(a *api.Task, n int64) { a.Q = n }, []int64{1, 2, most - 1, most}, nil},
		{"J", roomy, func(a *api.Task, n int64) { a.J = n }, []int64{0, 1, most - 2, most - 1}, []int64{-1}},
		{"P", one, func(a *api.Task, n int64) { a.P = int(n) }, []int64{1, 2, prios - 1, prios}, []int64{0, -1, prios + 1, prios + 2, 1<<32 + 1, -1 << 32, 1 << 62, leastInt64, mostInt64}},
	} {
		bad := append(x.bad, most+1, most+2, 1<<32, 1<<32+1, 1<<33+5, -1<<32+1, -most, -most-1, 1<<62, leastInt64, leastInt64+1, mostInt64-1, mostInt64)
		if x.what != "J" {
			bad = append(bad, 0, -1, -2)
		}
		for _, n := range x.okay {
			a := x.from
			x.set(&a, n)
			wantCheck(t, a, api.OK)
		}
		for _, n := range bad {
			a := x.from
			x.set(&a, n)
			wantCheck(t, a, api.ErrRange)
		}
	}
	// J may be the greatest time by its range; but then no D has room for it, and C.
	wantCheck(t, api.Task{Name: "a", C: 1, T: most, D: most, J: most, Q: 1, P: 1}, api.ErrConstraint)
	wantCheck(t, api.Task{Name: "a", C: most, T: most, D: most, J: most, Q: most, P: 1}, api.ErrConstraint)
}

func TestCheckOfWhatIsHeldAgainstAnother(t *testing.T) {
	for _, x := range []struct {
		c, t, d, j, q int64
		want          api.Errno
	}{
		{5, 100, 50, 0, 4, api.OK}, {5, 100, 50, 0, 5, api.OK}, {5, 100, 50, 0, 6, api.ErrConstraint}, {1, 100, 50, 0, 2, api.ErrConstraint}, {1, most, most, 0, most, api.ErrConstraint},
		{5, 100, 12, 7, 1, api.OK}, {5, 100, 13, 7, 1, api.OK}, {5, 100, 11, 7, 1, api.ErrConstraint}, {5, 100, 5, 0, 1, api.OK}, {5, 100, 4, 0, 1, api.ErrConstraint}, {5, 100, 5, 1, 1, api.ErrConstraint},
		{6, 100, 12, 7, 1, api.ErrConstraint}, {5, 100, 12, 8, 1, api.ErrConstraint},
		{5, 50, 49, 7, 1, api.OK}, {5, 50, 50, 7, 1, api.OK}, {5, 50, 51, 7, 1, api.ErrConstraint}, {1, 1, 2, 0, 1, api.ErrConstraint}, {1, 1, most, 0, 1, api.ErrConstraint},
		{1, most, most, most - 1, 1, api.OK}, {2, most, most, most - 1, 1, api.ErrConstraint}, {most, most, most, 1, 1, api.ErrConstraint},
		// J and C together are not above T, but above D; and the other way round.
		{3, 20, 9, 7, 1, api.ErrConstraint}, {3, 9, 20, 7, 1, api.ErrConstraint},
		// Several of them.
		{5, 10, 11, 7, 6, api.ErrConstraint}, {5, 3, 4, 0, 6, api.ErrConstraint},
	} {
		wantCheck(t, api.Task{Name: "a", C: x.c, T: x.t, D: x.d, J: x.j, Q: x.q, P: 1}, x.want)
	}
}

// What is out of its range comes first, whatever else is so, and wherever.
func TestCheckOfSeveral(t *testing.T) {
	tooLate := func(a *api.Task) { a.Q, a.J, a.T = a.C+1, a.D, a.D-1 }
	for _, out := range []func(a *api.Task){
		func(a *api.Task) { a.Name = "" },
		func(a *api.Task) { a.Name = "1" },
		func(a *api.Task) { a.Name = strings.Repeat("a", 33) },
		func(a *api.Task) { a.C = 0 },
		func(a *api.Task) { a.T = 0 },
		func(a *api.Task) { a.D = most + 1 },
		func(a *api.Task) { a.J = -1 },
		func(a *api.Task) { a.J = most + 1 },
		func(a *api.Task) { a.J = mostInt64 },
		func(a *api.Task) { a.Q = most + 1 },
		func(a *api.Task) { a.P = 0 },
		func(a *api.Task) { a.P = prios + 1 },
	} {
		wantCheck(t, with(out), api.ErrRange)
		wantCheck(t, with(func(a *api.Task) { tooLate(a); out(a) }), api.ErrRange)
	}
	wantCheck(t, with(tooLate), api.ErrConstraint)
	wantCheck(t, api.Task{}, api.ErrRange)
	wantCheck(t, api.Task{Name: "a"}, api.ErrRange)
	// Sums that would go round.
	wantCheck(t, api.Task{Name: "a", C: mostInt64, T: 9, D: 9, J: mostInt64, Q: 1, P: 1}, api.ErrRange)
	wantCheck(t, api.Task{Name: "a", C: leastInt64, T: 9, D: 9, J: leastInt64, Q: 1, P: 1}, api.ErrRange)
}

// modelCheck is the chapter's words, with numbers that never go round.
func modelCheck(a api.Task) api.Errno {
	words := map[string]bool{"a": true, "b": true, "": false, "1": false, strings.Repeat("a", 33): false}
	word, known := words[a.Name]
	if !known {
		panic("no name of the model")
	}
	from := func(n int64, low, high int64) bool { return n >= low && n <= high }
	wide := func(n int64) *big.Int { return big.NewInt(n) }
	bad := !word
	for _, n := range []int64{a.C, a.T, a.D, a.Q} {
		bad = bad || !from(n, 1, 2147483647)
	}
	if bad || !from(a.J, 0, 2147483647) || !from(int64(a.P), 1, 1048576) {
		return 11
	}
	if wide(a.Q).Cmp(wide(a.C)) > 0 || new(big.Int).Add(wide(a.C), wide(a.J)).Cmp(wide(a.D)) > 0 || wide(a.D).Cmp(wide(a.T)) > 0 {
		return 12
	}
	return 0
}

func TestCheckLikeModel(t *testing.T) {
	times := []int64{leastInt64, -1, 0, 1, 2, 3, most - 1, most, most + 1, 1<<32 + 1, mostInt64}
	told := map[api.Errno]int{}
	check := func(a api.Task) {
		want := modelCheck(a)
		told[want]++
		wantCheck(t, a, want)
	}
	for _, c := range times {
		for _, period := range times {
			for _, d := range times {
				for _, j := range times {
					for _, q := range times {
						check(api.Task{Name: "a", C: c, T: period, D: d, J: j, Q: q, P: 1})
					}
				}
			}
		}
	}
	draw := rand.New(rand.NewSource(4))
	for range 20000 {
		n := func() int64 { return draw.Int63n(6) }
		a := api.Task{Name: []string{"a", "a", "b", "a", "b", "a", "", "1", strings.Repeat("a", 33)}[draw.Intn(9)], C: n(), T: n() + 2, D: n() + 1, J: n() - 1, Q: n(), P: []int{0, 1, 5, 7, 9, prios, prios + 1, leastInt, mostInt}[draw.Intn(9)]}
		check(a)
	}
	for _, e := range []api.Errno{api.OK, api.ErrRange, api.ErrConstraint} {
		if told[e] < 50 {
			t.Errorf("the model tells %d but %d times", int(e), told[e])
		}
	}
}

// P4.2

func TestCheckAllOfHowMany(t *testing.T) {
	wantAll(t, "nil", nil, 0, api.ErrMany)
	wantAll(t, "none", []api.Task{}, 0, api.ErrMany)
	for _, n := range []int{1, 2, 3, 63, 64, 65, 1023, 1024} {
		wantAll(t, fmt.Sprint(n), many(n), n, api.OK)
	}
	for _, n := range []int{1025, 1026, 2048, 70000} {
		wantAll(t, fmt.Sprint(n), many(n), 0, api.ErrMany)
	}
	tooMany := many(1025)
	tooMany[0].C = 0
	tooMany[5] = tooMany[4]
	wantAll(t, "1025, with other errors", tooMany, 0, api.ErrMany)
	wantAll(t, "1025 of nothing", make([]api.Task, 1025), 0, api.ErrMany)
	wantAll(t, "1024 of nothing", make([]api.Task, 1024), 0, api.ErrRange)
}

func TestCheckAllOfOne(t *testing.T) {
	wantAll(t, "a good one", []api.Task{good()}, 1, api.OK)
	wantAll(t, "nothing", []api.Task{{}}, 0, api.ErrRange)
	wantAll(t, "a bad one", []api.Task{with(func(a *api.Task) { a.P = 0 })}, 0, api.ErrRange)
	wantAll(t, "a late one", []api.Task{with(func(a *api.Task) { a.Q = a.C + 1 })}, 0, api.ErrConstraint)
}

// Every fault is told at every place.
func TestCheckAllTellsTheFault(t *testing.T) {
	const n = 6
	for at := range n {
		what := fmt.Sprint("a fault at ", at)
		l := many(n)
		l[at].J = -1
		wantAll(t, what, l, at, api.ErrRange)
		l = many(n)
		l[at].D = l[at].T + 1
		wantAll(t, what, l, at, api.ErrConstraint)
		for ahead := range at {
			l = many(n)
			l[at].Name = l[ahead].Name
			wantAll(t, what, l, at, api.ErrDuplicate)
			l = many(n)
			l[at].P = l[ahead].P
			wantAll(t, what, l, at, api.ErrDuplicate)
			l[at].Name = l[ahead].Name
			wantAll(t, what, l, at, api.ErrDuplicate)
			for other := range at {
				l = many(n)
				l[at].Name, l[at].P = l[ahead].Name, l[other].P
				wantAll(t, what, l, at, api.ErrDuplicate)
			}
		}
	}
	last := many(1024)
	last[1023].Name = "t0"
	wantAll(t, "the first one's name at the end", last, 1023, api.ErrDuplicate)
	last = many(1024)
	last[1023].P = 1
	wantAll(t, "the first one's P at the end", last, 1023, api.ErrDuplicate)
}

// Of a task that is in error by itself, too, its own error is told.
func TestCheckAllTellsATasksOwnErrorFirst(t *testing.T) {
	l := many(3)
	l[2].Name, l[2].P, l[2].C = l[0].Name, l[1].P, 0
	wantAll(t, "one there already, and out of range", l, 2, api.ErrRange)
	l[2].C = 1
	l[2].Q = 2
	wantAll(t, "one there already, and not right", l, 2, api.ErrConstraint)
	l = many(3)
	l[2].Name, l[2].T = l[0].Name, most+1
	wantAll(t, "a name there already, and out of range", l, 2, api.ErrRange)
	l = many(3)
	l[2].P, l[2].D = l[1].P, l[2].T+1
	wantAll(t, "a P there already, and not right", l, 2, api.ErrConstraint)
}

func TestCheckAllTellsTheFirstPlaceOfSeveral(t *testing.T) {
	late := func(a *api.Task) { a.Q = a.C + 1 }
	out := func(a *api.Task) { a.C = -1 }
	again := func(a *api.Task) { a.Name = "t0" }
	alike := func(a *api.Task) { a.P = 1 }
	faults := []struct {
		put func(a *api.Task)
		e   api.Errno
	}{{late, api.ErrConstraint}, {out, api.ErrRange}, {again, api.ErrDuplicate}, {alike, api.ErrDuplicate}}
	for _, first := range faults {
		for _, then := range faults {
			l := many(6)
			first.put(&l[2])
			then.put(&l[4])
			wantAll(t, "two faults", l, 2, first.e)
			then.put(&l[5])
			then.put(&l[3])
			wantAll(t, "four faults", l, 2, first.e)
		}
	}
}

func TestCheckAllOfNamesAndPriosThatAreOnlyNear(t *testing.T) {
	names := []string{"a", "A", "_a", "a_", "a.", "a-", "aa", "a0", "a1", strings.Repeat("a", 31), strings.Repeat("a", 32), "9"}
	l := many(len(names))
	for i := range l {
		l[i].Name = names[i]
	}
	wantAll(t, "names that are near, and one bad at the end", l, len(l)-1, api.ErrRange)
	wantAll(t, "names that are near", l[:len(l)-1], len(l)-1, api.OK)
	p := many(4)
	p[0].P, p[1].P, p[2].P, p[3].P = prios, 1, prios-1, 2
	wantAll(t, "P at the ends", p, 4, api.OK)
	// A name that is like another's P, or number, is no name that is there.
	n := many(2)
	n[0].Name, n[0].P, n[1].Name, n[1].P = "x1", 2, "x2", 1
	wantAll(t, "names like numbers", n, 2, api.OK)
}

// modelAll looks at all pairs.
func modelAll(l []api.Task) (int, api.Errno) {
	if len(l) < 1 || len(l) > 1024 {
		return 0, 14
	}
	for i, a := range l {
		if e := modelCheck(a); e != 0 {
			return i, e
		}
		for _, b := range l[:i] {
			if a.Name == b.Name || a.P == b.P {
				return i, 13
			}
		}
	}
	return len(l), 0
}

func TestCheckAllLikeModel(t *testing.T) {
	draw := rand.New(rand.NewSource(5))
	told := map[api.Errno]int{}
	for range 30000 {
		l := make([]api.Task, draw.Intn(4))
		for i := range l {
			l[i] = api.Task{Name: []string{"a", "b", "a", "b", "a", "b", "", strings.Repeat("a", 33)}[draw.Intn(8)], C: 1 + draw.Int63n(2), T: 9, D: 7 + draw.Int63n(3), J: draw.Int63n(3), Q: 1 + draw.Int63n(2), P: draw.Intn(7)}
		}
		at, e := modelAll(l)
		told[e]++
		wantAll(t, fmt.Sprintf("%+v", l), l, at, e)
	}
	for _, e := range []api.Errno{api.OK, api.ErrRange, api.ErrConstraint, api.ErrDuplicate, api.ErrMany} {
		if told[e] < 100 {
			t.Errorf("the model tells %d but %d times", int(e), told[e])
		}
	}
}

// P4.3

// urgent is, by the chapter's words, who is more, and who is less so.
func urgent(l []api.Task, i int) (higher, lower []int) {
	if i < 0 || i >= len(l) {
		return nil, nil
	}
	for k := range min(len(l), 1024) {
		if l[k].P < l[i].P {
			higher = append(higher, k)
		}
		if l[k].P > l[i].P {
			lower = append(lower, k)
		}
	}
	return higher, lower
}

func wantUrgent(t *testing.T, l []api.Task, i int) {
	t.Helper()
	higher, lower := urgent(l, i)
	if got := task.Higher(l, i); got != marks.Of(higher...) {
		t.Errorf("Higher of %d of %d tasks: %v, want %v", i, len(l), slices.Collect(got.All()), higher)
	}
	if got := task.Lower(l, i); got != marks.Of(lower...) {
		t.Errorf("Lower of %d of %d tasks: %v, want %v", i, len(l), slices.Collect(got.All()), lower)
	}
}

// noPlaces are places that no row of n tasks has.
func noPlaces(n int) []int {
	return []int{-1, -2, -64, -1024, leastInt, leastInt + 1, n, n + 1, n + 64, n + 1024, 1 << 32, 1<<32 + 1, mostInt - 1, mostInt}
}

func TestHigherAndLower(t *testing.T) {
	l := ofPrios(30, 10, 20, 10, 30)
	for _, x := range []struct {
		i             int
		higher, lower []int
	}{
		{0, []int{1, 2, 3}, nil},
		{1, nil, []int{0, 2, 4}},
		{2, []int{1, 3}, []int{0, 4}},
		{3, nil, []int{0, 2, 4}},
		{4, []int{1, 2, 3}, nil},
		{-1, nil, nil},
		{5, nil, nil},
	} {
		if got := task.Higher(l, x.i); got != marks.Of(x.higher...) {
			t.Errorf("Higher of %d: %v, want %v", x.i, slices.Collect(got.All()), x.higher)
		}
		if got := task.Lower(l, x.i); got != marks.Of(x.lower...) {
			t.Errorf("Lower of %d: %v, want %v", x.i, slices.Collect(got.All()), x.lower)
		}
	}
}

func TestHigherAndLowerOfNoPlace(t *testing.T) {
	for _, n := range []int{0, 1, 2, 5, 1023, 1024, 1025} {
		l := many(n)
		for _, i := range noPlaces(n) {
			if h, w := task.Higher(l, i), task.Lower(l, i); h != (marks.Set{}) || w != (marks.Set{}) {
				t.Errorf("of %d of %d tasks: %v and %v", i, n, slices.Collect(h.All()), slices.Collect(w.All()))
			}
		}
	}
	if task.Higher(nil, 0) != (marks.Set{}) || task.Lower(nil, 0) != (marks.Set{}) {
		t.Error("of place 0 of nil there are some")
	}
}

func TestHigherAndLowerOfOne(t *testing.T) {
	for _, p := range []int{leastInt, -1, 0, 1, prios, mostInt} {
		wantUrgent(t, ofPrios(p), 0)
	}
}

// rows are tasks of all kinds of P, and as many as there may be, and more.
func rows() [][]api.Task {
	l := [][]api.Task{
		nil,
		ofPrios(1), ofPrios(5, 5), ofPrios(1, 2), ofPrios(2, 1), ofPrios(5, 5, 5, 5), ofPrios(3, 1, 2), ofPrios(3, 1, 3, 1, 2, 2),
		ofPrios(mostInt, leastInt), ofPrios(leastInt, mostInt, 0, -1, 1), ofPrios(leastInt, 1, leastInt, mostInt, mostInt, leastInt+1, mostInt-1),
		ofPrios(1<<32, 1, 1<<32+1, 2, -1<<32),
		many(64), many(65), many(1024),
	}
	draw := rand.New(rand.NewSource(6))
	for _, n := range []int{2, 3, 10, 63, 64, 65, 1023, 1024, 1025, 1088, 2100} {
		for _, of := range []int{2, 7, 5000} {
			ps := make([]int, n)
			for i := range ps {
				ps[i] = draw.Intn(of) - of/3
			}
			l = append(l, ofPrios(ps...))
		}
	}
	falling := many(1500)
	for i := range falling {
		falling[i].P = -i
	}
	return append(l, falling)
}

func TestHigherAndLowerLikeModel(t *testing.T) {
	for _, l := range rows() {
		places := []int{0, 1, 63, 64, 65, 500, 1022, 1023, 1024, 1025, 1087, 1088, len(l) - 2, len(l) - 1}
		if len(l) < 70 {
			for i := range l {
				places = append(places, i)
			}
		}
		for _, i := range append(places, noPlaces(len(l))...) {
			wantUrgent(t, l, i)
		}
	}
}

// A place beyond those that a set can have is still one of a task.
func TestHigherAndLowerOfMoreThan1024(t *testing.T) {
	l := many(1030)
	if got := task.Higher(l, 1029); got != marks.Below(1024) {
		t.Errorf("Higher of 1029: %d places", got.Len())
	}
	if got := task.Lower(l, 1029); got != (marks.Set{}) {
		t.Errorf("Lower of 1029: %d places", got.Len())
	}
	if got := task.Lower(l, 1020); got != marks.Of(1021, 1022, 1023) {
		t.Errorf("Lower of 1020: %v", slices.Collect(got.All()))
	}
	l[1027].P = 0
	if got := task.Higher(l, 0); got != (marks.Set{}) {
		t.Errorf("Higher of 0, where only 1027 is so: %v", slices.Collect(got.All()))
	}
	if got := task.Lower(l, 1027); got != marks.Below(1024) {
		t.Errorf("Lower of 1027: %d places", got.Len())
	}
}

// modelOrder draws out, again and again, the first of the least P.
func modelOrder(l []api.Task) []int {
	var order []int
	taken := make([]bool, len(l))
	for range l {
		best := -1
		for i := range l {
			if !taken[i] && (best < 0 || l[i].P < l[best].P) {
				best = i
			}
		}
		taken[best] = true
		order = append(order, best)
	}
	return order
}

func TestOrder(t *testing.T) {
	for _, x := range []struct {
		l    []api.Task
		want []int
	}{
		{nil, nil},
		{[]api.Task{}, nil},
		{ofPrios(7), []int{0}},
		{ofPrios(3, 1, 2), []int{1, 2, 0}},
		{ofPrios(1, 2, 3), []int{0, 1, 2}},
		{ofPrios(3, 2, 1), []int{2, 1, 0}},
		{ofPrios(4, 4, 4, 4), []int{0, 1, 2, 3}},
		{ofPrios(2, 1, 2, 1, 2, 1), []int{1, 3, 5, 0, 2, 4}},
		{ofPrios(mostInt, leastInt, 0, -1), []int{1, 3, 2, 0}},
	} {
		if got := task.Order(x.l); !slices.Equal(got, x.want) {
			t.Errorf("Order of %+v: %v, want %v", x.l, got, x.want)
		}
	}
}

func TestOrderLikeModel(t *testing.T) {
	for _, l := range rows() {
		before := slices.Clone(l)
		if got := task.Order(l); !slices.Equal(got, modelOrder(l)) {
			t.Errorf("Order of %d tasks: %v, want %v", len(l), got, modelOrder(l))
		}
		if !slices.Equal(before, l) {
			t.Errorf("Order of %d tasks: what was handed in is changed", len(l))
		}
	}
	alike := ofPrios(make([]int, 3000)...)
	for i, place := range task.Order(alike) {
		if i != place {
			t.Fatalf("Order of 3000 of the same P: %d at %d", place, i)
		}
	}
}

func TestOrderIsNew(t *testing.T) {
	l := many(5)
	first := task.Order(l)
	for i := range first {
		first[i] = 9
	}
	if got := task.Order(l); !slices.Equal(got, []int{0, 1, 2, 3, 4}) {
		t.Errorf("Order, asked again: %v", got)
	}
}

func TestFind(t *testing.T) {
	l := []api.Task{{Name: "b"}, {Name: "a", P: 3}, {Name: ""}, {Name: "a", P: 1}, {Name: "A"}, {Name: ""}, {Name: "ab"}, {Name: "a b"}, {Name: "\xff"}}
	find := func(l []api.Task, name string, at int, ok bool) {
		t.Helper()
		if got, well := task.Find(l, name); got != at || well != ok {
			t.Errorf("Find of %q: %d, %v, want %d, %v", name, got, well, at, ok)
		}
	}
	find(l, "b", 0, true)
	find(l, "a", 1, true)
	find(l, "", 2, true)
	find(l, "A", 4, true)
	find(l, "ab", 6, true)
	find(l, "a b", 7, true)
	find(l, "\xff", 8, true)
	find(l, "c", 0, false)
	find(l, "B", 0, false)
	find(l, "a ", 0, false)
	find(l, "abc", 0, false)
	find(l, "\xfe", 0, false)
	find(l[:2], "", 0, false)
	find(nil, "a", 0, false)
	find(nil, "", 0, false)
	find([]api.Task{}, "", 0, false)
	find([]api.Task{{}}, "", 0, true)
	long := many(3000)
	find(long, "t0", 0, true)
	find(long, "t1024", 1024, true)
	find(long, "t2999", 2999, true)
	find(long, "t3000", 0, false)
	long[2000].Name = strings.Repeat("n", 5000)
	find(long, strings.Repeat("n", 5000), 2000, true)
	find(long, strings.Repeat("n", 4999), 0, false)
}

// What the document shows.

func Example() {
	fmt.Println(task.Check(api.Task{Name: "a", C: 2, T: 9, D: 9, J: 8, Q: 1, P: 1}))
	l := []api.Task{
		{Name: "slow", C: 3, T: 20, D: 20, Q: 3, P: 3},
		{Name: "fast", C: 1, T: 4, D: 4, Q: 1, P: 1},
		{Name: "mid", C: 2, T: 9, D: 9, J: 1, Q: 1, P: 2},
	}
	fmt.Println(task.CheckAll(l))
	fmt.Println(task.Order(l))
	fmt.Println(task.Find(l, "mid"))
	for i := range task.Higher(l, 2).All() {
		fmt.Println("more urgent:", l[i].Name)
	}
	for i := range task.Lower(l, 2).All() {
		fmt.Println("less so:", l[i].Name)
	}
	// Output:
	// cadency: error 12
	// 3 cadency: error 0
	// [1 2 0]
	// 2 true
	// more urgent: fast
	// less so: slow
}
