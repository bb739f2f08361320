package rta_test

import (
	"fmt"
	"iter"
	"math"
	"math/rand"
	"slices"
	"strings"
	"testing"

	"cadency/api"
	"cadency/demand"
	"cadency/rta"
	"cadency/task"
)

const long = int64(api.MaxTime)

// row is a task by its numbers: C, T, D, J, Q, P.
type row [6]int64

// set are tasks of these rows, with names of their own.
func set(rows ...row) []api.Task {
	l := make([]api.Task, len(rows))
	for i, r := range rows {
		l[i] = api.Task{Name: fmt.Sprint("t", i), C: r[0], T: r[1], D: r[2], J: r[3], Q: r[4], P: int(r[5])}
	}
	return l
}

// example is the chapter's.
func example() []api.Task {
	return set(row{1, 4, 4, 0, 1, 1}, row{2, 9, 9, 1, 1, 2}, row{3, 20, 20, 0, 3, 3})
}

// mixed is a set whose tasks do not stand in the order of their urgency.
func mixed() []api.Task {
	return set(row{5, 30, 30, 3, 4, 7}, row{1, 5, 5, 1, 1, 1}, row{2, 12, 11, 0, 2, 3}, row{4, 60, 55, 9, 1, 40}, row{3, 18, 17, 7, 3, 2})
}

// full is a set of as many tasks as may be, the least urgent one first, of which some have no bound.
func full() []api.Task {
	l := make([]api.Task, api.MaxTasks)
	for i := range l {
		n := int64(i)
		l[i] = set(row{1 + n%3, 3000 + n%97, 2000 + n%97, n % 11, 1 + n%3%2, api.MaxTasks - n})[0]
		l[i].Name = fmt.Sprint("t", i)
	}
	return l
}

// halves is a set of a task of C 1, behind n more urgent ones that need a half of all ticks, a fourth, and so on.
func halves(n int) []api.Task {
	l := make([]api.Task, 0, n+1)
	for k := range n {
		l = append(l, set(row{1, 2 << k, 2 << k, 0, 1, int64(k + 1)})...)
		l[k].Name = fmt.Sprint("h", k)
	}
	return append(l, set(row{1, long, long, 0, 1, 99})...)
}

func shown(l []api.Task) string {
	s := make([]string, 0, 6)
	for _, t := range l[:min(len(l), 6)] {
		s = append(s, fmt.Sprint(t.C, " ", t.T, " ", t.D, " ", t.J, " ", t.Q, " ", t.P))
	}
	return fmt.Sprintf("%d tasks (%s)", len(l), strings.Join(s, ", "))
}

// The models: what the chapter's words say.

func may(l []api.Task, i int) bool {
	_, e := task.CheckAll(l)
	return e == api.OK && i >= 0 && i < len(l)
}

// modelNeed is Need, by chapter 13, of a set that may be, and ticks near those that there are, where nothing goes round.
func modelNeed(l []api.Task, i int, w uint64) uint64 {
	own, block := l[i], int64(0)
	sum := uint64(own.C)
	for _, t := range l {
		switch {
		case t.P > own.P:
			block = max(block, t.Q-1)
		case t.P < own.P && w > 0:
			sum += uint64(t.C) * ((w + uint64(t.J) + uint64(t.T) - 1) / uint64(t.T))
		}
	}
	return sum + uint64(block)
}

func modelEach(l []api.Task, i int) []uint64 {
	if !may(l, i) {
		return nil
	}
	most := uint64(l[i].D - l[i].J)
	numbers := []uint64{modelNeed(l, i, 0)}
	for {
		last := numbers[len(numbers)-1]
		next := modelNeed(l, i, last)
		if next == last || last > most {
			return numbers
		}
		numbers = append(numbers, next)
	}
}

func modelBound(l []api.Task, i int) (int64, api.Errno) {
	numbers := modelEach(l, i)
	if len(numbers) == 0 {
		return 0, api.ErrArg
	}
	last := int64(numbers[len(numbers)-1])
	if last > l[i].D-l[i].J {
		return 0, api.ErrMiss
	}
	return last + l[i].J, api.OK
}

func modelAll(l []api.Task) ([]int64, []int, api.Errno) {
	if !may(l, 0) {
		return nil, nil, api.ErrArg
	}
	var bounds []int64
	var late []int
	told := api.OK
	for i := range l {
		n, e := modelBound(l, i)
		if e == api.ErrMiss {
			late, told = append(late, i), api.ErrMiss
		}
		bounds = append(bounds, n)
	}
	return bounds, late, told
}

// modelLeast tries all w from 1 up to D less J, with demand's own Need.
func modelLeast(l []api.Task, i int) (int64, api.Errno) {
	for w := int64(1); w <= l[i].D-l[i].J; w++ {
		if demand.Need(l, i, uint64(w)) <= uint64(w) {
			return w + l[i].J, api.OK
		}
	}
	return 0, api.ErrMiss
}

// Calls, and what they should tell.

// kept makes a call, and holds what it was handed in against what that is afterwards, also behind its end.
func kept(t *testing.T, what string, l []api.Task, call func(l []api.Task)) {
	t.Helper()
	room := append(slices.Clone(l), api.Task{Name: "x", C: 11}, api.Task{J: -1})
	before := slices.Clone(room)
	call(room[:len(l)])
	if !slices.Equal(room, before) {
		t.Fatalf("%s of %s: what was handed in is changed", what, shown(l))
	}
}

// wantEach goes over the numbers twice.
func wantEach(t *testing.T, l []api.Task, i int, want ...uint64) {
	t.Helper()
	kept(t, "Each", l, func(l []api.Task) {
		t.Helper()
		numbers := rta.Each(l, i)
		if numbers == nil {
			t.Fatalf("Each of %d of %s: nil", i, shown(l))
		}
		for range 2 {
			if got := slices.Collect(numbers); !slices.Equal(got, want) {
				t.Fatalf("Each of %d of %s: %d (%d), want %d (%d)", i, shown(l), got[:min(len(got), 50)], len(got), want[:min(len(want), 50)], len(want))
			}
		}
	})
}

func wantBound(t *testing.T, l []api.Task, i int, want int64, e api.Errno) {
	t.Helper()
	kept(t, "Bound", l, func(l []api.Task) {
		t.Helper()
		if got, err := rta.Bound(l, i); got != want || err != e {
			t.Fatalf("Bound of %d of %s: %d, %d, want %d, %d", i, shown(l), got, int(err), want, int(e))
		}
	})
}

// wantAll asks Tests too.
func wantAll(t *testing.T, l []api.Task, want []int64, late []int, e api.Errno) {
	t.Helper()
	kept(t, "All", l, func(l []api.Task) {
		t.Helper()
		bounds, miss, err := rta.All(l)
		if !slices.Equal(bounds, want) || !slices.Equal(miss, late) || err != e {
			t.Fatalf("All of %s: %d, %d, %d, want %d, %d, %d", shown(l), bounds, miss, int(err), want, late, int(e))
		}
	})
	kept(t, "Tests", l, func(l []api.Task) {
		t.Helper()
		if got := rta.Tests(l); got != (e == api.OK) {
			t.Fatalf("Tests of %s: %t, but All tells %d", shown(l), got, int(e))
		}
	})
}

// wantPlace holds what is told of one place.
func wantPlace(t *testing.T, l []api.Task, i int, bound int64, e api.Errno, numbers ...uint64) {
	t.Helper()
	wantEach(t, l, i, numbers...)
	wantBound(t, l, i, bound, e)
}

// wantModels holds all that is told of l against the models.
func wantModels(t *testing.T, l []api.Task) {
	t.Helper()
	for i := -1; i <= len(l); i++ {
		n, e := modelBound(l, i)
		wantPlace(t, l, i, n, e, modelEach(l, i)...)
	}
	bounds, late, e := modelAll(l)
	wantAll(t, l, bounds, late, e)
}

// wantLeast holds the bounds of l against the least number that is enough.
func wantLeast(t *testing.T, l []api.Task) {
	t.Helper()
	for i := range l {
		n, e := modelLeast(l, i)
		wantBound(t, l, i, n, e)
	}
}

// wantNothing asks all of a set that may not be, or of a place that there is not.
func wantNothing(t *testing.T, l []api.Task, i int) {
	t.Helper()
	wantPlace(t, l, i, 0, api.ErrArg)
	if !may(l, 0) {
		wantAll(t, l, nil, nil, api.ErrArg)
	}
}

// perms calls do with each order of l, and, by l's places, where these stand in it.
func perms(l []api.Task, do func(l []api.Task, at []int)) {
	own, at := slices.Clone(l), make([]int, len(l))
	var from func(n int, left []int)
	from = func(n int, left []int) {
		if len(left) == 0 {
			do(own, at)
			return
		}
		for k, place := range left {
			own[n], at[place] = l[place], n
			from(n+1, slices.Concat(left[:k], left[k+1:]))
		}
	}
	places := make([]int, len(l))
	for i := range places {
		places[i] = i
	}
	from(0, places)
}

// drawn is a set that may be, of up to n tasks, in no order, with numbers up to some end, of which each works at most its part by that of its T.
func drawn(r *rand.Rand, n int, end, part int64) []api.Task {
	l := make([]api.Task, 1+r.Intn(n))
	prios := r.Perm(2 * len(l))
	for i := range l {
		period := 1 + r.Int63n(end)
		c := 1 + r.Int63n(max(period/part, 1))
		d := c + r.Int63n(period-c+1)
		if r.Intn(3) > 0 {
			d = period
		}
		j := r.Int63n(d - c + 1)
		if r.Intn(2) > 0 {
			j = 0
		}
		l[i] = set(row{c, period, d, j, 1 + r.Int63n(c), int64(1 + prios[i])})[0]
		l[i].Name = fmt.Sprint("t", i)
	}
	return l
}

// small calls do with each task whose T is at most end, of that P.
func small(end, p int64, do func(r row)) {
	for period := int64(1); period <= end; period++ {
		for d := int64(1); d <= period; d++ {
			for c := int64(1); c <= d; c++ {
				for j := int64(0); j <= d-c; j++ {
					for q := int64(1); q <= c; q++ {
						do(row{c, period, d, j, q, p})
					}
				}
			}
		}
	}
}

// P14.1 and P14.2

// reckoned are reckonings whose numbers are written out.
var reckoned = []struct {
	what    string
	l       []api.Task
	i       int
	numbers []uint64
	bound   int64
	e       api.Errno
}{
	{"the chapter's first", example(), 0, []uint64{3}, 3, api.OK},
	{"the chapter's second", example(), 1, []uint64{4, 5, 6}, 7, api.OK},
	{"the chapter's third", example(), 2, []uint64{3, 6, 7}, 7, api.OK},

	{"one task", set(row{4, 9, 9, 0, 3, 5}), 0, []uint64{4}, 4, api.OK},
	{"one task of C 1", set(row{1, 1, 1, 0, 1, 1}), 0, []uint64{1}, 1, api.OK},
	{"one task with jitter", set(row{4, 9, 9, 3, 1, 1}), 0, []uint64{4}, 7, api.OK},
	{"one task, just D less J", set(row{4, 9, 9, 5, 4, 1}), 0, []uint64{4}, 9, api.OK},
	{"one task, just a D below T", set(row{4, 9, 6, 2, 4, 1}), 0, []uint64{4}, 6, api.OK},

	{"the first at rest, behind a section", set(row{3, 9, 9, 1, 1, 1}, row{4, 50, 50, 0, 4, 2}), 0, []uint64{6}, 7, api.OK},
	{"the first just D less J, and at rest", set(row{3, 9, 9, 3, 1, 1}, row{4, 50, 50, 0, 4, 2}), 0, []uint64{6}, 9, api.OK},
	{"the first too great by one, and at rest", set(row{3, 9, 9, 4, 1, 1}, row{4, 50, 50, 0, 4, 2}), 0, []uint64{6}, 0, api.ErrMiss},
	{"the first too great by one, by D", set(row{3, 9, 8, 3, 1, 1}, row{4, 50, 50, 0, 4, 2}), 0, []uint64{6}, 0, api.ErrMiss},
	{"the first too great, and not at rest", set(row{1, 4, 4, 0, 1, 1}, row{2, 9, 5, 1, 1, 2}, row{6, 20, 20, 0, 4, 3}), 1, []uint64{5}, 0, api.ErrMiss},
	{"the first just D less J, and not at rest", set(row{1, 4, 4, 0, 1, 1}, row{2, 9, 6, 1, 1, 2}, row{6, 20, 20, 0, 4, 3}), 1, []uint64{5, 7}, 0, api.ErrMiss},

	{"the last just D less J, and at rest", set(row{1, 4, 4, 0, 1, 1}, row{2, 9, 7, 1, 1, 2}, row{3, 20, 20, 0, 3, 3}), 1, []uint64{4, 5, 6}, 7, api.OK},
	{"the last too great by one, and at rest", set(row{1, 4, 4, 0, 1, 1}, row{2, 9, 6, 1, 1, 2}, row{3, 20, 20, 0, 3, 3}), 1, []uint64{4, 5, 6}, 0, api.ErrMiss},
	{"the last too great by one, by J", set(row{1, 4, 4, 0, 1, 1}, row{2, 9, 9, 4, 1, 2}, row{3, 20, 20, 0, 3, 3}), 1, []uint64{4, 5, 6}, 0, api.ErrMiss},
	{"the second too great by one", set(row{1, 4, 4, 0, 1, 1}, row{2, 9, 5, 1, 1, 2}, row{3, 20, 20, 0, 3, 3}), 1, []uint64{4, 5}, 0, api.ErrMiss},
	{"the first of several too great", set(row{1, 4, 4, 0, 1, 1}, row{2, 9, 4, 1, 1, 2}, row{3, 20, 20, 0, 3, 3}), 1, []uint64{4}, 0, api.ErrMiss},

	{"in no order", mixed(), 0, []uint64{5, 12, 16, 19}, 22, api.OK},
	{"in no order, the most urgent", mixed(), 1, []uint64{4}, 5, api.OK},
	{"in no order, behind two", mixed(), 2, []uint64{5, 10, 11}, 11, api.OK},
	{"in no order, the least urgent", mixed(), 3, []uint64{4, 15, 23, 24}, 33, api.OK},
	{"in no order, behind the most urgent", mixed(), 4, []uint64{6, 8}, 15, api.OK},

	{"the greatest section ahead of C 1", set(row{1, long, long, 0, 1, 1}, row{long, long, long, 0, long, 2}), 0, []uint64{uint64(long)}, long, api.OK},
	{"the greatest section ahead of C 2", set(row{2, long, long, 0, 1, 1}, row{long, long, long, 0, long, 2}), 0, []uint64{uint64(long) + 1}, 0, api.ErrMiss},
	{"the greatest section ahead of the greatest C", set(row{long, long, long, 0, 1, 1}, row{long, long, long, 0, long, 2}), 0, []uint64{uint64(2*long) - 1}, 0, api.ErrMiss},
	{"the greatest section, and a jitter of 1", set(row{1, long, long, 1, 1, 1}, row{long, long, long, 0, long, 2}), 0, []uint64{uint64(long)}, 0, api.ErrMiss},
	{"the greatest times", set(row{long, long, long, 0, long, api.MaxPrio}), 0, []uint64{uint64(long)}, long, api.OK},
	{"the greatest jitter", set(row{1, long, long, long - 1, 1, 1}), 0, []uint64{1}, long, api.OK},
	{"the greatest jitter ahead", set(row{1, long, long, long - 1, 1, 1}, row{1, long, long, 0, 1, 2}), 1, []uint64{1, 2, 3}, 3, api.OK},
	{"the greatest times ahead", set(row{long, long, long, 0, 1, 1}, row{1, long, long, 0, 1, 2}), 1, []uint64{1, uint64(long) + 1}, 0, api.ErrMiss},
	{"the greatest times ahead, of one less", set(row{long - 1, long, long, 0, 1, 1}, row{1, long, long, 0, 1, 2}), 1, []uint64{1, uint64(long)}, long, api.OK},
	{"the greatest times ahead, of one less, with jitter", set(row{long - 1, long, long, 1, 1, 1}, row{1, long, long, 0, 1, 2}), 1, []uint64{1, uint64(long), 2*uint64(long) - 1}, 0, api.ErrMiss},
	{"the greatest times ahead and behind", set(row{1, long, long, 0, 1, 2}, row{long - 1, long, long, 0, 1, 1}, row{2, long, long, 0, 2, 3}), 0, []uint64{2, uint64(long) + 1}, 0, api.ErrMiss},
}

func TestReckonings(t *testing.T) {
	for _, c := range reckoned {
		t.Run(c.what, func(t *testing.T) {
			wantPlace(t, c.l, c.i, c.bound, c.e, c.numbers...)
			wantModels(t, c.l)
		})
	}
}

// A number that is at rest is told once; the one that D less J is may be told, and one more may not be gone beyond.
func TestEachByEachDeadline(t *testing.T) {
	numbers := []uint64{5, 12, 16, 19} // those of mixed's first one, if they may be
	for d := int64(5 + 3); d <= 30; d++ {
		l := mixed()
		l[0].D = d
		n := 0
		for n < len(numbers)-1 && int64(numbers[n]) <= d-3 {
			n++
		}
		bound, e := int64(22), api.OK
		if d < 22 {
			bound, e = 0, api.ErrMiss
		}
		wantPlace(t, l, 0, bound, e, numbers[:n+1]...)
	}
}

// What is told may be left off behind each one, and gone over again, from its beginning, also within itself.
func TestEachLeftOff(t *testing.T) {
	for _, l := range [][]api.Task{mixed(), halves(9)} {
		i := 0
		if l[0].P == 1 {
			i = len(l) - 1
		}
		numbers := rta.Each(l, i)
		all := slices.Collect(numbers)
		if want := modelEach(l, i); !slices.Equal(all, want) || len(all) < 4 {
			t.Fatalf("Each: %d, want %d", all, want)
		}
		for n := range len(all) + 1 {
			var got []uint64
			calls := 0
			numbers(func(w uint64) bool {
				calls++
				got = append(got, w)
				return len(got) < n
			})
			if want := all[:max(n, 1)]; !slices.Equal(got, want) || calls != len(want) {
				t.Errorf("Each, left off behind %d: %d", n, got)
			}
			if again := slices.Collect(numbers); !slices.Equal(again, all) {
				t.Errorf("Each, gone over again: %d, want %d", again, all)
			}
		}
		for range numbers {
			if inner := slices.Collect(numbers); !slices.Equal(inner, all) {
				t.Fatalf("Each, gone over within itself: %d, want %d", inner, all)
			}
		}
	}
}

// Where all ticks are needed by a more urgent one, there are as many numbers as D less J, and one more: they are told one by one.
func TestEachOfVeryMany(t *testing.T) {
	l := set(row{1, 1, 1, 0, 1, 1}, row{1, long, long, 0, 1, 2})
	want := uint64(1)
	for w := range rta.Each(l, 1) {
		if w != want {
			t.Fatalf("Each: %d, want %d", w, want)
		}
		if want++; want > 1000 {
			break
		}
	}
	l[1].T, l[1].D = 5000, 4000
	numbers := slices.Collect(rta.Each(l, 1))
	if len(numbers) != 4001 || numbers[4000] != 4001 {
		t.Errorf("Each: %d numbers", len(numbers))
	}
	wantModels(t, l)
}

// What was handed in may be another one, when numbers are gone over: they are told as it was.
func TestEachKeepsNothing(t *testing.T) {
	l := mixed()
	want := modelEach(l, 0)
	numbers, none := rta.Each(l, 0), rta.Each(l, 9)
	for i := range l {
		l[i] = api.Task{Name: fmt.Sprint("z", i), C: 1, T: 1, D: 1, Q: 1, P: 8 - i}
	}
	if got := slices.Collect(numbers); !slices.Equal(got, want) {
		t.Errorf("Each of what is changed behind the call: %d, want %d", got, want)
	}
	clear(l)
	if got := slices.Collect(numbers); !slices.Equal(got, want) {
		t.Errorf("Each of what is cleared behind the call: %d, want %d", got, want)
	}
	own := mixed()
	for range rta.Each(own, 0) {
		clear(own) // while it is gone over
	}
	wrong := mixed()
	wrong[3].C = 0
	nothing := rta.Each(wrong, 0)
	wrong[3].C = 1
	for _, s := range []iter.Seq[uint64]{none, nothing} {
		if got := slices.Collect(s); len(got) != 0 {
			t.Errorf("Each of nothing: %d", got)
		}
	}
}

// Where more urgent tasks need all ticks, nobody behind them has a bound, and Bound doesn't go over the many numbers that there are.
func TestBoundWhereNoTicksAreFree(t *testing.T) {
	sevenths := make([]row, 7)
	for k := range sevenths {
		sevenths[k] = row{1, 7, 7, 0, 1, int64(k + 1)}
	}
	many := make([]row, 1000) // whose parts of the ticks have no end, told by halves
	for k := range many {
		many[k] = row{1, 1000, 1000, 0, 1, int64(k + 1)}
	}
	for _, rows := range [][]row{
		{{1, 1, 1, 0, 1, 1}},
		{{4, 4, 4, 0, 1, 1}},
		{{long, long, long, 0, 1, 1}},
		{{1, 1, 1, 0, 1, 1}, {1, 1, 1, 0, 1, 2}},
		{{1, 1, 1, 0, 1, 1}, {1, long, long, 0, 1, 2}}, // somewhat more than all
		{{long, long, long, 0, 1, 1}, {long, long, long, 0, 1, 2}, {1, 1, 1, 0, 1, 3}},
		{{1, 2, 2, 0, 1, 1}, {1, 2, 2, 0, 1, 2}},
		{{1, 3, 3, 0, 1, 1}, {2, 3, 3, 1, 1, 2}},
		{{1, 2, 2, 0, 1, 1}, {1, 3, 3, 0, 1, 2}, {1, 6, 6, 0, 1, 3}},
		{{1, 2, 2, 0, 1, 1}, {1, 3, 3, 0, 1, 2}, {1, 7, 7, 0, 1, 3}, {1, 42, 42, 0, 1, 4}},
		{{long - 1, long, long, 0, 1, 1}, {1, long, long, 0, 1, 2}},
		sevenths,
		many,
	} {
		l := set(append(rows, row{1, long, long, 0, 1, 5000})...)
		wantBound(t, l, len(l)-1, 0, api.ErrMiss)
		if rta.Tests(l) {
			t.Errorf("Tests of %s: true", shown(l))
		}
	}
}

// Where nearly all ticks are needed, a bound may be far from the first number.
func TestBoundWhereFewTicksAreFree(t *testing.T) {
	for n := range 31 {
		wantBound(t, halves(n), n, 1<<n, api.OK)
	}
	for _, c := range []struct {
		d, want int64
		e       api.Errno
	}{{1 << 30, 1 << 30, api.OK}, {1<<30 + 1, 1 << 30, api.OK}, {1<<30 - 1, 0, api.ErrMiss}, {1, 0, api.ErrMiss}} {
		l := halves(30)
		l[30].D = c.d
		wantBound(t, l, 30, c.want, c.e)
	}
	l := halves(30)
	l[30].C = 2 // that is 2^31
	wantBound(t, l, 30, 0, api.ErrMiss)
	l = set(row{999999, 1000000, 1000000, 0, 1, 1}, row{1000, long, long, 7, 1, 2}, row{3, long, long, 0, 3, 3})
	wantBound(t, l, 1, 1002000007, api.OK)
	wantModels(t, l)
	wantModels(t, set(row{5, 6, 6, 0, 1, 1}, row{127, 770, 770, 53, 1, 2}, row{2, long, long, 1, 1, 3}))
	wantModels(t, halves(12))
}

// The most urgent ones of drawn sets need as many ticks as they can, but one in some thousands.
func TestBoundOfDrawnSetsWithFewFreeTicks(t *testing.T) {
	r := rand.New(rand.NewSource(3))
	for range 300 {
		var rows []row
		free := 1.0
		for k := range 1 + r.Intn(5) {
			period := 2 + r.Int63n(1<<(1+r.Intn(10)))
			c := int64(float64(period) * free * 0.999)
			if c < 1 {
				continue
			}
			if r.Intn(3) > 0 {
				c = 1 + r.Int63n(c)
			}
			free -= float64(c) / float64(period)
			rows = append(rows, row{c, period, period, r.Int63n(period-c+1) * int64(r.Intn(2)), 1, int64(k + 1)})
		}
		for _, d := range []int64{50, 3000, 1000000, long} {
			l := set(append(rows, row{1 + r.Int63n(3), d, d, r.Int63n(40), 1, 99})...)
			n, e := modelBound(l, len(l)-1)
			wantBound(t, l, len(l)-1, n, e)
			if e == api.OK && n > l[len(l)-1].J+1 { // just as much as it needs, and one less
				l[len(l)-1].D = n
				wantBound(t, l, len(l)-1, n, api.OK)
				if l[len(l)-1].D--; may(l, 0) {
					wantBound(t, l, len(l)-1, 0, api.ErrMiss)
				}
			}
		}
	}
}

// P14.3

func TestAll(t *testing.T) {
	l := example() // none is late
	wantAll(t, l, []int64{3, 7, 7}, nil, api.OK)
	wantAll(t, mixed(), []int64{22, 5, 11, 33, 15}, nil, api.OK)
	wantAll(t, set(row{4, 9, 9, 3, 1, 1}), []int64{7}, nil, api.OK)
	l[0].D = 2 // one is, at each place
	wantAll(t, l, []int64{0, 7, 7}, []int{0}, api.ErrMiss)
	l = example()
	l[1].D = 6
	wantAll(t, l, []int64{3, 0, 7}, []int{1}, api.ErrMiss)
	l = example()
	l[2].D = 6
	wantAll(t, l, []int64{3, 7, 0}, []int{2}, api.ErrMiss)
	l[0].D = 2 // several are
	wantAll(t, l, []int64{0, 7, 0}, []int{0, 2}, api.ErrMiss)
	l = mixed()
	l[3].D, l[1].D, l[0].D = 30, 4, 20
	wantAll(t, l, []int64{0, 0, 11, 0, 15}, []int{0, 1, 3}, api.ErrMiss)
	l[4].D, l[2].D = 14, 10 // each one is
	wantAll(t, l, make([]int64, 5), []int{0, 1, 2, 3, 4}, api.ErrMiss)
	wantAll(t, set(row{1, 1, 1, 0, 1, 1}, row{2, 3, 3, 0, 2, 2}), make([]int64, 2), []int{0, 1}, api.ErrMiss)
	wantAll(t, set(row{2, 3, 3, 0, 2, 2}, row{1, 1, 1, 0, 1, 1}), make([]int64, 2), []int{0, 1}, api.ErrMiss)
}

// What one call tells is the caller's.
func TestAllTellsNewRows(t *testing.T) {
	l := example()
	l[0].D, l[2].D = 2, 6
	for range 3 {
		bounds, late, e := rta.All(l)
		if !slices.Equal(bounds, []int64{0, 7, 0}) || !slices.Equal(late, []int{0, 2}) || e != api.ErrMiss {
			t.Fatalf("All: %d, %d, %d", bounds, late, int(e))
		}
		bounds[1], late[0] = 99, 99
		_, _ = append(bounds, 5), append(late, 5)
	}
}

// P14.4

func TestBoundsAreTheLeastThatIsEnough(t *testing.T) {
	for _, l := range [][]api.Task{example(), mixed(), halves(7)[:7]} {
		wantLeast(t, l)
	}
	small(3, 2, func(a row) {
		small(4, 1, func(b row) {
			wantLeast(t, set(a, b))
		})
	})
	r := rand.New(rand.NewSource(4))
	for range 300 {
		for _, end := range []int64{6, 40, 300} {
			wantLeast(t, drawn(r, 6, end, 1))
			wantLeast(t, drawn(r, 6, end, 5))
		}
	}
}

// All of it, against the models

func TestSmallSetsAgainstTheModels(t *testing.T) {
	small(5, 3, func(a row) {
		wantModels(t, set(a))
	})
	small(3, 2, func(a row) {
		small(4, 1, func(b row) {
			wantModels(t, set(a, b))
		})
	})
	small(2, 5, func(a row) {
		small(3, 7, func(b row) {
			small(3, 4, func(c row) {
				wantModels(t, set(a, b, c))
			})
		})
	})
}

func TestDrawnSetsAgainstTheModels(t *testing.T) {
	r := rand.New(rand.NewSource(2))
	found := map[api.Errno]int{}
	for range 250 {
		for _, end := range []int64{3, 9, 60, 2000, long} {
			for _, part := range []int64{1, 3, 9} {
				l := drawn(r, 7, end, part)
				wantModels(t, l)
				_, _, e := modelAll(l)
				found[e]++
			}
		}
	}
	if found[api.OK] < 500 || found[api.ErrMiss] < 500 {
		t.Errorf("what was drawn is all alike: %v", found)
	}
}

// Where tasks stand is of no account: only their P.
func TestNothingHangsOnWhereTasksStand(t *testing.T) {
	late := mixed()
	late[3].D, late[1].D = 30, 4
	for _, rows := range [][]api.Task{example(), mixed(), late} {
		perms(rows, func(l []api.Task, at []int) {
			for i := range rows {
				n, e := modelBound(rows, i)
				wantPlace(t, l, at[i], n, e, modelEach(rows, i)...)
			}
			bounds, late, e := modelAll(l)
			wantAll(t, l, bounds, late, e)
		})
	}
}

// A set of as many tasks as may be, of which some have bounds.
func TestFullSet(t *testing.T) {
	l := full()
	bounds, late, e := modelAll(l)
	if len(late) < 9 || len(late) > 1000 {
		t.Fatalf("%d of %s have no bound", len(late), shown(l))
	}
	wantAll(t, l, bounds, late, e)
	for _, i := range []int{0, 1, 63, 64, 511, 1022, 1023} {
		n, e := modelBound(l, i)
		wantPlace(t, l, i, n, e, modelEach(l, i)...)
	}
}

// Wrong inputs

func TestPlacesThatThereAreNot(t *testing.T) {
	for _, l := range [][]api.Task{example(), mixed(), set(row{3, 9, 9, 6, 3, 1}), full()} {
		for _, i := range []int{-1, -2, len(l), len(l) + 1, 1 << 40, math.MinInt, math.MaxInt} {
			wantNothing(t, l, i)
		}
	}
}

// wrongSets are some that may not be: the good one, in which one task is wrong, by one of its numbers, or its name.
func wrongSets(good []api.Task) [][]api.Task {
	changes := []func(a *api.Task){
		func(a *api.Task) { a.Name = "" },
		func(a *api.Task) { a.Name = "a b" },
		func(a *api.Task) { a.Name = strings.Repeat("n", api.MaxName+1) },
		func(a *api.Task) { a.C = 0 },
		func(a *api.Task) { a.C = math.MinInt64 },
		func(a *api.Task) { a.T = 0 },
		func(a *api.Task) { a.T = -1 },
		func(a *api.Task) { a.T, a.D = long+1, long },
		func(a *api.Task) { a.T = math.MaxInt64 },
		func(a *api.Task) { a.D = 0 },
		func(a *api.Task) { a.D = a.T + 1 },
		func(a *api.Task) { a.D = a.C + a.J - 1 },
		func(a *api.Task) { a.J = -1 },
		func(a *api.Task) { a.J = a.D - a.C + 1 },
		func(a *api.Task) { a.J = math.MaxInt64 },
		func(a *api.Task) { a.Q = 0 },
		func(a *api.Task) { a.Q = a.C + 1 },
		func(a *api.Task) { a.Q = math.MaxInt64 },
		func(a *api.Task) { a.P = 0 },
		func(a *api.Task) { a.P = api.MaxPrio + 1 },
		func(a *api.Task) { a.P = math.MinInt },
	}
	var sets [][]api.Task
	for k := range good {
		for _, change := range changes {
			l := slices.Clone(good)
			change(&l[k])
			sets = append(sets, l)
		}
		for other := range good {
			if other != k {
				names, prios := slices.Clone(good), slices.Clone(good)
				names[k].Name, prios[k].P = names[other].Name, prios[other].P
				sets = append(sets, names, prios)
			}
		}
	}
	return sets
}

func TestSetsThatMayNotBe(t *testing.T) {
	for _, l := range append(wrongSets(example()), wrongSets(mixed())...) {
		if _, e := task.CheckAll(l); e == api.OK {
			t.Fatalf("a wrong set may be: %s", shown(l))
		}
		for i := -1; i <= len(l); i++ {
			wantNothing(t, l, i)
		}
	}
	many := append(full(), api.Task{Name: "more", C: 1, T: 9, D: 9, Q: 1, P: 2000}) // one more than there may be
	for _, l := range [][]api.Task{nil, {}, make([]api.Task, 3), many, slices.Concat(full(), full())} {
		for _, i := range []int{-1, 0, 1, 2, len(l) - 1, len(l), math.MinInt, math.MaxInt} {
			wantNothing(t, l, i)
		}
	}
}

func TestNothingIsKept(t *testing.T) {
	good, wrong := example(), example()
	wrong[2].Q = 4
	for range 3 { // one call's answer is not the next one's
		wantPlace(t, good, 1, 7, api.OK, 4, 5, 6)
		wantAll(t, good, []int64{3, 7, 7}, nil, api.OK)
		wantNothing(t, wrong, 1)
		wantNothing(t, nil, 0)
		wantPlace(t, good, 2, 7, api.OK, 3, 6, 7)
		wantPlace(t, good, 0, 3, api.OK, 3)
	}
}
