package sim_test

import (
	"fmt"
	"math"
	"math/rand"
	"slices"
	"strings"
	"testing"

	"cadency/api"
	"cadency/exec"
	"cadency/rta"
	"cadency/scene"
	"cadency/script"
	"cadency/sim"
	"cadency/task"
)

const long = int64(api.MaxTime)

// none is who runs, where no job does, and who is late, where nobody is.
const none = -1

// row is a task by its numbers: C, T, D, J, Q, P.
type row [6]int64

// set are tasks of these rows, with names of their own.
func set(rows ...row) []api.Task {
	l := make([]api.Task, len(rows))
	for i, r := range rows {
		l[i] = api.Task{Name: fmt.Sprint("t", i), C: r[0], T: r[1], D: r[2], J: r[3], Q: r[4], P: int(r[5])}
	}
	return l
}

// example is the chapter's.
func example() []api.Task {
	return set(row{1, 4, 4, 0, 1, 1}, row{2, 9, 9, 1, 1, 2}, row{3, 20, 20, 0, 3, 3})
}

// mixed is a set whose tasks do not stand in the order of their urgency.
func mixed() []api.Task {
	return set(row{5, 30, 30, 3, 4, 7}, row{1, 5, 5, 1, 1, 1}, row{2, 12, 11, 0, 2, 3}, row{4, 60, 55, 9, 1, 40}, row{3, 18, 17, 7, 3, 2})
}

// full is a set of as many tasks as may be, the least urgent one first, of which some have no bound.
func full() []api.Task {
	l := make([]api.Task, api.MaxTasks)
	for i := range l {
		n := int64(i)
		l[i] = set(row{1 + n%3, 3000 + n%97, 2000 + n%97, n % 11, 1 + n%3%2, api.MaxTasks - n})[0]
		l[i].Name = fmt.Sprint("t", i)
	}
	return l
}

// times is l with C, T, D and J so many times as great; sections stay as they are.
func times(l []api.Task, n int64) []api.Task {
	l = slices.Clone(l)
	for i := range l {
		a := &l[i]
		a.C, a.T, a.D, a.J = n*a.C, n*a.T, n*a.D, n*a.J
	}
	return l
}

func shown(l []api.Task) string {
	s := make([]string, 0, 6)
	for _, t := range l[:min(len(l), 6)] {
		s = append(s, fmt.Sprint(t.C, " ", t.T, " ", t.D, " ", t.J, " ", t.Q, " ", t.P))
	}
	return fmt.Sprintf("%d tasks (%s)", len(l), strings.Join(s, ", "))
}

// cut is what is shown of something, if it is very long.
func cut(x any) string {
	s := fmt.Sprintf("%v", x)
	if len(s) > 2000 {
		return s[:2000] + " .."
	}
	return s
}

// The models: what the words of the chapters say. Who runs is told tick by tick, each time by looking at all jobs.

// within asks: has j, which has worked so long, begun one of its sections, and not worked all of it?
func within(j api.Job, worked int64) bool {
	begin := int64(0)
	for _, cut := range j.Cuts {
		if begin < worked && worked < begin+cut {
			return true
		}
		begin += cut
	}
	return false
}

// runsAt is the job that runs at tick t, if each has worked so long, and ahead ran at the tick ahead.
func runsAt(l []api.Task, jobs []api.Job, worked []int64, ahead int, t int64) int {
	if ahead != none && within(jobs[ahead], worked[ahead]) {
		return ahead
	}
	runs := none
	for i, j := range jobs {
		if j.Release > t || worked[i] == j.Work {
			continue
		}
		if runs == none || l[j.Task].P < l[jobs[runs].Task].P {
			runs = i
		}
	}
	return runs
}

// ticks is who runs when, up to tick end, or till all have ended, and when each one ended.
func ticks(l []api.Task, jobs []api.Job, end int64) ([]api.Span, []int64) {
	var spans []api.Span
	ends, left := slices.Repeat([]int64{-1}, len(jobs)), len(jobs)
	worked := make([]int64, len(jobs))
	ahead := none
	for t := int64(0); t < end && left > 0; t++ {
		runs := runsAt(l, jobs, worked, ahead, t)
		if runs != none {
			if runs != ahead {
				spans = append(spans, api.Span{Job: runs, From: t})
			}
			spans[len(spans)-1].To = t + 1
			worked[runs]++
			if worked[runs] == jobs[runs].Work {
				ends[runs], left = t+1, left-1
			}
		}
		ahead = runs
	}
	return spans, ends
}

// player is who tells how jobs run: the ticks, or, where there are too many of these, layer 10.
type player func(l []api.Task, jobs []api.Job, end int64) ([]api.Span, []int64)

func modelPlay(play player, l []api.Task, i int) ([]api.Span, int64, bool) {
	jobs, at, e := scene.Critical(l, i)
	if e != api.OK {
		return nil, -1, false
	}
	spans, ends := play(l, jobs, jobs[at].Arrive+l[i].D)
	return spans, ends[at], ends[at] != -1
}

func modelBound(play player, l []api.Task, i int) (int64, api.Errno) {
	jobs, at, e := scene.Critical(l, i)
	if e != api.OK {
		return 0, e
	}
	_, end, ok := modelPlay(play, l, i)
	if !ok {
		return 0, api.ErrMiss
	}
	return end - jobs[at].Arrive, api.OK
}

func modelScripts(play player, l []api.Task, raw ...[]api.Raw) []int64 {
	if _, e := task.CheckAll(l); e != api.OK {
		return nil
	}
	greatest := make([]int64, len(l))
	for _, r := range raw {
		jobs := script.Decode(l, r)
		_, ends := play(l, jobs, math.MaxInt64)
		for k, j := range jobs {
			greatest[j.Task] = max(greatest[j.Task], ends[k]-j.Arrive)
		}
	}
	return greatest
}

// modelLate is none, where nobody is late.
func modelLate(play player, l []api.Task, raw []api.Raw) int {
	jobs := script.Decode(l, raw)
	_, ends := play(l, jobs, math.MaxInt64)
	for k, j := range jobs {
		if ends[k]-j.Arrive > l[j.Task].D {
			return k
		}
	}
	return none
}

// Calls, and what they should tell.

// kept makes a call, and holds what it was handed in against what that is afterwards, also behind its end.
func kept(t *testing.T, what string, l []api.Task, call func(l []api.Task)) {
	t.Helper()
	room := append(slices.Clone(l), api.Task{Name: "x", C: 11}, api.Task{J: -1})
	before := slices.Clone(room)
	call(room[:len(l)])
	if !slices.Equal(room, before) {
		t.Fatalf("%s of %s: what was handed in is changed", what, shown(l))
	}
}

// keptRow is the same for a row of raw jobs, and their cuts.
func keptRow(t *testing.T, what string, r []api.Raw, call func(r []api.Raw)) {
	t.Helper()
	if r == nil {
		call(nil)
		return
	}
	own := func() []api.Raw {
		room := append(slices.Clone(r), api.Raw{Task: 5, Cuts: []int{7}}, api.Raw{Gap: 3})
		for i, one := range room {
			if one.Cuts != nil {
				room[i].Cuts = append(slices.Clone(one.Cuts), 6, 5)[:len(one.Cuts)]
			}
		}
		return room
	}
	room, before := own(), own()
	call(room[:len(r)])
	same := slices.EqualFunc(room, before, func(a, b api.Raw) bool {
		cuts, same := a.Cuts[:cap(a.Cuts)], b.Cuts[:cap(b.Cuts)]
		return a.Task == b.Task && a.Gap == b.Gap && a.Late == b.Late && a.Work == b.Work && len(a.Cuts) == len(b.Cuts) && slices.Equal(cuts, same)
	})
	if !same {
		t.Fatalf("%s of %s: what was handed in is changed", what, cut(r))
	}
}

func wantPlay(t *testing.T, l []api.Task, i int, spans []api.Span, end int64, ok bool) {
	t.Helper()
	kept(t, "Play", l, func(l []api.Task) {
		t.Helper()
		got, ended, has := sim.Play(l, i)
		if !slices.Equal(got, spans) || ended != end || has != ok {
			t.Fatalf("Play of %d of %s: %s, %d, %t, want %s, %d, %t", i, shown(l), cut(got), ended, has, cut(spans), end, ok)
		}
	})
}

func wantBound(t *testing.T, l []api.Task, i int, want int64, e api.Errno) {
	t.Helper()
	kept(t, "Bound", l, func(l []api.Task) {
		t.Helper()
		if got, err := sim.Bound(l, i); got != want || err != e {
			t.Fatalf("Bound of %d of %s: %d, %d, want %d, %d", i, shown(l), got, int(err), want, int(e))
		}
	})
}

func wantScripts(t *testing.T, l []api.Task, want []int64, raw ...[]api.Raw) {
	t.Helper()
	kept(t, "Scripts", l, func(l []api.Task) {
		t.Helper()
		rows := slices.Clone(raw)
		var hold func(k int)
		hold = func(k int) { // each row is held against what it was, and all of them
			t.Helper()
			if k < len(rows) {
				keptRow(t, "Scripts", raw[k], func(r []api.Raw) {
					t.Helper()
					rows[k] = r
					hold(k + 1)
				})
				return
			}
			before := slices.Clone(rows)
			if got := sim.Scripts(l, rows...); !slices.Equal(got, want) {
				t.Fatalf("Scripts of %s of %s: %s, want %s", cut(raw), shown(l), cut(got), cut(want))
			}
			for k, r := range rows {
				if len(r) != len(before[k]) || len(r) > 0 && &r[0] != &before[k][0] {
					t.Fatalf("Scripts of %s: the rows handed in are other ones", shown(l))
				}
			}
		}
		hold(0)
	})
}

// wantLate is asked for that place, or for none.
func wantLate(t *testing.T, l []api.Task, raw []api.Raw, want int) {
	t.Helper()
	place, ok := max(want, 0), want != none
	kept(t, "Late", l, func(l []api.Task) {
		t.Helper()
		keptRow(t, "Late", raw, func(raw []api.Raw) {
			t.Helper()
			if got, told := sim.Late(l, raw); got != place || told != ok {
				t.Fatalf("Late of %s of %s: %d, %t, want %d, %t", cut(raw), shown(l), got, told, place, ok)
			}
		})
	})
}

// wantModelsOf holds what is told of one place against the models. What the bound is, is told.
func wantModelsOf(t *testing.T, play player, l []api.Task, i int) (int64, api.Errno) {
	t.Helper()
	spans, end, ok := modelPlay(play, l, i)
	wantPlay(t, l, i, spans, end, ok)
	n, e := modelBound(play, l, i)
	wantBound(t, l, i, n, e)
	return n, e
}

// wantReckoned holds all that is told of l's places against the models, and bounds against those that are reckoned. What the bounds are, is told; 0, where there is none.
func wantReckoned(t *testing.T, play player, l []api.Task) []int64 {
	t.Helper()
	bounds := make([]int64, len(l))
	for i := -1; i <= len(l); i++ {
		n, e := wantModelsOf(t, play, l, i)
		reckoned, err := rta.Bound(l, i)
		if n != reckoned || e != err {
			t.Fatalf("of %d of %s: %d, %d is played, %d, %d is reckoned", i, shown(l), n, int(e), reckoned, int(err))
		}
		if e == api.OK {
			bounds[i] = n
		}
	}
	return bounds
}

// wantRows holds Scripts of these rows, and Late of each, against the models.
func wantRows(t *testing.T, play player, l []api.Task, raw ...[]api.Raw) {
	t.Helper()
	wantScripts(t, l, modelScripts(play, l, raw...), raw...)
	for _, r := range raw {
		wantLate(t, l, r, modelLate(play, l, r))
	}
}

// wantBelow asks what follows of these rows: nothing that they tell is above a bound; and if each task has one, nobody is late.
func wantBelow(t *testing.T, l []api.Task, bounds []int64, raw ...[]api.Raw) {
	t.Helper()
	for i, n := range sim.Scripts(l, raw...) {
		if bounds[i] > 0 && n > bounds[i] {
			t.Fatalf("Scripts of %s of %s: %d takes %d, and its bound is %d", cut(raw), shown(l), i, n, bounds[i])
		}
	}
	if slices.Contains(bounds, 0) {
		return
	}
	for _, r := range raw {
		if at, late := sim.Late(l, r); late {
			t.Fatalf("Late of %s of %s: %d, and all tasks have bounds", cut(r), shown(l), at)
		}
	}
}

// wantNothing asks all of a set that may not be.
func wantNothing(t *testing.T, l []api.Task, i int, raw ...[]api.Raw) {
	t.Helper()
	wantPlay(t, l, i, nil, -1, false)
	wantBound(t, l, i, 0, api.ErrArg)
	wantScripts(t, l, nil, raw...)
	wantScripts(t, l, nil)
	for _, r := range append(raw, nil) {
		wantLate(t, l, r, none)
	}
}

// perms calls do with each order of l, and, by l's places, where these stand in it.
func perms(l []api.Task, do func(l []api.Task, at []int)) {
	own, at := slices.Clone(l), make([]int, len(l))
	var from func(n int, left []int)
	from = func(n int, left []int) {
		if len(left) == 0 {
			do(own, at)
			return
		}
		for k, place := range left {
			own[n], at[place] = l[place], n
			from(n+1, slices.Concat(left[:k], left[k+1:]))
		}
	}
	places := make([]int, len(l))
	for i := range places {
		places[i] = i
	}
	from(0, places)
}

// drawn is a set that may be, of up to n tasks, in no order, with numbers up to some end, of which each works at most its part by that of its T.
func drawn(r *rand.Rand, n int, end, part int64) []api.Task {
	l := make([]api.Task, 1+r.Intn(n))
	prios := r.Perm(2 * len(l))
	for i := range l {
		period := 1 + r.Int63n(end)
		c := 1 + r.Int63n(max(period/part, 1))
		d := c + r.Int63n(period-c+1)
		if r.Intn(3) > 0 {
			d = period
		}
		j := r.Int63n(d - c + 1)
		if r.Intn(2) > 0 {
			j = 0
		}
		l[i] = set(row{c, period, d, j, 1 + r.Int63n(c), int64(1 + prios[i])})[0]
		l[i].Name = fmt.Sprint("t", i)
	}
	return l
}

// drawnRow is a row of up to n raw jobs, with numbers up to some end, or, if that is 0, whatever they are.
func drawnRow(r *rand.Rand, n, end int) []api.Raw {
	number := func() int {
		if end == 0 {
			return int(r.Uint64())
		}
		return r.Intn(end)
	}
	raw := make([]api.Raw, r.Intn(n+1))
	for i := range raw {
		raw[i] = api.Raw{Task: number(), Gap: number(), Late: number(), Work: number()}
		if r.Intn(2) > 0 { // as late as may be, and as long
			raw[i].Gap, raw[i].Work = 0, -1
		}
		for range r.Intn(4) {
			raw[i].Cuts = append(raw[i].Cuts, number())
		}
	}
	return raw
}

// small calls do with each task whose T is at most end, of that P.
func small(end, p int64, do func(r row)) {
	for period := int64(1); period <= end; period++ {
		for d := int64(1); d <= period; d++ {
			for c := int64(1); c <= d; c++ {
				for j := int64(0); j <= d-c; j++ {
					for q := int64(1); q <= c; q++ {
						do(row{c, period, d, j, q, p})
					}
				}
			}
		}
	}
}

// P16.1 and P16.2

// plays are places of sets, and what is played of them: spans, when the job ended (-1, if it has not), and the bound (0, if there is none).
var plays = []struct {
	what  string
	l     []api.Task
	i     int
	spans string
	end   int64
	bound int64
}{
	{"the chapter's first", example(), 0, "{0 0 3} {1 3 4}", 4, 3},
	{"the chapter's second", example(), 1, "{0 1 4} {2 4 5} {1 5 6} {3 6 7} {1 7 8}", 8, 7},
	{"the chapter's third", example(), 2, "{1 2 3} {6 3 5} {0 5 6} {2 6 7} {0 7 9} {3 10 11} {7 11 13} {4 14 15} {5 18 19} {8 19 21}", 9, 7},

	{"one task", set(row{4, 9, 9, 0, 3, 5}), 0, "{0 1 5}", 5, 4},
	{"one task of C 1", set(row{1, 1, 1, 0, 1, 1}), 0, "{0 1 2}", 2, 1},
	{"one task that needs all of its D", set(row{4, 9, 4, 0, 3, 5}), 0, "{0 1 5}", 5, 4},
	{"one task with jitter", set(row{4, 9, 9, 3, 1, 1}), 0, "{0 4 8}", 8, 7},
	{"one task with jitter that needs all of its D", set(row{4, 9, 7, 3, 1, 1}), 0, "{0 4 8}", 8, 7},
	{"the most urgent one, and no blocker", set(row{4, 9, 9, 3, 1, 1}, row{5, 30, 30, 20, 1, 2}), 0, "{0 4 8}", 8, 7},
	{"the most urgent one, and a blocker", set(row{4, 12, 12, 3, 1, 1}, row{5, 30, 30, 20, 4, 2}), 0, "{0 3 7} {1 7 11}", 11, 10},
	{"the most urgent one, and a blocker of sections of 2", set(row{1, 9, 9, 0, 1, 1}, row{7, 30, 30, 0, 2, 2}), 0, "{0 0 2} {1 2 3}", 3, 2},
	{"two less urgent ones, of which the longer one blocks", set(row{1, 9, 9, 0, 1, 1}, row{7, 30, 30, 0, 2, 2}, row{7, 30, 30, 0, 3, 3}), 0, "{0 0 3} {1 3 4}", 4, 3},
	{"the least urgent one", set(row{1, 5, 5, 0, 1, 1}, row{2, 20, 10, 0, 2, 2}), 1, "{1 1 2} {0 2 4} {2 6 7}", 4, 3},
	{"the one between", set(row{1, 5, 5, 0, 1, 1}, row{2, 20, 10, 0, 2, 2}, row{4, 40, 40, 0, 3, 3}), 1, "{0 0 3} {2 3 4} {1 4 6} {3 6 7}", 6, 5},

	{"it ends just when it should", set(row{3, 9, 9, 0, 1, 1}, row{2, 9, 5, 0, 1, 2}), 1, "{1 1 4} {0 4 6}", 6, 5},
	{"it ends one ahead of it", set(row{3, 9, 9, 0, 1, 1}, row{2, 9, 6, 0, 1, 2}), 1, "{1 1 4} {0 4 6}", 6, 5},
	{"it would end one behind it", set(row{3, 9, 9, 0, 1, 1}, row{2, 9, 4, 0, 1, 2}), 1, "{1 1 4} {0 4 5}", -1, 0},
	{"it would end two behind it", set(row{3, 9, 9, 0, 1, 1}, row{2, 9, 3, 0, 1, 2}), 1, "{1 1 4}", -1, 0},
	{"it would begin behind it", set(row{4, 9, 9, 0, 1, 1}, row{2, 9, 3, 0, 1, 2}), 1, "{1 1 4}", -1, 0},
	{"blocked, just when it should", set(row{2, 9, 5, 0, 1, 1}, row{8, 30, 30, 0, 4, 2}), 0, "{0 0 4} {1 4 6}", 6, 5},
	{"blocked, and one behind it", set(row{2, 9, 4, 0, 1, 1}, row{8, 30, 30, 0, 4, 2}), 0, "{0 0 4} {1 4 5}", -1, 0},
	{"blocked, and nothing else runs", set(row{2, 9, 5, 0, 1, 1}, row{8, 30, 30, 0, 7, 2}), 0, "{0 0 6}", -1, 0},

	{"its D counts from its arrival, just when it should", set(row{2, 9, 9, 0, 1, 1}, row{2, 9, 7, 3, 1, 2}), 1, "{1 4 6} {0 6 8}", 8, 7},
	{"its D counts from its arrival, one behind it", set(row{2, 9, 9, 0, 1, 1}, row{2, 9, 6, 3, 1, 2}), 1, "{1 4 6} {0 6 7}", -1, 0},
	{"its D counts from its arrival, it has not begun", set(row{2, 9, 9, 0, 1, 1}, row{2, 9, 5, 3, 1, 2}), 1, "{1 4 6}", -1, 0},
	{"one ahead has jitter, and it has less", set(row{1, 5, 5, 3, 1, 1}, row{3, 20, 10, 1, 1, 2}), 1, "{1 4 5} {0 5 6} {2 6 7} {0 7 9} {3 11 12}", 9, 6},
	{"one ahead has jitter, and it has more", set(row{1, 5, 5, 3, 1, 1}, row{3, 20, 11, 4, 1, 2}), 1, "{1 5 6} {0 6 7} {2 7 8} {0 8 10}", 10, 9},

	{"one more comes just when it would end", set(row{1, 4, 4, 0, 1, 1}, row{3, 20, 20, 0, 1, 2}), 1, "{1 1 2} {0 2 5} {2 5 6} {3 9 10} {4 13 14} {5 17 18}", 5, 4},
	{"one more comes one ahead of it", set(row{1, 4, 4, 0, 1, 1}, row{4, 20, 20, 0, 1, 2}), 1, "{1 1 2} {0 2 5} {2 5 6} {0 6 7} {3 9 10} {4 13 14} {5 17 18}", 7, 6},
	{"one more comes just when it should have ended", set(row{1, 4, 4, 0, 1, 1}, row{3, 20, 4, 0, 1, 2}), 1, "{1 1 2} {0 2 5}", 5, 4},
	{"one more comes one ahead of when it should have ended", set(row{1, 4, 4, 0, 1, 1}, row{4, 20, 5, 0, 1, 2}), 1, "{1 1 2} {0 2 5} {2 5 6}", -1, 0},
	{"they leave no tick free", set(row{1, 2, 2, 0, 1, 1}, row{1, 2, 2, 0, 1, 2}, row{1, 9, 9, 0, 1, 3}), 2, "{1 1 2} {6 2 3} {2 3 4} {7 4 5} {3 5 6} {8 6 7} {4 7 8} {9 8 9} {5 9 10}", -1, 0},
	{"who was ahead works on behind it, up to that tick", set(row{5, 7, 7, 0, 1, 1}, row{2, 9, 9, 0, 1, 2}), 1, "{1 1 6} {0 6 8} {2 8 10}", 8, 7},

	{"in no order, of the most urgent", mixed(), 1, "{0 1 5} {1 5 6}", 6, 5},
	{"in no order, of the third", mixed(), 2, "{0 7 11} {2 11 12} {3 12 13} {5 13 16} {1 16 17} {4 17 18} {1 18 19}", 19, 11},

	{"the greatest times", set(row{long, long, long, 0, long, 1}), 0, "{0 1 2147483648}", long + 1, long},
	{"the greatest times, and one ahead", set(row{1, long, long, 0, 1, 1}, row{long - 1, long, long, 0, 1, 2}), 1, "{1 1 2} {0 2 2147483648}", long + 1, long},
	{"the greatest times, and one behind", set(row{1, long, long, 0, 1, 1}, row{long, long, long, 0, 1, 2}), 1, "{1 1 2} {0 2 2147483648}", -1, 0},
	{"the greatest section", set(row{1, long, long, 0, 1, 1}, row{long, long, long, 0, long, 2}), 0, "{0 0 2147483647} {1 2147483647 2147483648}", long + 1, long},
	{"the greatest section, and one behind", set(row{2, long, long, 0, 1, 1}, row{long, long, long, 0, long, 2}), 0, "{0 0 2147483647} {1 2147483647 2147483648}", -1, 0},
	{"the greatest jitter", set(row{1, long, long, long - 1, 1, 1}, row{2, 9, 9, 0, 1, 2}), 0, "{0 2147483647 2147483648}", long + 1, long},
	{"the greatest jitter, and a blocker", set(row{1, long, long, long - 1, 1, 1}, row{2, 9, 9, 0, 2, 2}), 0, "{0 2147483646 2147483648}", -1, 0},
}

func TestPlays(t *testing.T) {
	for _, c := range plays {
		t.Run(c.what, func(t *testing.T) {
			spans, end, ok := sim.Play(c.l, c.i)
			if got := fmt.Sprint(spans); got != "["+c.spans+"]" || end != c.end || ok != (c.end != -1) {
				t.Errorf("Play: %s, %d, %t, want [%s], %d", got, end, ok, c.spans, c.end)
			}
			e := api.OK
			if c.bound == 0 {
				e = api.ErrMiss
			}
			wantBound(t, c.l, c.i, c.bound, e)
			wantReckoned(t, exec.Until, c.l)
		})
	}
}

func TestBoundsOfTheExamples(t *testing.T) {
	for _, c := range []struct {
		l    []api.Task
		want string
	}{
		{example(), "3 0;7 0;7 0;0 1;"},
		{mixed(), "22 0;5 0;11 0;33 0;15 0;0 1;"},
	} {
		said := ""
		for i := range len(c.l) + 1 {
			n, e := sim.Bound(c.l, i)
			said += fmt.Sprint(n, " ", int(e), ";")
		}
		if said != c.want {
			t.Errorf("Bound of %s: %s, want %s", shown(c.l), said, c.want)
		}
		wantReckoned(t, ticks, c.l)
	}
}

// By each D that it may have, and each jitter, its job ends, or has not ended by then, and the spans go up to that tick.
func TestEachDeadlineAndJitter(t *testing.T) {
	found := map[bool]int{}
	for d := int64(2); d <= 24; d++ {
		for j := int64(0); j <= d-2; j++ {
			for _, ahead := range []int64{0, 1, 3, 6} {
				l := set(row{2, 24, d, j, 2, 5}, row{2, 7, 7, min(ahead, 5), 1, 2}, row{4, 41, 41, 1, 4, 9})
				for _, n := range wantReckoned(t, ticks, l)[:1] {
					found[n > 0]++
				}
				spans, _, _ := sim.Play(l, 0)
				jobs, at, _ := scene.Critical(l, 0)
				if last := spans[len(spans)-1].To; last > jobs[at].Arrive+d {
					t.Fatalf("Play of 0 of %s: something runs up to %d, and the end is %d", shown(l), last, jobs[at].Arrive+d)
				}
			}
		}
	}
	if found[true] < 100 || found[false] < 100 {
		t.Errorf("what was played is all alike: %v", found)
	}
}

// With as many jobs as there may be in a scene there is a bound; with one more there is none, and nothing is played.
func TestVeryManyJobs(t *testing.T) {
	half := row{1, 2, 2, 0, 1, 1}
	for _, c := range []struct {
		what string
		l    []api.Task
		i, n int64
		e    api.Errno
	}{
		{"as many as may be", set(half, row{9, long, 2 * 4095, 0, 1, 9}), 1, 18, api.OK},
		{"one more", set(half, row{9, long, 2*4095 + 1, 0, 1, 9}), 1, 0, api.ErrHorizon},
		{"as many as may be, in the other order", set(row{9, long, 2 * 4095, 0, 1, 9}, half), 0, 18, api.OK},
		{"one more, in the other order", set(row{9, long, 2*4095 + 1, 0, 1, 9}, half), 0, 0, api.ErrHorizon},
		{"as many as may be, with jitter", set(half, row{9, long, 2*4095 + 7, 7, 1, 9}), 1, 25, api.OK},
		{"one more, with jitter", set(half, row{9, long, 2*4095 + 8, 7, 1, 9}), 1, 0, api.ErrHorizon},
		{"as many as may be, and a blocker", set(half, row{9, long, 2 * 4094, 0, 1, 9}, row{4, long, long, 0, 4, 10}), 1, 24, api.OK},
		{"one more with a blocker", set(half, row{9, long, 2*4094 + 1, 0, 1, 9}, row{4, long, long, 0, 4, 10}), 1, 0, api.ErrHorizon},
		{"as many as may be, and all ticks are needed", set(half, row{4095, long, 2 * 4095, 0, 1, 9}), 1, 2 * 4095, api.OK},
		{"as many as may be, and one tick too few", set(half, row{4096, long, 2 * 4095, 0, 1, 9}), 1, 0, api.ErrMiss},
		{"the greatest times", set(half, row{1, long, long, 0, 1, 9}), 1, 0, api.ErrHorizon},
		{"no tick is free", set(row{1, 1, 1, 0, 1, 1}, row{1, long, long, 0, 1, 9}), 1, 0, api.ErrHorizon},
		{"no tick is free, and as many as may be", set(row{1, 1, 1, 0, 1, 1}, row{1, long, 4095, 0, 1, 9}), 1, 0, api.ErrMiss},
	} {
		t.Run(c.what, func(t *testing.T) {
			i := int(c.i)
			wantBound(t, c.l, i, c.n, c.e)
			wantModelsOf(t, exec.Until, c.l, i)
			if c.e == api.ErrHorizon {
				wantPlay(t, c.l, i, nil, -1, false)
			}
		})
	}
}

// Of a set of which one task has no scene the others are told all the same, and its scripts.
func TestNoSceneOfOne(t *testing.T) {
	l := set(row{9, long, long, 0, 1, 9}, row{1, 2, 2, 0, 1, 1}, row{1, 9, 9, 0, 1, 3})
	wantBound(t, l, 0, 0, api.ErrHorizon)
	wantBound(t, l, 1, 1, api.OK)
	wantBound(t, l, 2, 2, api.OK)
	r := []api.Raw{{Task: 0, Work: -1}, {Task: 1}, {Task: 1}, {Task: 1}, {Task: 2}}
	wantScripts(t, l, []int64{13, 1, 2}, r)
	wantRows(t, ticks, l, r)
}

// Of times so many times as great the bound is so many times as great, where no section is longer than a tick.
func TestGreatTimes(t *testing.T) {
	sets := [][]api.Task{
		set(row{1, 4, 4, 0, 1, 1}, row{2, 9, 9, 1, 1, 2}, row{3, 20, 20, 0, 1, 3}),
		set(row{5, 30, 30, 3, 1, 7}, row{1, 5, 5, 1, 1, 1}, row{2, 12, 11, 0, 1, 3}, row{4, 60, 55, 9, 1, 40}, row{3, 18, 17, 7, 1, 2}),
		set(row{3, 9, 9, 0, 1, 1}, row{2, 9, 5, 0, 1, 2}),
		set(row{3, 9, 9, 0, 1, 1}, row{2, 9, 4, 0, 1, 2}),
		set(row{1, 3, 2, 1, 1, 3}),
	}
	for _, l := range sets {
		for _, by := range []int64{2, 3, 1000, 1 << 20, long / 60} {
			great := times(l, by)
			for i := range l {
				n, e := sim.Bound(l, i)
				wantBound(t, great, i, by*n, e)
			}
			wantReckoned(t, exec.Until, great)
		}
	}
}

// What Play tells goes with what Bound does, and with the scene.
func TestPlayAndBoundGoTogether(t *testing.T) {
	for _, l := range [][]api.Task{example(), mixed()} {
		for i := range l {
			jobs, at, _ := scene.Critical(l, i)
			_, end, ok := sim.Play(l, i)
			n, e := sim.Bound(l, i)
			if ok != (e == api.OK) || ok && n != end-jobs[at].Arrive || !ok && (n != 0 || end != -1) {
				t.Errorf("of %d of %s: Play %d, %t, Bound %d, %d", i, shown(l), end, ok, n, int(e))
			}
		}
	}
}

// P16.3

// rows are raw jobs of a set, each row by itself; what the jobs of each place take at most; and who is late of each row.
var rows = []struct {
	what string
	l    []api.Task
	raw  [][]api.Raw
	want string
	late []int
}{
	{"no row", example(), nil, "[0 0 0]", nil},
	{"nil", example(), [][]api.Raw{nil}, "[0 0 0]", []int{none}},
	{"an empty row", example(), [][]api.Raw{{}}, "[0 0 0]", []int{none}},
	{"some that are empty", example(), [][]api.Raw{{}, nil, {}}, "[0 0 0]", []int{none, none, none}},
	{"one job of the first", example(), [][]api.Raw{{{}}}, "[1 0 0]", []int{none}},
	{"one job of the second", example(), [][]api.Raw{{{Task: 1}}}, "[0 1 0]", []int{none}},
	{"one job of the last", example(), [][]api.Raw{{{Task: 2, Work: 2}}}, "[0 0 3]", []int{none}},
	{"one job, late released", example(), [][]api.Raw{{{Task: 1, Late: 1, Work: 1}}}, "[0 3 0]", []int{none}},
	{"one job of each", example(), [][]api.Raw{{{Task: 0}, {Task: 1, Work: 1}, {Task: 2, Work: 2}}}, "[1 3 6]", []int{none}},
	{"the last one ahead", example(), [][]api.Raw{{{Task: 2, Work: 2, Cuts: []int{2}}, {Task: 0, Gap: 1}, {Task: 1, Gap: 1, Work: 1}}}, "[3 5 3]", []int{none}},
	{"two jobs of one, the first takes longer", example(), [][]api.Raw{{{Task: 2, Work: 2, Cuts: []int{2}}, {Task: 0, Gap: 1}, {Task: 0}}}, "[3 0 3]", []int{none}},
	{"two jobs of one, the second takes longer", example(), [][]api.Raw{{{Task: 0}, {Task: 0}, {Task: 2, Gap: 3, Work: 2, Cuts: []int{2}}}}, "[3 0 3]", []int{none}},
	{"two rows, the first has the greatest", example(), [][]api.Raw{{{Task: 1, Late: 1, Work: 1}}, {{Task: 1}}}, "[0 3 0]", []int{none, none}},
	{"two rows, the last has the greatest", example(), [][]api.Raw{{{Task: 1}}, {{Task: 1, Late: 1, Work: 1}}}, "[0 3 0]", []int{none, none}},
	{"two rows, each has one of them", example(), [][]api.Raw{{{Task: 1, Late: 1}, {Task: 2}}, {{Task: 1}, {Task: 2, Work: 1}}}, "[0 2 3]", []int{none, none}},
	{"each row by itself", example(), [][]api.Raw{{{Task: 0}}, {{Task: 1}}, {{Task: 2}}}, "[1 1 1]", []int{none, none, none}},
	{"an empty row behind another one", example(), [][]api.Raw{{{Task: 2, Work: 1}}, {}, nil}, "[0 0 2]", []int{none, none, none}},
	{"an empty row ahead of another one", example(), [][]api.Raw{nil, {}, {{Task: 2, Work: 1}}}, "[0 0 2]", []int{none, none, none}},

	{"one that needs all of its D", set(row{3, 9, 9, 0, 1, 1}, row{2, 9, 5, 0, 1, 2}), [][]api.Raw{{{Task: 0, Work: 2}, {Task: 1, Work: 1}}}, "[3 5]", []int{none}},
	{"one that needs one more", set(row{3, 9, 9, 0, 1, 1}, row{2, 9, 4, 0, 1, 2}), [][]api.Raw{{{Task: 0, Work: 2}, {Task: 1, Work: 1}}}, "[3 5]", []int{1}},
	{"one that needs one more, at place 0", set(row{3, 9, 9, 0, 1, 1}, row{2, 9, 4, 0, 1, 2}), [][]api.Raw{{{Task: 1, Work: 1}, {Task: 0, Work: 2}}}, "[3 5]", []int{0}},
	{"its D counts from its arrival, all of it", set(row{2, 9, 9, 0, 1, 1}, row{2, 9, 7, 3, 1, 2}), [][]api.Raw{{{Task: 0, Gap: 3, Work: 1}, {Task: 1, Late: 3, Work: 1}}}, "[2 7]", []int{none}},
	{"its D counts from its arrival, one more", set(row{2, 9, 9, 0, 1, 1}, row{2, 9, 6, 3, 1, 2}), [][]api.Raw{{{Task: 0, Gap: 3, Work: 1}, {Task: 1, Late: 3, Work: 1}}}, "[2 7]", []int{1}},
	{"two are late, the first ends last", set(row{3, 9, 3, 0, 3, 1}, row{4, 12, 4, 0, 4, 2}, row{5, 20, 20, 0, 5, 3}), [][]api.Raw{{{Task: 2, Work: 4, Cuts: []int{4}}, {Task: 1, Gap: 1, Work: 3}, {Task: 0, Gap: 1, Work: 2}}}, "[7 11 5]", []int{1}},
	{"two are late, the first ends first", set(row{3, 9, 3, 0, 3, 1}, row{4, 12, 4, 0, 4, 2}, row{5, 20, 20, 0, 5, 3}), [][]api.Raw{{{Task: 2, Work: 4, Cuts: []int{4}}, {Task: 0, Gap: 1, Work: 2}, {Task: 1, Gap: 1, Work: 3}}}, "[7 11 5]", []int{1}},
	{"the second job of a task takes longest", set(row{2, 4, 4, 0, 2, 1}, row{3, 6, 5, 0, 3, 2}), [][]api.Raw{{{Task: 1}, {Task: 0, Gap: 4, Work: 1}, {Task: 1, Work: 2}, {Task: 0, Work: 1}}}, "[2 5]", []int{none}},
	{"the second job of a task takes longest, and is late", set(row{2, 4, 4, 0, 2, 1}, row{3, 6, 4, 0, 3, 2}), [][]api.Raw{{{Task: 1}, {Task: 0, Gap: 4, Work: 1}, {Task: 1, Work: 2}, {Task: 0, Work: 1}}}, "[2 5]", []int{2}},
	{"some rows, and who is late in each", set(row{3, 9, 9, 0, 1, 1}, row{2, 9, 4, 0, 1, 2}), [][]api.Raw{{{Task: 1}}, {{Task: 0, Work: 2}, {Task: 1, Work: 1}}, {{Task: 1}, {Task: 0, Work: 1}}, {{Task: 1, Work: 1}, {Task: 0, Work: 2}}}, "[3 5]", []int{none, 1, none, 0}},
	{"who waits for the job of its own ahead", set(row{4, 4, 4, 0, 4, 1}, row{1, 5, 5, 0, 1, 2}), [][]api.Raw{{{Task: 0, Work: 3}, {Task: 0, Work: 3}, {Task: 1}, {Task: 1}}}, "[4 9]", []int{2}},

	{"in no order of urgency", mixed(), [][]api.Raw{{{Task: 0, Work: 4}, {Task: 1}, {Task: 2, Work: 1}, {Task: 3, Work: 3}, {Task: 4, Work: 2}}}, "[11 1 6 15 4]", []int{none}},
	{"in no order of urgency, and the first ahead", mixed(), [][]api.Raw{{{Task: 0, Work: 4, Cuts: []int{3}}, {Task: 1, Gap: 1}, {Task: 2, Gap: 1, Work: 1}, {Task: 3, Work: 3}, {Task: 4, Gap: 1, Work: 2}}}, "[11 4 9 15 7]", []int{none}},
	{"who is late stands ahead of who makes it so", set(row{5, 30, 30, 3, 4, 7}, row{1, 5, 4, 1, 1, 1}), [][]api.Raw{{{Task: 1, Gap: 2}, {Task: 1, Late: 1}, {Task: 0, Gap: 1, Work: 4, Cuts: []int{3}}}, {{Task: 1, Gap: 2, Late: 1}, {Task: 0, Gap: 2, Work: 4, Cuts: []int{3}}}}, "[6 5]", []int{none, 0}},
}

func TestRows(t *testing.T) {
	for _, c := range rows {
		t.Run(c.what, func(t *testing.T) {
			if got := fmt.Sprint(sim.Scripts(c.l, c.raw...)); got != c.want {
				t.Errorf("Scripts: %s, want %s", got, c.want)
			}
			for k, r := range c.raw {
				wantLate(t, c.l, r, c.late[k])
			}
			wantRows(t, ticks, c.l, c.raw...)
		})
	}
}

// Rows may come in any order, and more than once: what they tell together is the same.
func TestRowsTogether(t *testing.T) {
	r := rand.New(rand.NewSource(3))
	l := mixed()
	for range 40 {
		raw := make([][]api.Raw, 1+r.Intn(6))
		want := make([]int64, len(l))
		for k := range raw {
			raw[k] = drawnRow(r, 9, 20)
			for i, n := range sim.Scripts(l, raw[k]) {
				want[i] = max(want[i], n)
			}
		}
		wantScripts(t, l, want, raw...)
		r.Shuffle(len(raw), func(a, b int) { raw[a], raw[b] = raw[b], raw[a] })
		wantScripts(t, l, want, raw...)
		wantScripts(t, l, want, append(raw, raw...)...)
	}
}

// Of a row of more jobs than may be the first ones count, and no other one.
func TestVeryLongRows(t *testing.T) {
	l := set(row{3, 9, 9, 0, 3, 1}, row{2, 90, 4, 0, 1, 2})
	raw := make([]api.Raw, api.MaxJobs+5)
	for i := range raw {
		raw[i].Work = 1
	}
	wantScripts(t, l, []int64{2, 0}, raw)
	wantLate(t, l, raw, none)
	wantRows(t, exec.Until, l, raw)
	raw[api.MaxJobs] = api.Raw{Task: 1, Work: 1} // one too many
	raw[0].Work = 2
	wantScripts(t, l, []int64{3, 0}, raw)
	wantLate(t, l, raw, none)
	raw[api.MaxJobs-1] = api.Raw{Task: 1, Work: 1} // the last one
	wantScripts(t, l, []int64{3, 5}, raw)
	wantLate(t, l, raw, api.MaxJobs-1)
	raw[api.MaxJobs-2] = api.Raw{Task: 1, Work: 0} // ahead of it, in time, too
	wantScripts(t, l, []int64{3, 4}, raw)
	wantLate(t, l, raw, none)
	wantRows(t, exec.Until, l, raw, raw[:api.MaxJobs], raw[:api.MaxJobs-1])
}

// Jobs that come as late as those of a script may are told as others are.
func TestVeryLateJobs(t *testing.T) {
	l := set(row{9, long, long, 0, 1, 1}, row{1, long, 9, 0, 1, 2})
	raw := make([]api.Raw, api.MaxJobs)
	for i := range raw {
		raw[i] = api.Raw{Task: i, Gap: -1}
	}
	wantScripts(t, l, []int64{1, 2}, raw)
	wantLate(t, l, raw, none)
	raw[api.MaxJobs-2].Work = 7
	wantScripts(t, l, []int64{8, 9}, raw)
	wantLate(t, l, raw, none)
	raw[api.MaxJobs-2].Work = 8
	wantScripts(t, l, []int64{9, 10}, raw)
	wantLate(t, l, raw, api.MaxJobs-1)
	one := make([]api.Raw, api.MaxJobs)
	for i := range one {
		one[i].Gap = -1
	}
	one[api.MaxJobs-1].Work = -1
	wantScripts(t, l, []int64{9, 0}, one)
	wantRows(t, exec.Until, l, raw, one)
}

func TestVeryManyRows(t *testing.T) {
	l := example()
	raw := make([][]api.Raw, 5000)
	for k := range raw {
		raw[k] = []api.Raw{{Task: k, Gap: k, Work: k}}
	}
	if got := fmt.Sprint(sim.Scripts(l, raw...)); got != "[1 2 3]" {
		t.Errorf("Scripts: %s", got)
	}
}

// Whatever numbers there are, jobs of them are told: also of no task, below 0, and very great ones.
func TestRowsOfWhateverNumbers(t *testing.T) {
	greats := []int{math.MinInt, math.MinInt + 1, -1 << 40, -7, -1, 0, 1, 5, 1 << 20, 1 << 40, math.MaxInt - 1, math.MaxInt}
	for _, l := range [][]api.Task{example(), mixed(), set(row{3, 9, 9, 6, 3, 1})} {
		for _, n := range greats {
			wantRows(t, exec.Until, l, []api.Raw{{Task: n}, {Gap: n}, {Late: n}, {Work: n}, {Cuts: []int{n}}}, []api.Raw{{Task: n, Gap: n, Late: n, Work: n, Cuts: []int{n, n, n}}, {Task: n, Work: n, Cuts: []int{n}}})
			for _, m := range greats {
				wantRows(t, exec.Until, l, []api.Raw{{Task: n, Gap: 3, Late: m, Work: m}, {Task: m, Late: n, Work: n, Cuts: []int{m, n}}, {Task: n - m, Work: 2}})
			}
		}
	}
	l := example()
	wantScripts(t, l, []int64{0, 0, 3}, []api.Raw{{Task: -1, Gap: -1, Work: -1}})
	wantScripts(t, l, []int64{0, 2, 0}, []api.Raw{{Task: 4, Work: math.MaxInt}})
	wantScripts(t, l, []int64{0, 3, 0}, []api.Raw{{Task: math.MaxInt, Late: -1, Work: -1}}) // 2^63 less 1 by 3 leaves 1
	wantScripts(t, l, []int64{0, 1, 0}, []api.Raw{{Task: math.MinInt}})                     // and so do 2^63 below 0
}

func TestDrawnRowsAgainstTheModels(t *testing.T) {
	r := rand.New(rand.NewSource(4))
	found := map[bool]int{}
	for range 800 {
		l := drawn(r, 5, 12, 1+r.Int63n(4))
		raw := make([][]api.Raw, r.Intn(4))
		for k := range raw {
			raw[k] = drawnRow(r, 9, 20)
			found[modelLate(ticks, l, raw[k]) != none]++
		}
		wantRows(t, ticks, l, raw...)
		for k := range raw {
			raw[k] = drawnRow(r, 9, 0)
		}
		wantRows(t, exec.Until, l, raw...)
		l = drawn(r, 9, long, 1+r.Int63n(4))
		wantRows(t, exec.Until, l, raw...)
	}
	if found[true] < 100 || found[false] < 100 {
		t.Errorf("what was drawn is all alike: %v", found)
	}
}

// What one call tells is the caller's.
func TestAnswersAreTheCallers(t *testing.T) {
	l, raw := example(), []api.Raw{{Task: 1, Late: 1, Work: 1}, {Task: 2, Work: 2}}
	for range 3 {
		spans, _, _ := sim.Play(l, 1)
		other, _, _ := sim.Play(l, 1)
		greatest, same := sim.Scripts(l, raw), sim.Scripts(l, raw)
		if fmt.Sprint(spans) != "[{0 1 4} {2 4 5} {1 5 6} {3 6 7} {1 7 8}]" || fmt.Sprint(greatest) != "[0 3 5]" {
			t.Fatalf("Play: %v, Scripts: %v", spans, greatest)
		}
		spans[0].Job, greatest[0] = 99, 99
		_, _ = append(spans, api.Span{Job: 7}), append(greatest, 7)
		if fmt.Sprint(other) != "[{0 1 4} {2 4 5} {1 5 6} {3 6 7} {1 7 8}]" || fmt.Sprint(same) != "[0 3 5]" {
			t.Fatalf("Play: %v, Scripts: %v, when others were changed", other, same)
		}
	}
}

// P16.4

func TestReckonedOfSmallSets(t *testing.T) {
	small(6, 3, func(a row) {
		wantReckoned(t, ticks, set(a))
	})
	small(4, 2, func(a row) {
		small(5, 1, func(b row) {
			wantReckoned(t, ticks, set(a, b))
		})
	})
	small(2, 5, func(a row) {
		small(3, 7, func(b row) {
			small(3, 4, func(c row) {
				wantReckoned(t, ticks, set(a, b, c))
			})
		})
	})
}

func TestReckonedOfDrawnSets(t *testing.T) {
	r := rand.New(rand.NewSource(1))
	found := map[bool]int{}
	for range 150 {
		for _, end := range []int64{3, 9, 60, 500} {
			for _, part := range []int64{1, 3, 9} {
				l := drawn(r, 7, end, part)
				play := ticks
				if end > 60 {
					play = exec.Until
				}
				for _, n := range wantReckoned(t, play, l) {
					found[n > 0]++
				}
			}
		}
	}
	if found[true] < 1000 || found[false] < 1000 {
		t.Errorf("what was drawn is all alike: %v", found)
	}
}

// Bounds of great times are those that are reckoned, where there is a scene.
func TestReckonedOfGreatTimes(t *testing.T) {
	r := rand.New(rand.NewSource(2))
	found := map[api.Errno]int{}
	for range 200 {
		for _, part := range []int64{1, 3, 9} {
			l := drawn(r, 7, long, part)
			for i := range l {
				n, e := wantModelsOf(t, exec.Until, l, i)
				found[e]++
				if e == api.ErrHorizon {
					continue
				}
				if reckoned, err := rta.Bound(l, i); n != reckoned || e != err {
					t.Fatalf("of %d of %s: %d, %d is played, %d, %d is reckoned", i, shown(l), n, int(e), reckoned, int(err))
				}
			}
		}
	}
	if found[api.OK] < 500 || found[api.ErrMiss] < 500 {
		t.Errorf("what was drawn is all alike: %v", found)
	}
}

func TestFullSet(t *testing.T) {
	l := full()
	found := map[api.Errno]int{}
	for _, i := range []int{-1, 0, 1, 2, 63, 64, 511, 512, 1022, 1023, 1024} {
		n, e := wantModelsOf(t, exec.Until, l, i)
		found[e]++
		if reckoned, err := rta.Bound(l, i); n != reckoned || e != err {
			t.Fatalf("of %d of %s: %d, %d is played, %d, %d is reckoned", i, shown(l), n, int(e), reckoned, int(err))
		}
	}
	if found[api.OK] == 0 || found[api.ErrMiss] == 0 {
		t.Errorf("what was played is all alike: %v", found)
	}
	raw := make([]api.Raw, 2000)
	for i := range raw {
		raw[i] = api.Raw{Task: 7 * i, Work: -1}
	}
	wantRows(t, exec.Until, l, raw, raw[:500], nil)
}

// Nothing that drawn rows tell is above a bound; what stands in a scene, as a row, takes just it, and is late, if there is none.
func TestRowsAreBelowTheBounds(t *testing.T) {
	r := rand.New(rand.NewSource(5))
	just, late := 0, 0
	for range 300 {
		l := drawn(r, 4, 14, 1+r.Int63n(5))
		bounds := wantReckoned(t, ticks, l)
		for range 5 {
			raw := [][]api.Raw{drawnRow(r, 12, 3), drawnRow(r, 12, 20), drawnRow(r, 12, 0), drawnRow(r, 12, 2)}
			wantBelow(t, l, bounds, raw...)
		}
		for i := range l {
			jobs, at, _ := scene.Critical(l, i)
			raw, _ := script.Encode(l, jobs)
			wantBelow(t, l, bounds, raw)
			if bounds[i] > 0 {
				if got := sim.Scripts(l, raw)[i]; got != bounds[i] {
					t.Fatalf("Scripts of the scene of %d of %s: %d, want %d", i, shown(l), got, bounds[i])
				}
				just++
				continue
			}
			if place, ok := sim.Late(l, raw); !ok || place > at {
				t.Fatalf("Late of the scene of %d of %s: %d, %t, want %d", i, shown(l), place, ok, at)
			}
			late++
		}
	}
	if just < 300 || late < 100 {
		t.Errorf("what was drawn is all alike: %d, %d", just, late)
	}
}

// each calls do with each row of n jobs of l, none of which arrives later than it could by more than gap; each works as long as it may, or 1, in sections as long as may be, or in none.
func each(l []api.Task, n, gap int, do func(raw []api.Raw)) {
	raw := make([]api.Raw, n)
	var from func(k int)
	from = func(k int) {
		if k == n {
			do(raw)
			return
		}
		for place, a := range l {
			for gap := range gap + 1 {
				for late := range int(a.J) + 1 {
					for _, cuts := range [][]int{nil, {-1}, {0, -1}} {
						raw[k] = api.Raw{Task: place, Gap: gap, Late: late, Work: -1, Cuts: cuts}
						from(k + 1)
					}
				}
			}
		}
	}
	from(0)
}

// Of all short rows of some sets none is above a bound; and these are long enough that of each task one takes just it.
func TestAllShortRows(t *testing.T) {
	for _, c := range []struct {
		l      []api.Task
		n, gap int
	}{
		{set(row{1, 4, 4, 0, 1, 1}, row{3, 9, 9, 0, 3, 2}), 3, 2},
		{set(row{2, 5, 5, 1, 2, 1}, row{2, 7, 7, 1, 2, 2}), 3, 2},
		{set(row{3, 9, 9, 0, 3, 2}, row{2, 6, 4, 0, 1, 1}), 3, 2},
		{set(row{1, 4, 4, 1, 1, 3}, row{2, 8, 8, 0, 2, 5}, row{2, 8, 7, 0, 1, 4}), 4, 1},
	} {
		bounds := wantReckoned(t, ticks, c.l)
		greatest := make([]int64, len(c.l))
		each(c.l, c.n, c.gap, func(raw []api.Raw) {
			for i, n := range sim.Scripts(c.l, raw) {
				greatest[i] = max(greatest[i], n)
			}
		})
		if !slices.Equal(greatest, bounds) {
			t.Errorf("of all short rows of %s: %v, and the bounds are %v", shown(c.l), greatest, bounds)
		}
	}
}

// Where tasks stand is of no account for how long their jobs take: only their P.
func TestWhereTasksStand(t *testing.T) {
	raw := []api.Raw{{Task: 0, Work: 4, Cuts: []int{3}}, {Task: 1, Gap: 1}, {Task: 2, Gap: 1, Work: 1}, {Task: 1}, {Task: 0, Work: 4}}
	for _, rows := range [][]api.Task{example(), mixed()} {
		bounds := wantReckoned(t, ticks, rows)
		took := sim.Scripts(rows, raw)
		perms(rows, func(l []api.Task, at []int) {
			moved := slices.Clone(raw)
			for k, r := range raw {
				moved[k].Task = at[r.Task]
			}
			n, long := wantReckoned(t, ticks, l), sim.Scripts(l, moved)
			for i := range rows {
				if n[at[i]] != bounds[i] || long[at[i]] != took[i] {
					t.Fatalf("of %d of %s: %d, %d, want %d, %d", at[i], shown(l), n[at[i]], long[at[i]], bounds[i], took[i])
				}
			}
		})
	}
}

// Wrong inputs

func TestPlacesThatThereAreNot(t *testing.T) {
	for _, l := range [][]api.Task{example(), mixed(), set(row{3, 9, 9, 6, 3, 1}), full()} {
		for _, i := range []int{-1, -2, len(l), len(l) + 1, 1 << 40, math.MinInt, math.MaxInt} {
			wantPlay(t, l, i, nil, -1, false)
			wantBound(t, l, i, 0, api.ErrArg)
		}
	}
}

// wrongSets are some that may not be: the good one, in which one task is wrong, by one of its numbers, or its name.
func wrongSets(good []api.Task) [][]api.Task {
	changes := []func(a *api.Task){
		func(a *api.Task) { a.Name = "" },
		func(a *api.Task) { a.Name = "a b" },
		func(a *api.Task) { a.Name = strings.Repeat("n", api.MaxName+1) },
		func(a *api.Task) { a.C = 0 },
		func(a *api.Task) { a.C = math.MinInt64 },
		func(a *api.Task) { a.T = 0 },
		func(a *api.Task) { a.T = -1 },
		func(a *api.Task) { a.T, a.D = long+1, long },
		func(a *api.Task) { a.T = math.MaxInt64 },
		func(a *api.Task) { a.D = 0 },
		func(a *api.Task) { a.D = a.T + 1 },
		func(a *api.Task) { a.D = a.C + a.J - 1 },
		func(a *api.Task) { a.J = -1 },
		func(a *api.Task) { a.J = a.D - a.C + 1 },
		func(a *api.Task) { a.J = math.MaxInt64 },
		func(a *api.Task) { a.Q = 0 },
		func(a *api.Task) { a.Q = a.C + 1 },
		func(a *api.Task) { a.Q = math.MaxInt64 },
		func(a *api.Task) { a.P = 0 },
		func(a *api.Task) { a.P = api.MaxPrio + 1 },
		func(a *api.Task) { a.P = math.MinInt },
	}
	var sets [][]api.Task
	for k := range good {
		for _, change := range changes {
			l := slices.Clone(good)
			change(&l[k])
			sets = append(sets, l)
		}
		for other := range good {
			if other != k {
				names, prios := slices.Clone(good), slices.Clone(good)
				names[k].Name, prios[k].P = names[other].Name, prios[other].P
				sets = append(sets, names, prios)
			}
		}
	}
	return sets
}

func TestSetsThatMayNotBe(t *testing.T) {
	raw := []api.Raw{{Task: 0, Work: -1}, {Task: 1, Cuts: []int{3}}, {Task: 2, Work: math.MinInt}}
	for _, l := range append(wrongSets(example()), wrongSets(mixed())...) {
		if _, e := task.CheckAll(l); e == api.OK {
			t.Fatalf("a wrong set may be: %s", shown(l))
		}
		for i := -1; i <= len(l); i++ {
			wantNothing(t, l, i, raw, nil, []api.Raw{})
		}
	}
	many := append(full(), api.Task{Name: "more", C: 1, T: 9, D: 9, Q: 1, P: 2000}) // one more than there may be
	for _, l := range [][]api.Task{nil, {}, make([]api.Task, 3), many, slices.Concat(full(), full())} {
		for _, i := range []int{-1, 0, 1, 2, len(l) - 1, len(l), math.MinInt, math.MaxInt} {
			wantNothing(t, l, i, raw, nil, []api.Raw{})
		}
	}
}

// A set that may not be is told ahead of a scene that would have too many jobs, and of a job that would be late.
func TestWrongSetAheadOfTheOthers(t *testing.T) {
	l := set(row{1, 1, 1, 0, 1, 1}, row{1, long, long, 0, 1, 9}, row{1, 2, 2, 0, 1, 10}, row{1, 5, 6, 0, 1, 11})
	wantNothing(t, l, 1)
	wantNothing(t, l, 2)
	l[3].D = 5
	wantBound(t, l, 1, 0, api.ErrHorizon)
	wantBound(t, l, 2, 0, api.ErrMiss)
	wantBound(t, l, 4, 0, api.ErrArg)
}

func TestNothingIsKept(t *testing.T) {
	good, wrong := example(), example()
	wrong[2].Q = 4
	raw := []api.Raw{{Task: 2, Work: 2, Cuts: []int{2}}, {Task: 0, Gap: 1}, {Task: 1, Gap: 1, Work: 1}}
	for range 3 { // one call's answer is not the next one's
		wantBound(t, good, 1, 7, api.OK)
		wantScripts(t, good, []int64{3, 5, 3}, raw)
		wantLate(t, good, raw, none)
		wantNothing(t, wrong, 1, raw)
		wantScripts(t, good, []int64{0, 0, 0})
		wantScripts(t, good, []int64{0, 0, 0}, nil, []api.Raw{})
		wantNothing(t, nil, 0, raw)
		wantBound(t, good, 2, 7, api.OK)
		wantBound(t, good, 0, 3, api.OK)
		good[1].D = 6
		wantBound(t, good, 1, 0, api.ErrMiss)
		good[1].D = 9
	}
}
