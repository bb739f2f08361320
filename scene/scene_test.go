package scene_test

import (
	"fmt"
	"math"
	"math/rand"
	"slices"
	"strings"
	"testing"

	"cadency/api"
	"cadency/exec"
	"cadency/rta"
	"cadency/scene"
	"cadency/script"
	"cadency/task"
)

const long = int64(api.MaxTime)

// none is told for a blocker, where there is none.
const none = -1

// row is a task by its numbers: C, T, D, J, Q, P.
type row [6]int64

// set are tasks of these rows, with names of their own.
func set(rows ...row) []api.Task {
	l := make([]api.Task, len(rows))
	for i, r := range rows {
		l[i] = api.Task{Name: fmt.Sprint("t", i), C: r[0], T: r[1], D: r[2], J: r[3], Q: r[4], P: int(r[5])}
	}
	return l
}

// example is the chapter's.
func example() []api.Task {
	return set(row{1, 4, 4, 0, 1, 1}, row{2, 9, 9, 1, 1, 2}, row{3, 20, 20, 0, 3, 3})
}

// mixed is a set whose tasks do not stand in the order of their urgency.
func mixed() []api.Task {
	return set(row{5, 30, 30, 3, 4, 7}, row{1, 5, 5, 1, 1, 1}, row{2, 12, 11, 0, 2, 3}, row{4, 60, 55, 9, 1, 40}, row{3, 18, 17, 7, 3, 2})
}

// full is a set of as many tasks as may be, the least urgent one first, of which some have no bound.
func full() []api.Task {
	l := make([]api.Task, api.MaxTasks)
	for i := range l {
		n := int64(i)
		l[i] = set(row{1 + n%3, 3000 + n%97, 2000 + n%97, n % 11, 1 + n%3%2, api.MaxTasks - n})[0]
		l[i].Name = fmt.Sprint("t", i)
	}
	return l
}

func shown(l []api.Task) string {
	s := make([]string, 0, 6)
	for _, t := range l[:min(len(l), 6)] {
		s = append(s, fmt.Sprint(t.C, " ", t.T, " ", t.D, " ", t.J, " ", t.Q, " ", t.P))
	}
	return fmt.Sprintf("%d tasks (%s)", len(l), strings.Join(s, ", "))
}

// shownJobs are jobs as they are told: each one's task, arrival, release, work and cuts.
func shownJobs(jobs []api.Job) string {
	s := fmt.Sprint(jobs[:min(len(jobs), 40)])
	if len(jobs) > 40 {
		s += fmt.Sprint(" and more, ", len(jobs), " in all")
	}
	return s
}

// The models: what the chapter's words say.

func may(l []api.Task, i int) bool {
	_, e := task.CheckAll(l)
	return e == api.OK && i >= 0 && i < len(l)
}

func modelStart(l []api.Task, i int) int64 {
	if !may(l, i) {
		return 0
	}
	greatest := l[i].J
	for _, t := range l {
		if t.P < l[i].P && t.J > greatest {
			greatest = t.J
		}
	}
	return greatest + 1
}

// modelBlocker is none, where there is no blocker.
func modelBlocker(l []api.Task, i int) int {
	if !may(l, i) {
		return none
	}
	greatest := int64(0)
	for _, t := range l {
		if t.P > l[i].P {
			greatest = max(greatest, t.Q)
		}
	}
	if greatest <= 1 {
		return none
	}
	return slices.IndexFunc(l, func(t api.Task) bool { return t.P > l[i].P && t.Q == greatest })
}

func modelCritical(l []api.Task, i int) ([]api.Job, int, api.Errno) {
	if !may(l, i) {
		return nil, 0, api.ErrArg
	}
	var jobs []api.Job
	own, start, at := l[i], modelStart(l, i), 0
	if k := modelBlocker(l, i); k != none {
		jobs = append(jobs, api.Job{Task: k, Arrive: start - 1, Release: start - 1, Work: l[k].Q, Cuts: []int64{l[k].Q}})
		at = 1
	}
	jobs = append(jobs, api.Job{Task: i, Arrive: start - own.J, Release: start, Work: own.C})
	for k, t := range l {
		if t.P >= own.P {
			continue
		}
		jobs = append(jobs, api.Job{Task: k, Arrive: start - t.J, Release: start, Work: t.C})
		for n := int64(1); len(jobs) <= api.MaxJobs && start-t.J+n*t.T < start+own.D-own.J; n++ {
			jobs = append(jobs, api.Job{Task: k, Arrive: start - t.J + n*t.T, Release: start - t.J + n*t.T, Work: t.C})
		}
	}
	if len(jobs) > api.MaxJobs {
		return nil, 0, api.ErrHorizon
	}
	return jobs, at, api.OK
}

// Calls, and what they should tell.

// kept makes a call, and holds what it was handed in against what that is afterwards, also behind its end.
func kept(t *testing.T, what string, l []api.Task, call func(l []api.Task)) {
	t.Helper()
	room := append(slices.Clone(l), api.Task{Name: "x", C: 11}, api.Task{J: -1})
	before := slices.Clone(room)
	call(room[:len(l)])
	if !slices.Equal(room, before) {
		t.Fatalf("%s of %s: what was handed in is changed", what, shown(l))
	}
}

func wantStart(t *testing.T, l []api.Task, i int, want int64) {
	t.Helper()
	kept(t, "Start", l, func(l []api.Task) {
		t.Helper()
		if got := scene.Start(l, i); got != want {
			t.Fatalf("Start of %d of %s: %d, want %d", i, shown(l), got, want)
		}
	})
}

// wantBlocker is asked for that place, or for none.
func wantBlocker(t *testing.T, l []api.Task, i, want int) {
	t.Helper()
	place, ok := max(want, 0), want != none
	kept(t, "Blocker", l, func(l []api.Task) {
		t.Helper()
		if got, told := scene.Blocker(l, i); got != place || told != ok {
			t.Fatalf("Blocker of %d of %s: %d, %t, want %d, %t", i, shown(l), got, told, place, ok)
		}
	})
}

func sameJob(a, b api.Job) bool {
	return a.Task == b.Task && a.Arrive == b.Arrive && a.Release == b.Release && a.Work == b.Work && slices.Equal(a.Cuts, b.Cuts)
}

func wantCritical(t *testing.T, l []api.Task, i int, jobs []api.Job, at int, e api.Errno) {
	t.Helper()
	kept(t, "Critical", l, func(l []api.Task) {
		t.Helper()
		got, place, err := scene.Critical(l, i)
		if !slices.EqualFunc(got, jobs, sameJob) || place != at || err != e {
			t.Fatalf("Critical of %d of %s: %s, %d, %d, want %s, %d, %d", i, shown(l), shownJobs(got), place, int(err), shownJobs(jobs), at, int(e))
		}
	})
}

// wantModels holds all that is told of l against the models.
func wantModels(t *testing.T, l []api.Task) {
	t.Helper()
	for i := -1; i <= len(l); i++ {
		wantModelsOf(t, l, i)
	}
}

func wantModelsOf(t *testing.T, l []api.Task, i int) {
	t.Helper()
	wantStart(t, l, i, modelStart(l, i))
	wantBlocker(t, l, i, modelBlocker(l, i))
	jobs, at, e := modelCritical(l, i)
	wantCritical(t, l, i, jobs, at, e)
}

// wantPlayed asks what follows, of a place that has a scene: it is legal, and played the job takes just its bound; or it is late, if there is none. Which of both it was is told.
func wantPlayed(t *testing.T, l []api.Task, i int) api.Errno {
	t.Helper()
	jobs, at, e := scene.Critical(l, i)
	if e != api.OK || jobs[at].Task != i {
		t.Fatalf("Critical of %d of %s: %s, %d, %d", i, shown(l), shownJobs(jobs), at, int(e))
	}
	if !script.Legal(l, jobs) {
		t.Fatalf("Critical of %d of %s: %s is not legal", i, shown(l), shownJobs(jobs))
	}
	_, ends := exec.Run(l, jobs)
	took := ends[at] - jobs[at].Arrive
	bound, e := rta.Bound(l, i)
	switch {
	case e == api.OK && took != bound:
		t.Fatalf("Critical of %d of %s: the job takes %d in %s, and its bound is %d", i, shown(l), took, shownJobs(jobs), bound)
	case e != api.OK && took <= l[i].D:
		t.Fatalf("Critical of %d of %s: the job takes %d in %s, and there is no bound", i, shown(l), took, shownJobs(jobs))
	}
	return e
}

// wantFollows asks what follows, and holds all that is told against the models.
func wantFollows(t *testing.T, l []api.Task) {
	t.Helper()
	wantModels(t, l)
	for i := range l {
		wantPlayed(t, l, i)
	}
}

// wantNothing asks all of a set that may not be, or of a place that there is not.
func wantNothing(t *testing.T, l []api.Task, i int) {
	t.Helper()
	wantStart(t, l, i, 0)
	wantBlocker(t, l, i, none)
	wantCritical(t, l, i, nil, 0, api.ErrArg)
}

// perms calls do with each order of l, and, by l's places, where these stand in it.
func perms(l []api.Task, do func(l []api.Task, at []int)) {
	own, at := slices.Clone(l), make([]int, len(l))
	var from func(n int, left []int)
	from = func(n int, left []int) {
		if len(left) == 0 {
			do(own, at)
			return
		}
		for k, place := range left {
			own[n], at[place] = l[place], n
			from(n+1, slices.Concat(left[:k], left[k+1:]))
		}
	}
	places := make([]int, len(l))
	for i := range places {
		places[i] = i
	}
	from(0, places)
}

// drawn is a set that may be, of up to n tasks, in no order, with numbers up to some end, of which each works at most its part by that of its T.
func drawn(r *rand.Rand, n int, end, part int64) []api.Task {
	l := make([]api.Task, 1+r.Intn(n))
	prios := r.Perm(2 * len(l))
	for i := range l {
		period := 1 + r.Int63n(end)
		c := 1 + r.Int63n(max(period/part, 1))
		d := c + r.Int63n(period-c+1)
		if r.Intn(3) > 0 {
			d = period
		}
		j := r.Int63n(d - c + 1)
		if r.Intn(2) > 0 {
			j = 0
		}
		l[i] = set(row{c, period, d, j, 1 + r.Int63n(c), int64(1 + prios[i])})[0]
		l[i].Name = fmt.Sprint("t", i)
	}
	return l
}

// small calls do with each task whose T is at most end, of that P.
func small(end, p int64, do func(r row)) {
	for period := int64(1); period <= end; period++ {
		for d := int64(1); d <= period; d++ {
			for c := int64(1); c <= d; c++ {
				for j := int64(0); j <= d-c; j++ {
					for q := int64(1); q <= c; q++ {
						do(row{c, period, d, j, q, p})
					}
				}
			}
		}
	}
}

// P15.1

func TestStart(t *testing.T) {
	for _, c := range []struct {
		what string
		l    []api.Task
		i    int
		want int64
	}{
		{"the chapter's first", example(), 0, 1},
		{"the chapter's second", example(), 1, 2},
		{"the chapter's third", example(), 2, 2},
		{"one task", set(row{3, 9, 9, 0, 1, 5}), 0, 1},
		{"one task with jitter", set(row{3, 9, 9, 6, 1, 5}), 0, 7},
		{"the most urgent one, without jitter", mixed()[2:4], 0, 1},
		{"the most urgent one, with jitter", mixed(), 1, 2},
		{"behind ones of which one has the greatest", mixed(), 0, 8},
		{"behind ones of which one has the greatest, without jitter", mixed(), 2, 8},
		{"its own is the greatest", mixed(), 3, 10},
		{"its own is the greatest, behind one", mixed(), 4, 8},
		{"the same as one ahead", set(row{1, 9, 9, 4, 1, 1}, row{1, 9, 9, 4, 1, 2}), 1, 5},
		{"one less than one ahead", set(row{1, 9, 9, 4, 1, 1}, row{1, 9, 9, 3, 1, 2}), 1, 5},
		{"one more than one ahead", set(row{1, 9, 9, 4, 1, 1}, row{1, 9, 9, 5, 1, 2}), 1, 6},
		{"a less urgent one has a greater one", set(row{1, 9, 9, 2, 1, 1}, row{1, 9, 9, 8, 1, 2}), 0, 3},
		{"a less urgent one has one, and it has none", set(row{1, 9, 9, 8, 1, 3}, row{1, 9, 9, 0, 1, 2}), 1, 1},
		{"a less urgent one, and a more urgent one", set(row{1, 9, 9, 8, 1, 3}, row{1, 9, 9, 0, 1, 2}, row{1, 9, 9, 5, 1, 1}), 1, 6},
		{"the greatest there may be", set(row{1, long, long, long - 1, 1, 1}), 0, long},
		{"the greatest there may be, ahead", set(row{1, 9, 9, 0, 1, 2}, row{1, long, long, long - 1, 1, 1}), 0, long},
		{"the greatest there may be, behind", set(row{1, 9, 9, 0, 1, 2}, row{1, long, long, long - 1, 1, 3}), 0, 1},
		{"the greatest P", set(row{1, 9, 9, 3, 1, api.MaxPrio}, row{1, 9, 9, 0, 1, api.MaxPrio - 1}), 0, 4},
	} {
		t.Run(c.what, func(t *testing.T) {
			wantStart(t, c.l, c.i, c.want)
			wantModels(t, c.l)
		})
	}
}

func TestBlocker(t *testing.T) {
	for _, c := range []struct {
		what string
		l    []api.Task
		i    int
		want int
	}{
		{"the chapter's first", example(), 0, 2},
		{"the chapter's second", example(), 1, 2},
		{"the chapter's third, which is the least urgent", example(), 2, none},
		{"one task", set(row{3, 9, 9, 0, 3, 5}), 0, none},
		{"of sections of 2", set(row{1, 9, 9, 0, 1, 1}, row{2, 9, 9, 0, 2, 2}), 0, 1},
		{"of sections of 1", set(row{1, 9, 9, 0, 1, 1}, row{2, 9, 9, 0, 1, 2}), 0, none},
		{"several of sections of 1", set(row{1, 9, 9, 0, 1, 1}, row{2, 9, 9, 0, 1, 2}, row{3, 9, 9, 0, 1, 3}), 0, none},
		{"sections of 1, and a more urgent one of more", set(row{1, 9, 9, 0, 1, 2}, row{2, 9, 9, 0, 1, 3}, row{3, 9, 9, 0, 3, 1}), 0, none},
		{"a more urgent one with more", set(row{5, 9, 9, 0, 5, 1}, row{1, 9, 9, 0, 1, 2}, row{3, 9, 9, 0, 2, 3}), 1, 2},
		{"its own is more", set(row{5, 9, 9, 0, 5, 1}, row{1, 9, 9, 0, 1, 2}, row{3, 9, 9, 0, 2, 3}), 0, 2},
		{"its own, and none of others", set(row{5, 9, 9, 0, 5, 1}, row{1, 9, 9, 0, 1, 2}), 0, none},
		{"the first of two alike", set(row{1, 9, 9, 0, 1, 1}, row{3, 9, 9, 0, 3, 2}, row{4, 9, 9, 0, 3, 3}), 0, 1},
		{"the first of two alike, which is the less urgent", set(row{1, 9, 9, 0, 1, 1}, row{3, 9, 9, 0, 3, 3}, row{4, 9, 9, 0, 3, 2}), 0, 1},
		{"the first of three alike, behind a lesser one", set(row{2, 9, 9, 0, 2, 5}, row{3, 9, 9, 0, 3, 4}, row{3, 9, 9, 0, 3, 3}, row{3, 9, 9, 0, 3, 2}, row{1, 9, 9, 0, 1, 1}), 4, 1},
		{"the first of two alike is more urgent than it", set(row{3, 9, 9, 0, 3, 1}, row{1, 9, 9, 0, 1, 2}, row{3, 9, 9, 0, 3, 3}), 1, 2},
		{"the greatest is not the first", set(row{1, 9, 9, 0, 1, 1}, row{3, 9, 9, 0, 2, 2}, row{4, 9, 9, 0, 4, 3}), 0, 2},
		{"the greatest is not the last", set(row{1, 9, 9, 0, 1, 1}, row{4, 9, 9, 0, 4, 2}, row{3, 9, 9, 0, 2, 3}), 0, 1},
		{"the first place", set(row{4, 9, 9, 0, 4, 2}, row{1, 9, 9, 0, 1, 1}), 1, 0},
		{"in no order, of the least urgent but one", mixed(), 0, none},
		{"in no order, of the most urgent", mixed(), 1, 0},
		{"in no order, of the third", mixed(), 2, 0},
		{"in no order, of the least urgent", mixed(), 3, none},
		{"in no order, of the second", mixed(), 4, 0},
		{"the greatest there may be", set(row{1, 9, 9, 0, 1, 1}, row{long, long, long, 0, long, 2}), 0, 1},
	} {
		t.Run(c.what, func(t *testing.T) {
			wantBlocker(t, c.l, c.i, c.want)
			wantModels(t, c.l)
		})
	}
}

// P15.2

// scenes are some that are written out: each job's Task, Arrive, Release, Work, Cuts.
var scenes = []struct {
	what string
	l    []api.Task
	i    int
	jobs string
	at   int
}{
	{"the chapter's first", example(), 0, "{2 0 0 3 [3]} {0 1 1 1 []}", 1},
	{"the chapter's second", example(), 1, "{2 1 1 3 [3]} {1 1 2 2 []} {0 2 2 1 []} {0 6 6 1 []}", 1},
	{"the chapter's third", example(), 2, "{2 2 2 3 []} {0 2 2 1 []} {0 6 6 1 []} {0 10 10 1 []} {0 14 14 1 []} {0 18 18 1 []} {1 1 2 2 []} {1 10 10 2 []} {1 19 19 2 []}", 0},

	{"one task", set(row{4, 9, 9, 0, 3, 5}), 0, "{0 1 1 4 []}", 0},
	{"one task of C 1", set(row{1, 1, 1, 0, 1, 1}), 0, "{0 1 1 1 []}", 0},
	{"one task with jitter", set(row{4, 9, 9, 3, 1, 1}), 0, "{0 1 4 4 []}", 0},
	{"the most urgent one, and a blocker with jitter", set(row{4, 9, 9, 3, 1, 1}, row{5, 30, 30, 20, 4, 2}), 0, "{1 3 3 4 [4]} {0 1 4 4 []}", 1},
	{"the most urgent one, and no blocker", set(row{4, 9, 9, 3, 1, 1}, row{5, 30, 30, 20, 1, 2}), 0, "{0 1 4 4 []}", 0},
	{"a blocker of sections of 2", set(row{1, 9, 9, 0, 1, 1}, row{7, 30, 30, 0, 2, 2}), 0, "{1 0 0 2 [2]} {0 1 1 1 []}", 1},
	{"two less urgent ones, of which one blocks", set(row{1, 9, 9, 0, 1, 1}, row{7, 30, 30, 0, 2, 2}, row{7, 30, 30, 0, 3, 3}), 0, "{2 0 0 3 [3]} {0 1 1 1 []}", 1},
	{"two alike, of which the first blocks", set(row{7, 30, 30, 0, 3, 3}, row{7, 30, 30, 0, 3, 2}, row{1, 9, 9, 0, 1, 1}), 2, "{0 0 0 3 [3]} {2 1 1 1 []}", 1},
	{"in no order, of the most urgent", mixed(), 1, "{0 1 1 4 [4]} {1 1 2 1 []}", 1},
	{"in no order, of the third", mixed(), 2, "{0 7 7 4 [4]} {2 8 8 2 []} {1 7 8 1 []} {1 12 12 1 []} {1 17 17 1 []} {4 1 8 3 []}", 1},
	{"in no order, of the least urgent", mixed(), 3, "{3 1 10 4 []} {0 7 10 5 []} {0 37 37 5 []} {1 9 10 1 []} {1 14 14 1 []} {1 19 19 1 []} {1 24 24 1 []} {1 29 29 1 []} {1 34 34 1 []} {1 39 39 1 []} {1 44 44 1 []} {1 49 49 1 []} {1 54 54 1 []} {2 10 10 2 []} {2 22 22 2 []} {2 34 34 2 []} {2 46 46 2 []} {4 3 10 3 []} {4 21 21 3 []} {4 39 39 3 []}", 0},

	{"ahead without jitter, just at the end", set(row{1, 5, 5, 0, 1, 1}, row{2, 20, 10, 0, 1, 2}), 1, "{1 1 1 2 []} {0 1 1 1 []} {0 6 6 1 []}", 0},
	{"ahead without jitter, one ahead of the end", set(row{1, 5, 5, 0, 1, 1}, row{2, 20, 11, 0, 1, 2}), 1, "{1 1 1 2 []} {0 1 1 1 []} {0 6 6 1 []} {0 11 11 1 []}", 0},
	{"ahead with jitter, just at the end", set(row{1, 5, 5, 2, 1, 1}, row{2, 20, 8, 0, 1, 2}), 1, "{1 3 3 2 []} {0 1 3 1 []} {0 6 6 1 []}", 0},
	{"ahead with jitter, one ahead of the end", set(row{1, 5, 5, 2, 1, 1}, row{2, 20, 9, 0, 1, 2}), 1, "{1 3 3 2 []} {0 1 3 1 []} {0 6 6 1 []} {0 11 11 1 []}", 0},
	{"its own jitter, just at the end", set(row{1, 5, 5, 0, 1, 1}, row{2, 20, 13, 3, 1, 2}), 1, "{1 1 4 2 []} {0 4 4 1 []} {0 9 9 1 []}", 0},
	{"its own jitter, one ahead of the end", set(row{1, 5, 5, 0, 1, 1}, row{2, 20, 14, 3, 1, 2}), 1, "{1 1 4 2 []} {0 4 4 1 []} {0 9 9 1 []} {0 14 14 1 []}", 0},
	{"both have jitter, just at the end", set(row{1, 5, 5, 4, 1, 1}, row{2, 20, 9, 3, 1, 2}), 1, "{1 2 5 2 []} {0 1 5 1 []} {0 6 6 1 []}", 0},
	{"both have jitter, one ahead of the end", set(row{1, 5, 5, 4, 1, 1}, row{2, 20, 10, 3, 1, 2}), 1, "{1 2 5 2 []} {0 1 5 1 []} {0 6 6 1 []} {0 11 11 1 []}", 0},
	{"only the first ones, at the end", set(row{1, 5, 5, 0, 1, 1}, row{2, 20, 5, 0, 1, 2}), 1, "{1 1 1 2 []} {0 1 1 1 []}", 0},
	{"only the first ones, the end just behind the start", set(row{1, 5, 5, 0, 1, 1}, row{1, 20, 4, 3, 1, 2}), 1, "{1 1 4 1 []} {0 4 4 1 []}", 0},
	{"the second one tick behind the start", set(row{1, 5, 5, 4, 1, 1}, row{2, 20, 20, 18, 1, 2}), 1, "{1 1 19 2 []} {0 15 19 1 []} {0 20 20 1 []}", 0},
	{"at each tick", set(row{1, 1, 1, 0, 1, 1}, row{1, 3, 3, 0, 1, 2}), 1, "{1 1 1 1 []} {0 1 1 1 []} {0 2 2 1 []} {0 3 3 1 []}", 0},

	{"the greatest times", set(row{long, long, long, 0, long, 1}, row{1, long, long, 0, 1, 2}), 1, "{1 1 1 1 []} {0 1 1 2147483647 []}", 0},
	{"the greatest section", set(row{1, long, long, 0, 1, 1}, row{long, long, long, 0, long, 2}), 0, "{1 0 0 2147483647 [2147483647]} {0 1 1 1 []}", 1},
	{"the greatest jitter", set(row{1, long, long, long - 1, 1, 1}, row{2, 9, 9, 0, 2, 2}), 0, "{1 2147483646 2147483646 2 [2]} {0 1 2147483647 1 []}", 1},
	{"the greatest jitter ahead", set(row{1, long, long, long - 1, 1, 1}, row{2, long, long, 0, 2, 2}), 1, "{1 2147483647 2147483647 2 []} {0 1 2147483647 1 []} {0 2147483648 2147483648 1 []}", 0},
}

func TestScenes(t *testing.T) {
	for _, c := range scenes {
		t.Run(c.what, func(t *testing.T) {
			jobs, at, e := scene.Critical(c.l, c.i)
			if got := fmt.Sprint(jobs); got != "["+c.jobs+"]" || at != c.at || e != api.OK {
				t.Errorf("Critical: %s, %d, %d, want [%s], %d", got, at, int(e), c.jobs, c.at)
			}
			wantFollows(t, c.l)
		})
	}
}

// By each deadline that it may have, and each jitter, its scene has the jobs that are below both, and no other one.
func TestScenesByEachDeadlineAndJitter(t *testing.T) {
	for d := int64(2); d <= 40; d++ {
		for j := int64(0); j <= d-2; j++ {
			for _, ahead := range []int64{0, 1, 3, 6} {
				wantModels(t, set(row{2, 40, d, j, 2, 5}, row{1, 7, 7, ahead, 1, 2}, row{3, 41, 41, 1, 3, 9}))
			}
		}
	}
}

// As many jobs as there may be, and one more.
func TestScenesOfVeryManyJobs(t *testing.T) {
	tick, blocks := row{1, 1, 1, 0, 1, 1}, row{2, long, long, 0, 2, api.MaxPrio}
	two, late := row{1, 2, 2, 1, 1, 2}, row{1, 3, 3, 1, 1, 1}
	for _, c := range []struct {
		what string
		l    []api.Task
		i, n int
	}{
		{"one ahead", set(tick, row{1, long, 4095, 0, 1, 9}), 1, 4096},
		{"one ahead, one more", set(tick, row{1, long, 4096, 0, 1, 9}), 1, 0},
		{"one ahead, and its jitter", set(tick, row{1, long, 4195, 100, 1, 9}), 1, 4096},
		{"one ahead, and its jitter, one more", set(tick, row{1, long, 4196, 100, 1, 9}), 1, 0},
		{"one ahead with jitter", set(late, row{1, long, 3*4095 - 1, 0, 1, 9}), 1, 4096},
		{"one ahead with jitter, one more", set(late, row{1, long, 3 * 4095, 0, 1, 9}), 1, 0},
		{"one ahead, and a blocker", set(tick, blocks, row{1, long, 4094, 0, 1, 9}), 2, 4096},
		{"one ahead, and a blocker, one more", set(tick, blocks, row{1, long, 4095, 0, 1, 9}), 2, 0},
		{"one ahead that stands behind", set(row{1, long, 4095, 0, 1, 9}, tick), 0, 4096},
		{"one ahead that stands behind, one more", set(row{1, long, 4096, 0, 1, 9}, tick), 0, 0},
		{"two ahead", set(tick, two, row{1, long, 2729, 0, 1, 9}), 2, 4095},
		{"two ahead, of which both have one more", set(tick, two, row{1, long, 2730, 0, 1, 9}), 2, 0},
		{"two ahead, of which the first is one less", set(two, tick, row{1, long, 2730, 0, 1, 9}), 2, 0},
		{"two ahead, and a blocker", set(tick, two, row{1, long, 2729, 0, 1, 9}, blocks), 2, 4096},
		{"two ahead, of which the first has all", set(tick, row{1, 9000, 9000, 0, 1, 2}, row{1, long, 4094, 0, 1, 9}), 2, 4096},
		{"two ahead, of which the second's first is too many", set(tick, row{1, 9000, 9000, 0, 1, 2}, row{1, long, 4095, 0, 1, 9}), 2, 0},
		{"three ahead, of which the last one is too many", set(tick, row{1, 9000, 9000, 0, 1, 2}, row{1, 9000, 9000, 0, 1, 3}, row{1, long, 4094, 0, 1, 9}), 3, 0},
		{"the least T, the greatest D", set(tick, row{1, long, long, 0, 1, 9}), 1, 0},
		{"the least T, the greatest D, and a blocker", set(tick, row{1, long, long, 0, 1, 9}, blocks), 1, 0},
		{"the least T, the greatest D, and jitter", set(tick, row{1, long, long, long - 1, 1, 9}), 1, 2},
		{"great times", set(row{1, 524417, 524417, 0, 1, 1}, row{1, long, long, 0, 1, 9}), 1, 4096},
		{"great times, one more", set(row{1, 524416, 524416, 0, 1, 1}, row{1, long, long, 0, 1, 9}), 1, 0},
		{"great times with jitter, one more", set(row{1, 524417, 524417, 524416, 1, 1}, row{1, long, long, 0, 1, 9}), 1, 0},
	} {
		t.Run(c.what, func(t *testing.T) {
			jobs, at, e := scene.Critical(c.l, c.i)
			if len(jobs) != c.n || e == api.OK != (c.n > 0) || e != api.OK && (e != api.ErrHorizon || at != 0) {
				t.Errorf("Critical: %d jobs, %d, %d, want %d jobs", len(jobs), at, int(e), c.n)
			}
			wantModels(t, c.l)
			if c.n > 0 {
				wantPlayed(t, c.l, c.i)
			}
		})
	}
}

// Where a scene has too many jobs, when it begins and who blocks is told all the same.
func TestNoSceneButStartAndBlocker(t *testing.T) {
	l := set(row{1, 1, 1, 0, 1, 1}, row{1, long, long, 6, 1, 9}, row{2, 9, 9, 0, 2, 30})
	wantStart(t, l, 1, 7)
	wantBlocker(t, l, 1, 2)
	wantCritical(t, l, 1, nil, 0, api.ErrHorizon)
}

// Tasks that need many ticks each make many jobs: these are not put down up to the last one.
func TestVeryManyJobsOfFullSet(t *testing.T) {
	l := make([]api.Task, api.MaxTasks)
	for i := range l {
		l[i] = set(row{1, 1, 1, 0, 1, int64(1 + i)})[0]
		l[i].Name = fmt.Sprint("t", i)
	}
	wantModelsOf(t, l, api.MaxTasks-1)
	last := &l[api.MaxTasks-1]
	last.T = long
	for _, d := range []int64{3, 4, 5, long} { // 3 of each of 1023, and its own, and so on
		last.D = d
		_, _, e := scene.Critical(l, api.MaxTasks-1)
		want := api.OK
		if d > 4 {
			want = api.ErrHorizon
		}
		if e != want {
			t.Errorf("Critical by D %d: %d, want %d", d, int(e), int(want))
		}
		wantModelsOf(t, l, api.MaxTasks-1)
	}
	last.D = 4
	jobs, _, _ := scene.Critical(l, api.MaxTasks-1)
	if len(jobs) != 4093 {
		t.Errorf("Critical: %d jobs", len(jobs))
	}
}

// What one call tells is the caller's.
func TestCriticalTellsNewJobs(t *testing.T) {
	l := example()
	for range 3 {
		jobs, at, e := scene.Critical(l, 1)
		other, _, _ := scene.Critical(l, 1)
		if want, _, _ := modelCritical(l, 1); !slices.EqualFunc(jobs, want, sameJob) || at != 1 || e != api.OK {
			t.Fatalf("Critical: %s, %d, %d", shownJobs(jobs), at, int(e))
		}
		jobs[0].Cuts[0], jobs[2].Arrive = 99, 99
		jobs[0].Cuts = append(jobs[0].Cuts, 5)
		_ = append(jobs, api.Job{Task: 7})
		if want, _, _ := modelCritical(l, 1); !slices.EqualFunc(other, want, sameJob) {
			t.Fatalf("Critical: %s, when another one was changed", shownJobs(other))
		}
	}
}

// P15.3

func TestWhatFollowsOfSmallSets(t *testing.T) {
	small(5, 3, func(a row) {
		wantFollows(t, set(a))
	})
	small(4, 2, func(a row) {
		small(4, 1, func(b row) {
			wantFollows(t, set(a, b))
		})
	})
	small(2, 5, func(a row) {
		small(3, 7, func(b row) {
			small(3, 4, func(c row) {
				wantFollows(t, set(a, b, c))
			})
		})
	})
}

func TestWhatFollowsOfDrawnSets(t *testing.T) {
	r := rand.New(rand.NewSource(1))
	found := map[api.Errno]int{}
	for range 300 {
		for _, end := range []int64{3, 9, 60, 500} {
			for _, part := range []int64{1, 3, 9} {
				l := drawn(r, 7, end, part)
				wantModels(t, l)
				for i := range l {
					found[wantPlayed(t, l, i)]++
				}
			}
		}
	}
	if found[api.OK] < 1000 || found[api.ErrMiss] < 1000 {
		t.Errorf("what was drawn is all alike: %v", found)
	}
}

func TestWhatFollowsOfFullSet(t *testing.T) {
	l := full()
	found := map[api.Errno]int{}
	for _, i := range []int{0, 1, 2, 62, 63, 64, 65, 300, 511, 512, 1021, 1022, 1023} {
		wantModelsOf(t, l, i)
		found[wantPlayed(t, l, i)]++
	}
	if len(found) < 2 {
		t.Errorf("what was played is all alike: %v", found)
	}
}

// All of it, against the models

func TestDrawnSetsAgainstTheModels(t *testing.T) {
	r := rand.New(rand.NewSource(2))
	found := map[api.Errno]int{}
	for range 60 {
		for _, end := range []int64{9000, 1 << 20, long} {
			for _, part := range []int64{1, 40} {
				l := drawn(r, 9, end, part)
				if l[0].P > 1 && r.Intn(2) > 0 { // and one that comes often
					l = append(l, api.Task{Name: "often", C: 1, T: end / 9000, D: end / 9000, Q: 1, P: 100})
					l[0].P, l[len(l)-1].P = 100, l[0].P
				}
				wantModels(t, l)
				for i := range l {
					jobs, _, e := scene.Critical(l, i)
					if e == api.OK && !script.Legal(l, jobs) {
						t.Fatalf("Critical of %d of %s: %s is not legal", i, shown(l), shownJobs(jobs))
					}
					found[e]++
				}
			}
		}
	}
	if found[api.OK] < 50 || found[api.ErrHorizon] < 50 {
		t.Errorf("what was drawn is all alike: %v", found)
	}
}

// Where tasks stand is of no account for when a scene begins, and for how long the job takes: only their P.
func TestWhereTasksStand(t *testing.T) {
	for _, rows := range [][]api.Task{example(), mixed()} {
		perms(rows, func(l []api.Task, at []int) {
			wantFollows(t, l)
			for i := range rows {
				wantStart(t, l, at[i], modelStart(rows, i))
			}
		})
	}
}

// Wrong inputs

func TestPlacesThatThereAreNot(t *testing.T) {
	for _, l := range [][]api.Task{example(), mixed(), set(row{3, 9, 9, 6, 3, 1}), full()} {
		for _, i := range []int{-1, -2, len(l), len(l) + 1, 1 << 40, math.MinInt, math.MaxInt} {
			wantNothing(t, l, i)
		}
	}
}

// wrongSets are some that may not be: the good one, in which one task is wrong, by one of its numbers, or its name.
func wrongSets(good []api.Task) [][]api.Task {
	changes := []func(a *api.Task){
		func(a *api.Task) { a.Name = "" },
		func(a *api.Task) { a.Name = "a b" },
		func(a *api.Task) { a.Name = strings.Repeat("n", api.MaxName+1) },
		func(a *api.Task) { a.C = 0 },
		func(a *api.Task) { a.C = math.MinInt64 },
		func(a *api.Task) { a.T = 0 },
		func(a *api.Task) { a.T = -1 },
		func(a *api.Task) { a.T, a.D = long+1, long },
		func(a *api.Task) { a.T = math.MaxInt64 },
		func(a *api.Task) { a.D = 0 },
		func(a *api.Task) { a.D = a.T + 1 },
		func(a *api.Task) { a.D = a.C + a.J - 1 },
		func(a *api.Task) { a.J = -1 },
		func(a *api.Task) { a.J = a.D - a.C + 1 },
		func(a *api.Task) { a.J = math.MaxInt64 },
		func(a *api.Task) { a.Q = 0 },
		func(a *api.Task) { a.Q = a.C + 1 },
		func(a *api.Task) { a.Q = math.MaxInt64 },
		func(a *api.Task) { a.P = 0 },
		func(a *api.Task) { a.P = api.MaxPrio + 1 },
		func(a *api.Task) { a.P = math.MinInt },
	}
	var sets [][]api.Task
	for k := range good {
		for _, change := range changes {
			l := slices.Clone(good)
			change(&l[k])
			sets = append(sets, l)
		}
		for other := range good {
			if other != k {
				names, prios := slices.Clone(good), slices.Clone(good)
				names[k].Name, prios[k].P = names[other].Name, prios[other].P
				sets = append(sets, names, prios)
			}
		}
	}
	return sets
}

func TestSetsThatMayNotBe(t *testing.T) {
	for _, l := range append(wrongSets(example()), wrongSets(mixed())...) {
		if _, e := task.CheckAll(l); e == api.OK {
			t.Fatalf("a wrong set may be: %s", shown(l))
		}
		for i := -1; i <= len(l); i++ {
			wantNothing(t, l, i)
		}
	}
	many := append(full(), api.Task{Name: "more", C: 1, T: 9, D: 9, Q: 1, P: 2000}) // one more than there may be
	for _, l := range [][]api.Task{nil, {}, make([]api.Task, 3), many, slices.Concat(full(), full())} {
		for _, i := range []int{-1, 0, 1, 2, len(l) - 1, len(l), math.MinInt, math.MaxInt} {
			wantNothing(t, l, i)
		}
	}
}

// A set that may not be is told ahead of a scene that would have too many jobs.
func TestWrongSetAheadOfManyJobs(t *testing.T) {
	l := set(row{1, 1, 1, 0, 1, 1}, row{1, long, long, 0, 1, 9}, row{1, 5, 6, 0, 1, 11})
	wantNothing(t, l, 1)
	l[2].D = 5
	wantCritical(t, l, 1, nil, 0, api.ErrHorizon)
	wantNothing(t, l, 3)
}

func TestNothingIsKept(t *testing.T) {
	good, wrong := example(), example()
	wrong[2].Q = 4
	for range 3 { // one call's answer is not the next one's
		wantModelsOf(t, good, 1)
		wantNothing(t, wrong, 1)
		wantNothing(t, nil, 0)
		wantModelsOf(t, good, 2)
		wantModelsOf(t, good, 0)
	}
}
