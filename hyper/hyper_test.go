package hyper_test

import (
	"fmt"
	"math"
	"math/big"
	"math/rand"
	"slices"
	"strings"
	"testing"

	"cadency/api"
	"cadency/exec"
	"cadency/hyper"
	"cadency/load"
	"cadency/rta"
	"cadency/script"
	"cadency/task"
)

const (
	long = int64(api.MaxTime)
	top  = uint64(math.MaxUint64)

	// none is who runs, where no job does, and when a job ended that has not.
	none = -1
)

// row is a task by its numbers: C, T, D, J, Q, P.
type row [6]int64

// set are tasks of these rows, with names of their own.
func set(rows ...row) []api.Task {
	l := make([]api.Task, len(rows))
	for i, r := range rows {
		l[i] = api.Task{Name: fmt.Sprint("t", i), C: r[0], T: r[1], D: r[2], J: r[3], Q: r[4], P: int(r[5])}
	}
	return l
}

// by are tasks from C and T by turns, the first one the most urgent, that have all of their T, no jitter, and no sections.
func by(ct ...int64) []api.Task {
	var l []api.Task
	for k := 0; k+1 < len(ct); k += 2 {
		l = append(l, set(row{ct[k], ct[k+1], ct[k+1], 0, 1, int64(k + 1)})...)
		l[k/2].Name = fmt.Sprint("t", k)
	}
	return l
}

// every are tasks of these T that work 1, the first one the most urgent.
func every(ts ...int64) []api.Task {
	var ct []int64
	for _, t := range ts {
		ct = append(ct, 1, t)
	}
	return by(ct...)
}

// example is the chapter's.
func example() []api.Task { return by(1, 4, 2, 6) }

// mixed is a set whose tasks do not stand in the order of their urgency, with jitter and sections.
func mixed() []api.Task {
	return set(row{5, 30, 30, 3, 4, 7}, row{1, 5, 5, 1, 1, 1}, row{2, 12, 11, 0, 2, 3}, row{4, 60, 55, 9, 1, 40}, row{3, 20, 17, 7, 3, 2})
}

// full is a set of as many tasks as may be, the least urgent one first: all but two have 4 jobs in 5600 ticks, one has 1, and the last one so many as its T tells.
func full(last int64) []api.Task {
	l := make([]api.Task, api.MaxTasks)
	for i := range l {
		l[i] = set(row{1, 1400, 1000, 3, 1, int64(api.MaxTasks - i)})[0]
		l[i].Name = fmt.Sprint("t", i)
	}
	l[7].T = 5600
	l[1023].T, l[1023].D = last, last
	return l
}

// beyond is a set whose period is just below 2^64, with 2^64 and 73 jobs in it: with 64 bits these look like 73.
func beyond() []api.Task {
	return every(1, 405, 72726, 46883200, 2095360432, 1968482880)
}

// plain is l without what is of no account here: jitter, sections, and D below T.
func plain(l []api.Task) []api.Task {
	l = slices.Clone(l)
	for i := range l {
		l[i].D, l[i].J, l[i].Q = l[i].T, 0, 1
	}
	return l
}

// times is l with C, T, D and J so many times as great.
func times(l []api.Task, n int64) []api.Task {
	l = slices.Clone(l)
	for i := range l {
		a := &l[i]
		a.C, a.T, a.D, a.J = n*a.C, n*a.T, n*a.D, n*a.J
	}
	return l
}

func shown(l []api.Task) string {
	s := make([]string, 0, 6)
	for _, t := range l[:min(len(l), 6)] {
		s = append(s, fmt.Sprint(t.C, " ", t.T, " ", t.D, " ", t.J, " ", t.Q, " ", t.P))
	}
	return fmt.Sprintf("%d tasks (%s)", len(l), strings.Join(s, ", "))
}

// cut is what is shown of something, if it is very long.
func cut(x any) string {
	s := fmt.Sprintf("%v", x)
	if len(s) > 2000 {
		return s[:2000] + " .."
	}
	return s
}

// The models: what the words of the chapters say, in numbers of any size, and tick by tick.

// modelPeriod is the least common multiple of all T, however great it is.
func modelPeriod(l []api.Task) *big.Int {
	m := big.NewInt(1)
	for _, t := range l {
		period := big.NewInt(t.T)
		divisor := new(big.Int).GCD(nil, nil, m, period)
		m.Mul(m, period.Div(period, divisor))
	}
	return m
}

// modelMany is how many jobs there are in a period, however many these are.
func modelMany(l []api.Task) *big.Int {
	sum, period := new(big.Int), modelPeriod(l)
	for _, t := range l {
		sum.Add(sum, new(big.Int).Div(period, big.NewInt(t.T)))
	}
	return sum
}

func modelJobs(l []api.Task, cap uint64) ([]api.Job, uint64, api.Errno) {
	if _, e := task.CheckAll(l); e != api.OK {
		return nil, 0, api.ErrArg
	}
	period := modelPeriod(l)
	if !period.IsUint64() || period.Uint64() > cap || modelMany(l).Cmp(big.NewInt(api.MaxJobs)) > 0 {
		return nil, 0, api.ErrHorizon
	}
	var jobs []api.Job
	for i, t := range l {
		for k := int64(0); big.NewInt(k*t.T).Cmp(period) < 0; k++ {
			jobs = append(jobs, api.Job{Task: i, Arrive: k * t.T, Release: k * t.T, Work: t.C})
		}
	}
	return jobs, period.Uint64(), api.OK
}

// player is who tells when jobs end, and how many of the first ticks nothing runs.
type player func(l []api.Task, jobs []api.Job, first int64) ([]int64, uint64)

// ticks tells it tick by tick, each time by looking at all jobs; none of these has sections.
func ticks(l []api.Task, jobs []api.Job, first int64) ([]int64, uint64) {
	ends, left := slices.Repeat([]int64{none}, len(jobs)), len(jobs)
	worked, idle := make([]int64, len(jobs)), uint64(0)
	for t := int64(0); t < first || left > 0; t++ {
		runs := none
		for k, j := range jobs {
			if j.Release <= t && worked[k] < j.Work && (runs == none || l[j.Task].P < l[jobs[runs].Task].P) {
				runs = k
			}
		}
		switch {
		case runs == none && t < first:
			idle++
		case runs != none:
			worked[runs]++
			if worked[runs] == jobs[runs].Work {
				ends[runs], left = t+1, left-1
			}
		}
	}
	return ends, idle
}

// layer is what layer 10 tells, where there are too many ticks.
func layer(l []api.Task, jobs []api.Job, first int64) ([]int64, uint64) {
	spans, ends := exec.Run(l, jobs)
	idle := first
	for _, s := range spans {
		idle -= min(s.To, first) - min(s.From, first)
	}
	return ends, uint64(idle)
}

// answer is what Run and Idle tell together.
type answer struct {
	greatest []int64
	period   uint64
	idle     uint64
	e        api.Errno
}

func modelRun(play player, l []api.Task, cap uint64) answer {
	jobs, period, e := modelJobs(l, cap)
	if e != api.OK {
		return answer{e: e}
	}
	ends, idle := play(l, jobs, int64(period))
	greatest := make([]int64, len(l))
	for k, j := range jobs {
		greatest[j.Task] = max(greatest[j.Task], ends[k]-j.Arrive)
	}
	return answer{greatest, period, idle, api.OK}
}

// Calls, and what they should tell.

// kept makes a call, and holds what it was handed in against what that is afterwards, also behind its end.
func kept(t *testing.T, what string, l []api.Task, call func(l []api.Task)) {
	t.Helper()
	if l == nil {
		call(nil)
		return
	}
	room := append(slices.Clone(l), api.Task{Name: "x", C: 11}, api.Task{J: -1})
	before := slices.Clone(room)
	call(room[:len(l)])
	if !slices.Equal(room, before) {
		t.Fatalf("%s of %s: what was handed in is changed", what, shown(l))
	}
}

// sameJob holds a job against one that has no cuts.
func sameJob(a, b api.Job) bool {
	return a.Task == b.Task && a.Arrive == b.Arrive && a.Release == b.Release && a.Work == b.Work && len(a.Cuts) == 0
}

func wantJobs(t *testing.T, l []api.Task, cap uint64, jobs []api.Job, period uint64, e api.Errno) {
	t.Helper()
	kept(t, "Jobs", l, func(l []api.Task) {
		t.Helper()
		got, n, err := hyper.Jobs(l, cap)
		if !slices.EqualFunc(got, jobs, sameJob) || n != period || err != e {
			t.Fatalf("Jobs of %s, %d: %d (%s), %d, %d, want %d (%s), %d, %d", shown(l), cap, len(got), cut(got), n, int(err), len(jobs), cut(jobs), period, int(e))
		}
	})
}

// wantRun holds Run and Idle against an answer.
func wantRun(t *testing.T, l []api.Task, cap uint64, want answer) {
	t.Helper()
	kept(t, "Run", l, func(l []api.Task) {
		t.Helper()
		got, n, e := hyper.Run(l, cap)
		if !slices.Equal(got, want.greatest) || n != want.period || e != want.e {
			t.Fatalf("Run of %s, %d: %s, %d, %d, want %s, %d, %d", shown(l), cap, cut(got), n, int(e), cut(want.greatest), want.period, int(want.e))
		}
	})
	kept(t, "Idle", l, func(l []api.Task) {
		t.Helper()
		if n, e := hyper.Idle(l, cap); n != want.idle || e != want.e {
			t.Fatalf("Idle of %s, %d: %d, %d, want %d, %d", shown(l), cap, n, int(e), want.idle, int(want.e))
		}
	})
}

// wantNothing asks all three calls for an error, and nothing beside it.
func wantNothing(t *testing.T, l []api.Task, cap uint64, e api.Errno) {
	t.Helper()
	wantJobs(t, l, cap, nil, 0, e)
	wantRun(t, l, cap, answer{e: e})
}

// wantModels holds all that is told of l against the models, by caps around its period, and the greatest ones. Whether there are jobs with the greatest cap is told.
func wantModels(t *testing.T, play player, l []api.Task) api.Errno {
	t.Helper()
	period := modelPeriod(l).Uint64() // its low bits, if it is greater: a cap as others are
	whole := modelRun(play, l, top)
	for _, cap := range []uint64{0, 1, period - 1, period, period + 1, top - 1, top} {
		jobs, n, e := modelJobs(l, cap)
		wantJobs(t, l, cap, jobs, n, e)
		if e == api.OK {
			wantRun(t, l, cap, whole)
		} else {
			wantRun(t, l, cap, answer{e: e})
		}
	}
	return whole.e
}

// work is how long all jobs work together.
func work(jobs []api.Job) uint64 {
	sum := uint64(0)
	for _, j := range jobs {
		sum += uint64(j.Work)
	}
	return sum
}

// bounds are, by places, those of tasks of which it and all more urgent ones have one; 0 of others, and of all, if there is jitter, or a section.
func bounds(l []api.Task) []int64 {
	told := make([]int64, len(l))
	if slices.ContainsFunc(l, func(a api.Task) bool { return a.J > 0 || a.Q > 1 }) {
		return told
	}
	all, late, _ := rta.All(l)
	for i, a := range l {
		if !slices.ContainsFunc(late, func(k int) bool { return l[k].P <= a.P }) {
			told[i] = all[i]
		}
	}
	return told
}

// wantFollows asks what follows, of a set whose jobs are told: how long they take, if there is neither jitter nor a section, and how many ticks are idle. Whether they need more than all ticks is told, and how many responses were held against bounds.
func wantFollows(t *testing.T, l []api.Task) (bool, int) {
	t.Helper()
	jobs, period, e := hyper.Jobs(l, top)
	greatest, _, _ := hyper.Run(l, top)
	idle, _ := hyper.Idle(l, top)
	over, err := load.Over(l)
	if e != api.OK || err != api.OK || !script.Legal(l, jobs) {
		t.Fatalf("of %s: %d, %d, or its jobs are not legal", shown(l), int(e), int(err))
	}
	_, ends := exec.Until(l, jobs, int64(period))
	left := slices.Contains(ends, none)
	switch {
	case left != over:
		t.Fatalf("of %s: work is left behind: %t, they need more than all ticks: %t", shown(l), left, over)
	case over && (idle != 0 || work(jobs) <= period):
		t.Fatalf("of %s: of %d ticks %d are idle, with %d of work", shown(l), period, idle, work(jobs))
	case !over && idle != period-work(jobs):
		t.Fatalf("of %s: of %d ticks %d are idle, with %d of work", shown(l), period, idle, work(jobs))
	}
	held := 0
	for i, n := range bounds(l) {
		if n == 0 {
			continue
		}
		if greatest[i] != n {
			t.Fatalf("of %d of %s: it takes %d, and its bound is %d", i, shown(l), greatest[i], n)
		}
		held++
	}
	return over, held
}

// perms calls do with each order of l, and, by l's places, where these stand in it.
func perms(l []api.Task, do func(l []api.Task, at []int)) {
	own, at := slices.Clone(l), make([]int, len(l))
	var from func(n int, left []int)
	from = func(n int, left []int) {
		if len(left) == 0 {
			do(own, at)
			return
		}
		for k, place := range left {
			own[n], at[place] = l[place], n
			from(n+1, slices.Concat(left[:k], left[k+1:]))
		}
	}
	places := make([]int, len(l))
	for i := range places {
		places[i] = i
	}
	from(0, places)
}

// drawn is a set that may be, of up to n tasks, in no order, with T that divide whole, of which each works at most its part by that of its T.
func drawn(r *rand.Rand, n int, whole, part int64) []api.Task {
	l := make([]api.Task, 1+r.Intn(n))
	prios := r.Perm(2 * len(l))
	for i := range l {
		period := 1 + r.Int63n(min(whole, 60))
		for whole%period != 0 {
			period--
		}
		if r.Intn(8) > 0 { // mostly few jobs in the whole of it
			period = whole / period
		}
		c := 1 + r.Int63n(max(period/part, 1))
		d := c + r.Int63n(period-c+1)
		if r.Intn(3) > 0 {
			d = period
		}
		l[i] = set(row{c, period, d, r.Int63n(d - c + 1), 1 + r.Int63n(c), int64(1 + prios[i])})[0]
		l[i].Name = fmt.Sprint("t", i)
	}
	return l
}

// P17.1

// laid are sets, with the jobs of a period, and how long that is.
var laid = []struct {
	what   string
	l      []api.Task
	jobs   string
	period uint64
}{
	{"the chapter's", example(), "{0 0 0 1 []} {0 4 4 1 []} {0 8 8 1 []} {1 0 0 2 []} {1 6 6 2 []}", 12},
	{"the other order", by(2, 6, 1, 4), "{0 0 0 2 []} {0 6 6 2 []} {1 0 0 1 []} {1 4 4 1 []} {1 8 8 1 []}", 12},
	{"one task", by(3, 9), "{0 0 0 3 []}", 9},
	{"one task of 1", by(1, 1), "{0 0 0 1 []}", 1},
	{"one task with jitter and a section", set(row{4, 9, 9, 3, 4, 5}), "{0 0 0 4 []}", 9},
	{"two of the same T", by(1, 5, 3, 5), "{0 0 0 1 []} {1 0 0 3 []}", 5},
	{"one divides the other", by(1, 3, 2, 9), "{0 0 0 1 []} {0 3 3 1 []} {0 6 6 1 []} {1 0 0 2 []}", 9},
	{"one divides the other, that one first", by(2, 9, 1, 3), "{0 0 0 2 []} {1 0 0 1 []} {1 3 3 1 []} {1 6 6 1 []}", 9},
	{"one at each tick", by(1, 1, 1, 3), "{0 0 0 1 []} {0 1 1 1 []} {0 2 2 1 []} {1 0 0 1 []}", 3},
	{"nothing divides both", by(1, 2, 1, 3), "{0 0 0 1 []} {0 2 2 1 []} {0 4 4 1 []} {1 0 0 1 []} {1 3 3 1 []}", 6},
	{"jitter, as much as may be", set(row{1, 2, 2, 1, 1, 2}, row{1, 4, 4, 3, 1, 1}), "{0 0 0 1 []} {0 2 2 1 []} {1 0 0 1 []}", 4},
	{"sections, as long as may be", set(row{2, 2, 2, 0, 2, 2}, row{3, 4, 4, 0, 3, 1}), "{0 0 0 2 []} {0 2 2 2 []} {1 0 0 3 []}", 4},
	{"D below T", set(row{1, 4, 1, 0, 1, 2}, row{1, 2, 2, 0, 1, 1}), "{0 0 0 1 []} {1 0 0 1 []} {1 2 2 1 []}", 4},
	{"three, the most urgent one last", set(row{1, 6, 6, 0, 1, 9}, row{2, 4, 4, 0, 1, 5}, row{1, 3, 3, 0, 1, 2}), "{0 0 0 1 []} {0 6 6 1 []} {1 0 0 2 []} {1 4 4 2 []} {1 8 8 2 []} {2 0 0 1 []} {2 3 3 1 []} {2 6 6 1 []} {2 9 9 1 []}", 12},
	{"more than all ticks", by(2, 2, 1, 2), "{0 0 0 2 []} {1 0 0 1 []}", 2},
	{"the greatest T", by(long, long), "{0 0 0 2147483647 []}", uint64(long)},
	{"two great T that nothing divides", by(1, long, 2, long-1, 5, long), "", 0},
	{"a great T, and the half of it", by(7, 1<<30, 1, 1<<29), "{0 0 0 7 []} {1 0 0 1 []} {1 536870912 536870912 1 []}", 1 << 30},
	{"a period beyond the greatest T", by(1, 1<<30, 2, 3<<29), "{0 0 0 1 []} {0 1073741824 1073741824 1 []} {0 2147483648 2147483648 1 []} {1 0 0 2 []} {1 1610612736 1610612736 2 []}", 3 << 30},
}

func TestLaidOut(t *testing.T) {
	for _, c := range laid {
		t.Run(c.what, func(t *testing.T) {
			e := api.OK
			if c.period == 0 {
				e = api.ErrHorizon
			}
			jobs, period, err := hyper.Jobs(c.l, top)
			if got := fmt.Sprint(jobs); got != "["+c.jobs+"]" || period != c.period || err != e {
				t.Errorf("Jobs: %s, %d, %d, want [%s], %d, %d", got, period, int(err), c.jobs, c.period, int(e))
			}
			wantModels(t, layer, c.l)
		})
	}
}

// caps are some, of which the least are below each period but 1, and the greatest above each.
var caps = []uint64{0, 1, 2, 11, 12, 60, 4096, 1 << 31, 1<<63 - 1, 1 << 63, top - 1, top}

// The period may be just the cap, and no more; of cap 0 there is none, and with the greatest one each.
func TestCaps(t *testing.T) {
	for _, c := range []struct {
		l      []api.Task
		period uint64
	}{
		{example(), 12}, {by(1, 1), 1}, {mixed(), 60}, {by(3, 9), 9}, {by(long, long), uint64(long)}, {full(800), 5600}, {by(1, 1<<30, 1, 3<<29), 3 << 30},
	} {
		want := modelRun(layer, c.l, top)
		jobs, _, _ := modelJobs(c.l, top)
		for cap := c.period - min(c.period, 70); cap < c.period+3; cap++ {
			if cap < c.period {
				wantNothing(t, c.l, cap, api.ErrHorizon)
				continue
			}
			wantJobs(t, c.l, cap, jobs, c.period, api.OK)
			wantRun(t, c.l, cap, want)
		}
		for _, cap := range caps {
			if cap < c.period {
				wantNothing(t, c.l, cap, api.ErrHorizon)
			} else {
				wantRun(t, c.l, cap, want)
			}
		}
	}
}

// As many jobs as may be are told, and with one more none, whatever the cap, and whosever they are.
func TestVeryManyJobs(t *testing.T) {
	for _, c := range []struct {
		what string
		l    []api.Task
		many int64
	}{
		{"one less", every(1, 4094), 4095},
		{"as many as may be", every(1, 4095), 4096},
		{"one more, one task alone has as many as may be", every(1, 4096), 4097},
		{"two more, one task alone has one more", every(1, 4097), 4098},
		{"as many as may be, in the other order", every(4095, 1), 4096},
		{"one more, in the other order", every(4096, 1), 4097},
		{"two more, in the other order", every(4097, 1), 4098},
		{"as many as may be, of two apart", every(2, 8190), 4096},
		{"one more, of two apart", every(2, 8192), 4097},
		{"as many as may be, of three", every(2, 3, 6*819), 4096},
		{"as many as may be, of three others", every(3, 12*585, 4), 4096},
		{"one less, two have the most", every(2, 2, 4094), 4095},
		{"one more, two have the most", every(2, 2, 4096), 4097},
		{"one more, and the last one has it", every(2, 4096, 2), 4097},
		{"one more, each has few", full(700), 4097},
		{"as many as may be, each has few", full(800), 4096},
		{"as many as may be, far apart", every(long/4095, 4095*(long/4095)), 4096},
		{"one more, far apart", every(long/4096, 4096*(long/4096)), 4097},
		{"as many as may be, of which all work as long as may be", by(1, 1, 4095, 4095), 4096},
		{"many more", every(long, long-1), 2*long - 1},
	} {
		t.Run(c.what, func(t *testing.T) {
			if modelMany(c.l).Cmp(big.NewInt(c.many)) != 0 {
				t.Fatalf("there are %d jobs", modelMany(c.l))
			}
			want := api.OK
			if c.many > api.MaxJobs {
				want = api.ErrHorizon
				for _, cap := range caps {
					wantNothing(t, c.l, cap, want)
				}
			} else if jobs, _, _ := hyper.Jobs(c.l, top); len(jobs) != int(c.many) {
				t.Fatalf("Jobs: %d, want %d", len(jobs), c.many)
			}
			if e := wantModels(t, layer, c.l); e != want {
				t.Fatalf("%d, want %d", int(e), int(want))
			}
		})
	}
}

// Periods that 64 bits just hold, and that they don't, and as many jobs: these are too many, whatever low bits they have.
func TestVeryGreatPeriods(t *testing.T) {
	past, _ := new(big.Int).SetString("18446744073709551689", 10) // 2^64 and 73
	if modelMany(beyond()).Cmp(past) != 0 {
		t.Fatalf("there are %d jobs", modelMany(beyond()))
	}
	ones := slices.Repeat([]int64{1}, 1000)
	for _, c := range []struct {
		what string
		ts   []int64
		bits int
	}{
		{"a great one, and twice 2", []int64{2, long, 4}, 33},
		{"two great ones", []int64{long, long - 18}, 62},
		{"two great ones, and many of 1", append(slices.Clone(ones), long, long-18), 62},
		{"two great ones, and many of 1 behind", append([]int64{long, long - 18}, ones...), 62},
		{"more than 2^63", []int64{long, long - 18, 3}, 64},
		{"more than 2^63, the least first", []int64{3, long - 18, long}, 64},
		{"more than 2^63, and 1", []int64{1, long, long - 18, 3}, 64},
		{"2^64 less 1", []int64{3, 5, 17, 257, 641, 65537, 6700417}, 64},
		{"2^64 and 4", []int64{4, 5, 5581, 8681, 49477, 384773}, 65},
		{"2^64 and 28", []int64{3161593, 4, 121, 79, 4943, 30871}, 65},
		{"five times 2^62", []int64{long, long - 18, 5}, 65},
		{"five times 2^62, the least first", []int64{5, long, long - 18}, 65},
		{"three great ones", []int64{long, long - 18, long - 60}, 93},
		{"many that nothing divides", []int64{97, 101, 103, 107, 109, 113, 127, 131, 137, 139, 149, 151}, 83},
	} {
		t.Run(c.what, func(t *testing.T) {
			l := every(c.ts...)
			if _, ok := load.Period(l); modelPeriod(l).BitLen() != c.bits || ok != (c.bits <= 64) {
				t.Fatalf("the period is %d: %t", modelPeriod(l), ok)
			}
			for _, cap := range caps {
				wantNothing(t, l, cap, api.ErrHorizon)
			}
			wantModels(t, layer, l)
		})
	}
	l := beyond()
	for range 2 { // and the other way round
		for _, cap := range append(caps, modelPeriod(l).Uint64()-1, modelPeriod(l).Uint64()) {
			wantNothing(t, l, cap, api.ErrHorizon)
		}
		slices.Reverse(l)
	}
}

// Jobs hang on C and T alone, of a set that may be.
func TestWhatIsOfNoAccount(t *testing.T) {
	r := rand.New(rand.NewSource(6))
	for range 200 {
		l := drawn(r, 5, 24, 1+r.Int63n(3))
		other := plain(l)
		for i := range other {
			other[i].Name = fmt.Sprint("other.", 7*i)
			other[i].P *= 1000
		}
		jobs, period, e := hyper.Jobs(l, top)
		wantJobs(t, other, top, jobs, period, e)
		greatest, _, _ := hyper.Run(l, top)
		idle, _ := hyper.Idle(l, top)
		wantRun(t, other, top, answer{greatest, period, idle, e})
		for i := range other {
			other[i].P = 1 + r.Intn(900)*1024 + i
		}
		wantJobs(t, other, top, jobs, period, e)
		if n, e := hyper.Idle(other, top); n != idle || e != api.OK {
			t.Fatalf("Idle of %s, by another urgency: %d, %d, want %d", shown(l), n, int(e), idle)
		}
	}
}

// P17.2

// runs are sets, with the greatest responses, and the idle ticks, of a period.
var runs = []struct {
	what     string
	l        []api.Task
	greatest string
	idle     uint64
}{
	{"the chapter's", example(), "1 3", 5},
	{"the other one more urgent", by(2, 6, 1, 4), "2 3", 5},
	{"one task", by(3, 9), "3", 6},
	{"one task that needs all ticks", by(9, 9), "9", 0},
	{"one task of 1", by(1, 1), "1", 0},
	{"one task with jitter and a section", set(row{4, 9, 9, 3, 4, 5}), "4", 5},
	{"in no order of urgency", mixed(), "15 1 7 20 4", 60 - 10 - 12 - 10 - 4 - 9},
	{"three, the least urgent one first", set(row{3, 20, 20, 0, 3, 3}, row{1, 4, 4, 0, 1, 1}, row{2, 10, 10, 1, 1, 2}), "7 1 3", 20 - 3 - 5 - 4},
	{"jitter is of no account", set(row{1, 4, 4, 3, 1, 1}, row{2, 6, 6, 4, 1, 2}), "1 3", 5},
	{"sections are of no account", set(row{1, 4, 4, 0, 1, 1}, row{2, 6, 6, 0, 2, 2}), "1 3", 5},
	{"just all ticks", by(1, 2, 2, 4), "1 4", 0},
	{"just all ticks, of three", by(1, 2, 1, 3, 1, 6), "1 2 6", 0},
	{"all but one tick", by(1, 2, 1, 4), "1 2", 1},
	{"not the first job takes longest", by(1, 2, 2, 5, 1, 10), "1 4 10", 0},

	{"one tick more than all: the last one ends behind the period", by(1, 2, 3, 4), "1 5", 0},
	{"the greatest is behind the period, and none of it ahead", by(3, 4, 4, 8), "3 10", 0},
	{"nothing of it runs ahead of the period's end", by(4, 4, 1, 4), "4 5", 0},
	{"nothing of two runs ahead of it", by(2, 2, 1, 4, 2, 4), "2 5 7", 0},
	{"it goes on from ahead of the period to behind it", by(1, 4, 5, 6), "1 7", 0},
	{"the second job takes longest, up to the period's end", by(2, 3, 2, 4), "2 8", 0},
	{"the second job takes longest, and ends behind it", by(3, 4, 3, 5), "3 16", 0},
	{"twice of all ticks", by(6, 6, 6, 6), "6 12", 0},
	{"more than all, in no order of urgency", set(row{4, 8, 8, 0, 1, 2}, row{3, 4, 4, 0, 1, 1}), "10 3", 0},
	{"many jobs are behind it", by(5, 5, 1, 1), "5 6", 0},
	{"the least urgent one waits for all", by(3, 3, 2, 2, 1, 6), "3 8 13", 0},

	{"the greatest T", by(long, long), "2147483647", 0},
	{"the greatest T, all but one tick", by(long-1, long), "2147483646", 1},
	{"the greatest T, twice of all ticks", by(long, long, long, long), "2147483647 4294967294", 0},
	{"the greatest T, three times", by(long, long, 1, long, long, long), "2147483647 2147483648 4294967295", 0},
	{"a period beyond the greatest T", by(1, 1<<30, 2, 3<<29), "1 3", 3<<30 - 3 - 4},
	{"a great T, and as many jobs as may be", every(524416, 4095*524416), "1 2", 4095*524416 - 4096},
}

func TestRuns(t *testing.T) {
	for _, c := range runs {
		t.Run(c.what, func(t *testing.T) {
			greatest, period, e := hyper.Run(c.l, top)
			idle, err := hyper.Idle(c.l, top)
			if got := fmt.Sprint(greatest); got != "["+c.greatest+"]" || period != modelPeriod(c.l).Uint64() || idle != c.idle || e != api.OK || err != api.OK {
				t.Errorf("Run: %s, %d, %d, Idle: %d, %d, want [%s], %d", got, period, int(e), idle, int(err), c.greatest, c.idle)
			}
			wantFollows(t, c.l)
			if c.l[0].T < 1000 {
				wantModels(t, ticks, c.l)
			}
			wantModels(t, layer, c.l)
		})
	}
}

// Where one task works one tick more and more, the idle ticks go down to none, and stay there, and its responses go on to grow.
func TestMoreAndMoreWork(t *testing.T) {
	for _, c := range []struct{ urgent, other int64 }{{1, 12}, {2, 12}, {4, 12}, {1, 6}, {3, 24}} {
		ahead := int64(0)
		for n := int64(1); n <= c.other; n++ {
			l := set(row{n, c.other, c.other, 0, 1, 2}, row{c.urgent, 4, 4, 0, 1, 1})
			wantModels(t, ticks, l)
			over, _ := wantFollows(t, l)
			period := modelPeriod(l).Int64()
			work := n*(period/c.other) + c.urgent*(period/4)
			if idle, _ := hyper.Idle(l, top); int64(idle) != max(0, period-work) || over != (work > period) {
				t.Fatalf("Idle of %s: %d, with %d of work in %d", shown(l), idle, work, period)
			}
			greatest, _, _ := hyper.Run(l, top)
			if greatest[0] <= ahead || greatest[1] != c.urgent {
				t.Fatalf("Run of %s: %v, with %d ahead", shown(l), greatest, ahead)
			}
			ahead = greatest[0]
		}
	}
}

// Of as many tasks as may be with as many jobs as may be all is told.
func TestFullSet(t *testing.T) {
	l := full(800)
	wantModels(t, ticks, l)
	wantFollows(t, l)
	for i := range l { // more than all ticks
		l[i].C, l[i].J = 3, 0
	}
	wantModels(t, layer, l)
	over, _ := wantFollows(t, l)
	if idle, e := hyper.Idle(l, top); !over || idle != 0 || e != api.OK {
		t.Errorf("Idle: %d, %d, more than all ticks: %t", idle, int(e), over)
	}
	l = plain(full(800))
	if _, held := wantFollows(t, l); held != len(l) {
		t.Errorf("%d responses were held against bounds", held)
	}
	wantNothing(t, full(700), top, api.ErrHorizon)
}

// Responses and periods that 32 bits would not hold.
func TestVeryLongWork(t *testing.T) {
	part := long / 4095
	l := by(part, part, 4095*part, 4095*part) // as many jobs as may be, and each tick is needed twice
	wantRun(t, l, top, answer{[]int64{part, 2 * 4095 * part}, uint64(4095 * part), 0, api.OK})
	wantModels(t, layer, l)

	many := slices.Repeat([]int64{long, long}, api.MaxTasks)
	l = by(many...)
	wantModels(t, layer, l)
	if greatest, _, _ := hyper.Run(l, top); greatest[1023] != 1024*long {
		t.Errorf("Run of %s: the last one takes %d", shown(l), greatest[1023])
	}

	few, more := int64(2046*1049087), int64(2047*1049087) // 2047 of these are 2046 of those: 2^42 ticks, and nearly as many jobs as may be
	l = by(1, few, 1, more)
	wantRun(t, l, top, answer{[]int64{1, 2}, 2046 * 2047 * 1049087, 2046*2047*1049087 - 2046 - 2047, api.OK})
	wantModels(t, layer, by(few, few, more, more))
}

// With all times so many times as great, so is all that is told.
func TestGreatTimes(t *testing.T) {
	for _, l := range [][]api.Task{example(), mixed(), by(1, 4, 5, 6), by(1, 2, 2, 4), by(3, 4, 4, 8), by(1, 2, 2, 3, 5, 12)} {
		greatest, period, e := hyper.Run(l, top)
		idle, _ := hyper.Idle(l, top)
		for _, n := range []int64{2, 3, 1000, 1 << 20, long / 60} {
			want := answer{slices.Clone(greatest), uint64(n) * period, uint64(n) * idle, e}
			for i := range want.greatest {
				want.greatest[i] *= n
			}
			wantRun(t, times(l, n), top, want)
			wantModels(t, layer, times(l, n))
		}
	}
}

// Where tasks stand is of no account for what they take: only their P.
func TestWhereTasksStand(t *testing.T) {
	for _, rows := range [][]api.Task{mixed(), by(1, 2, 2, 3, 5, 12), by(1, 4, 1, 6, 2, 8, 3, 12)} {
		greatest, period, e := hyper.Run(rows, top)
		idle, _ := hyper.Idle(rows, top)
		perms(rows, func(l []api.Task, at []int) {
			moved := make([]int64, len(l))
			for i, n := range greatest {
				moved[at[i]] = n
			}
			wantRun(t, l, top, answer{moved, period, idle, e})
			jobs, n, e := modelJobs(l, top)
			wantJobs(t, l, top, jobs, n, e)
		})
	}
}

func TestDrawnAgainstTheModels(t *testing.T) {
	r := rand.New(rand.NewSource(1))
	for range 150 {
		for _, whole := range []int64{6, 12, 24, 36, 60} {
			for _, part := range []int64{1, 2, 5} {
				l := drawn(r, 6, whole, part)
				if e := wantModels(t, ticks, l); e != api.OK {
					t.Fatalf("of %s: %d", shown(l), int(e))
				}
			}
		}
	}
}

// Of greater times, also such as have too many jobs, or too great a period.
func TestDrawnOfGreatTimes(t *testing.T) {
	r := rand.New(rand.NewSource(2))
	found := map[api.Errno]int{}
	for range 60 {
		for _, whole := range []int64{1 << 30, 720720, 30030, 2 * 3 * 5 * 7 * 11 * 13 * 17 * 19 * 23, 41 * 43 * 47, long} {
			l := drawn(r, 5, whole, 1+r.Int63n(6))
			found[wantModels(t, layer, l)]++
			for i := range l { // T that divide nothing
				l[i].T = l[i].T - r.Int63n(l[i].T-l[i].D+1)
			}
			found[wantModels(t, layer, l)]++
		}
	}
	if found[api.OK] < 100 || found[api.ErrHorizon] < 100 {
		t.Errorf("what was drawn is all alike: %v", found)
	}
}

// P17.3

// small calls do with each task whose T is at most end, of that P, without jitter and sections.
func small(end, p int64, do func(r row)) {
	for period := int64(1); period <= end; period++ {
		for d := int64(1); d <= period; d++ {
			for c := int64(1); c <= d; c++ {
				do(row{c, period, d, 0, 1, p})
			}
		}
	}
}

func TestWhatFollowsOfSmallSets(t *testing.T) {
	found, held := map[bool]int{}, 0
	both := func(l []api.Task) {
		wantModels(t, ticks, l)
		over, n := wantFollows(t, l)
		found[over]++
		held += n
	}
	small(8, 3, func(a row) { both(set(a)) })
	small(6, 2, func(a row) {
		small(6, 1, func(b row) { both(set(a, b)) })
	})
	small(3, 5, func(a row) {
		small(4, 7, func(b row) {
			small(3, 4, func(c row) { both(set(a, b, c)) })
		})
	})
	if found[true] < 100 || found[false] < 100 || held < 1000 {
		t.Errorf("what was held is all alike: %v, %d", found, held)
	}
}

func TestWhatFollowsOfDrawnSets(t *testing.T) {
	r := rand.New(rand.NewSource(3))
	found, held := map[bool]int{}, 0
	for range 300 {
		for _, whole := range []int64{12, 24, 60, 120, 360, 1 << 24} {
			for _, part := range []int64{1, 3, 6} {
				l := drawn(r, 6, whole, part)
				for _, one := range [][]api.Task{l, plain(l)} {
					if modelMany(one).Cmp(big.NewInt(api.MaxJobs)) > 0 {
						continue
					}
					over, n := wantFollows(t, one)
					found[over]++
					held += n
				}
			}
		}
	}
	if found[true] < 1000 || found[false] < 1000 || held < 1000 {
		t.Errorf("what was drawn is all alike: %v, %d", found, held)
	}
}

// A response is the bound also where it is just D; where there is none, it is above D.
func TestBoundsAndDeadlines(t *testing.T) {
	for d := int64(3); d <= 12; d++ {
		l := set(row{1, 4, 4, 0, 1, 1}, row{2, 6, 6, 0, 1, 2}, row{3, 12, d, 0, 1, 3})
		greatest, _, _ := hyper.Run(l, top)
		if fmt.Sprint(greatest) != "[1 3 10]" {
			t.Fatalf("Run of %s: %v", shown(l), greatest)
		}
		n, e := rta.Bound(l, 2)
		if _, held := wantFollows(t, l); (e == api.OK) != (d >= 10) || e == api.OK && n != 10 || held == 3 != (e == api.OK) {
			t.Fatalf("of %s: %d, %d, %d held", shown(l), n, int(e), held)
		}
	}
}

// Wrong inputs

// wrongSets are some that may not be: the good one, in which one task is wrong, by one of its numbers, or its name.
func wrongSets(good []api.Task) [][]api.Task {
	changes := []func(a *api.Task){
		func(a *api.Task) { a.Name = "" },
		func(a *api.Task) { a.Name = "a b" },
		func(a *api.Task) { a.Name = strings.Repeat("n", api.MaxName+1) },
		func(a *api.Task) { a.C = 0 },
		func(a *api.Task) { a.C = a.D - a.J + 1 },
		func(a *api.Task) { a.C = math.MinInt64 },
		func(a *api.Task) { a.T = 0 },
		func(a *api.Task) { a.T = -1 },
		func(a *api.Task) { a.T = math.MinInt64 },
		func(a *api.Task) { a.T, a.D = long+1, long },
		func(a *api.Task) { a.T = math.MaxInt64 },
		func(a *api.Task) { a.D = 0 },
		func(a *api.Task) { a.D = a.T + 1 },
		func(a *api.Task) { a.J = -1 },
		func(a *api.Task) { a.J = a.D - a.C + 1 },
		func(a *api.Task) { a.J = math.MaxInt64 },
		func(a *api.Task) { a.Q = 0 },
		func(a *api.Task) { a.Q = a.C + 1 },
		func(a *api.Task) { a.Q = math.MaxInt64 },
		func(a *api.Task) { a.P = 0 },
		func(a *api.Task) { a.P = api.MaxPrio + 1 },
		func(a *api.Task) { a.P = math.MinInt },
	}
	var sets [][]api.Task
	for k := range good {
		for _, change := range changes {
			l := slices.Clone(good)
			change(&l[k])
			sets = append(sets, l)
		}
		for other := range good {
			if other != k {
				names, prios := slices.Clone(good), slices.Clone(good)
				names[k].Name, prios[k].P = names[other].Name, prios[other].P
				sets = append(sets, names, prios)
			}
		}
	}
	return sets
}

func TestSetsThatMayNotBe(t *testing.T) {
	for _, l := range slices.Concat(wrongSets(example()), wrongSets(mixed()), wrongSets(by(3, 9))) {
		if _, e := task.CheckAll(l); e == api.OK {
			t.Fatalf("a wrong set may be: %s", shown(l))
		}
		for _, cap := range caps {
			wantNothing(t, l, cap, api.ErrArg)
		}
	}
	many := append(full(800), api.Task{Name: "more", C: 1, T: 1400, D: 1400, Q: 1, P: 2000}) // one more than there may be
	for _, l := range [][]api.Task{nil, {}, make([]api.Task, 3), many, slices.Concat(many, many)} {
		for _, cap := range caps {
			wantNothing(t, l, cap, api.ErrArg)
		}
	}
}

// A set that may not be is told ahead of a period, or of jobs, that are too many.
func TestWrongSetAheadOfTheHorizon(t *testing.T) {
	for _, good := range [][]api.Task{every(1, 4096), every(long, long-18, 5), every(long, long-18), beyond(), full(700)} {
		wrong := [][]api.Task{slices.Clone(good), slices.Clone(good), slices.Clone(good)}
		last := len(good) - 1
		wrong[0][last].Q = 2*good[last].C + 1
		wrong[1][last].P = good[0].P
		wrong[2][0].Name = ""
		for _, cap := range caps {
			wantNothing(t, good, cap, api.ErrHorizon)
			for _, l := range wrong {
				wantNothing(t, l, cap, api.ErrArg)
			}
		}
	}
}

// What one call tells is the caller's.
func TestAnswersAreTheCallers(t *testing.T) {
	l := example()
	for range 3 {
		jobs, _, _ := hyper.Jobs(l, top)
		same, _, _ := hyper.Jobs(l, top)
		greatest, _, _ := hyper.Run(l, top)
		other, _, _ := hyper.Run(l, top)
		for k := range jobs {
			jobs[k] = api.Job{Task: 9, Arrive: 9, Release: 9, Work: 9, Cuts: append(jobs[k].Cuts, 9)}
		}
		greatest[0], greatest[1] = 99, 99
		_, _ = append(jobs, api.Job{Task: 7}), append(greatest, 7)
		if fmt.Sprint(same) != "[{0 0 0 1 []} {0 4 4 1 []} {0 8 8 1 []} {1 0 0 2 []} {1 6 6 2 []}]" || fmt.Sprint(other) != "[1 3]" {
			t.Fatalf("Jobs: %v, Run: %v, when others were changed", same, other)
		}
	}
}

func TestNothingIsKept(t *testing.T) {
	good, wrong := example(), example()
	wrong[1].Q = 3
	for range 3 { // one call's answer is not the next one's
		wantRun(t, good, top, answer{[]int64{1, 3}, 12, 5, api.OK})
		wantNothing(t, wrong, top, api.ErrArg)
		wantRun(t, good, 12, answer{[]int64{1, 3}, 12, 5, api.OK})
		wantNothing(t, good, 11, api.ErrHorizon)
		wantNothing(t, nil, 12, api.ErrArg)
		good[1].C = 5
		wantRun(t, good, 12, answer{[]int64{1, 7}, 12, 0, api.OK})
		good[1].T = 8
		wantRun(t, good, 12, answer{[]int64{1, 7}, 8, 1, api.OK})
		good[1].C, good[1].T = 2, 6
		wantModels(t, ticks, good)
	}
}
