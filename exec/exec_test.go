package exec_test

import (
	"fmt"
	"math"
	"math/rand"
	"slices"
	"testing"

	"cadency/api"
	"cadency/exec"
	"cadency/script"
)

// behind is an end that is behind all.
const behind = math.MaxInt64

// The model: what the chapter's words say, tick by tick, each time by looking at all jobs.

// none is who runs where no job does.
const none = -1

// within asks: has j, which has worked so long, begun one of its sections, and not worked all of it?
func within(j api.Job, worked int64) bool {
	begin := int64(0)
	for _, cut := range j.Cuts {
		if begin < worked && worked < begin+cut {
			return true
		}
		begin += cut
	}
	return false
}

// runsAt is the job that runs at tick t, if each has worked so long, and ahead ran at the tick ahead.
func runsAt(l []api.Task, jobs []api.Job, worked []int64, ahead int, t int64) int {
	if ahead != none && within(jobs[ahead], worked[ahead]) {
		return ahead
	}
	runs := none
	for i, j := range jobs {
		if j.Release > t || worked[i] == j.Work {
			continue
		}
		if runs == none || l[j.Task].P < l[jobs[runs].Task].P {
			runs = i
		}
	}
	return runs
}

// ticksOf is who runs at each tick, until all have ended.
func ticksOf(l []api.Task, jobs []api.Job) []int {
	var row []int
	left := int64(0)
	for _, j := range jobs {
		left += j.Work
	}
	worked := make([]int64, len(jobs))
	ahead := none
	for left > 0 {
		ahead = runsAt(l, jobs, worked, ahead, int64(len(row)))
		if ahead != none {
			worked[ahead]++
			left--
		}
		row = append(row, ahead)
	}
	return row
}

// told is what a row of ticks of these jobs tells, if nothing is looked at from tick end on.
func told(jobs []api.Job, row []int, end int64) ([]api.Span, []int64) {
	var spans []api.Span
	ends := make([]int64, len(jobs))
	worked := make([]int64, len(jobs))
	for i := range ends {
		ends[i] = -1
	}
	for t, i := range row[:max(0, min(end, int64(len(row))))] {
		if i == none {
			continue
		}
		if t == 0 || row[t-1] != i {
			spans = append(spans, api.Span{Job: i, From: int64(t)})
		}
		spans[len(spans)-1].To = int64(t) + 1
		worked[i]++
		if worked[i] == jobs[i].Work {
			ends[i] = int64(t) + 1
		}
	}
	return spans, ends
}

// Calls, and what they should tell.

func shown(x ...any) string {
	s := fmt.Sprintf("%+v", x)
	if len(s) > 3000 {
		return s[:3000] + " .."
	}
	return s
}

// wantTold holds what a call told against what it should tell.
func wantTold(t *testing.T, what string, l []api.Task, jobs []api.Job, spans []api.Span, ends []int64, wantSpans []api.Span, wantEnds []int64) {
	t.Helper()
	if !slices.Equal(spans, wantSpans) || !slices.Equal(ends, wantEnds) {
		t.Fatalf("%s of %s: %s, want %s", what, shown(l, jobs), shown(spans, ends), shown(wantSpans, wantEnds))
	}
}

func wantUntil(t *testing.T, l []api.Task, jobs []api.Job, end int64, wantSpans []api.Span, wantEnds []int64) {
	t.Helper()
	spans, ends := exec.Until(l, jobs, end)
	wantTold(t, fmt.Sprint("Until ", end), l, jobs, spans, ends, wantSpans, wantEnds)
}

// wantRun asks Run, and Until with an end behind all.
func wantRun(t *testing.T, l []api.Task, jobs []api.Job, wantSpans []api.Span, wantEnds []int64) {
	t.Helper()
	if !script.Legal(l, jobs) {
		t.Fatalf("%s: the jobs are not legal", shown(l, jobs))
	}
	spans, ends := exec.Run(l, jobs)
	wantTold(t, "Run", l, jobs, spans, ends, wantSpans, wantEnds)
	wantUntil(t, l, jobs, behind, wantSpans, wantEnds)
}

// wantModel holds Run against the model, and Until with all ends from -1 to 2 behind all.
func wantModel(t *testing.T, l []api.Task, jobs []api.Job) {
	t.Helper()
	row := ticksOf(l, jobs)
	spans, ends := told(jobs, row, behind)
	wantRun(t, l, jobs, spans, ends)
	for end := int64(-1); end <= int64(len(row))+2; end++ {
		spans, ends = told(jobs, row, end)
		wantUntil(t, l, jobs, end, spans, ends)
	}
}

// wantNothing asks Run, and Until with several ends.
func wantNothing(t *testing.T, l []api.Task, jobs []api.Job) {
	t.Helper()
	spans, ends := exec.Run(l, jobs)
	if len(spans) > 0 || len(ends) > 0 {
		t.Errorf("Run: %v %v, want nothing", spans, ends)
	}
	for _, end := range []int64{math.MinInt64, -1, 0, 1, 2, 100, api.MaxClock, behind} {
		spans, ends = exec.Until(l, jobs, end)
		if len(spans) > 0 || len(ends) > 0 {
			t.Errorf("Until %d: %v %v, want nothing", end, spans, ends)
		}
	}
}

// spansOf are the spans of rows of three: job, from, to.
func spansOf(rows ...[3]int64) []api.Span {
	var l []api.Span
	for _, r := range rows {
		l = append(l, api.Span{Job: int(r[0]), From: r[1], To: r[2]})
	}
	return l
}

// Sets, and jobs of them.

// pair is a set of two tasks: place 0 is the less urgent one.
func pair() []api.Task {
	return []api.Task{
		{Name: "low", C: 9, T: 40, D: 40, J: 5, Q: 5, P: 7},
		{Name: "top", C: 4, T: 9, D: 9, J: 5, Q: 3, P: 2},
	}
}

// three are tasks whose urgencies go another way than their places.
func three() []api.Task {
	return []api.Task{
		{Name: "mid", C: 4, T: 12, D: 12, J: 3, Q: 3, P: 20},
		{Name: "low", C: 6, T: 15, D: 14, J: 4, Q: 6, P: 300},
		{Name: "top", C: 2, T: 5, D: 4, J: 1, Q: 1, P: 1},
	}
}

// crowd is a set whose jobs come so closely that they wait for each other.
func crowd() []api.Task {
	return []api.Task{
		{Name: "a", C: 3, T: 4, D: 4, J: 1, Q: 2, P: 2},
		{Name: "b", C: 2, T: 2, D: 2, Q: 2, P: 1},
		{Name: "c", C: 3, T: 5, D: 5, J: 2, Q: 3, P: 3},
	}
}

// wide is a set of two tasks that may have all times.
func wide() []api.Task {
	return []api.Task{
		{Name: "low", C: api.MaxTime, T: api.MaxTime, D: api.MaxTime, Q: api.MaxTime, P: api.MaxPrio},
		{Name: "top", C: 1, T: api.MaxTime, D: api.MaxTime, J: api.MaxTime - 1, Q: 1, P: 1},
	}
}

// job is one of that task that is released as it arrives.
func job(task int, at, work int64, cuts ...int64) api.Job {
	return api.Job{Task: task, Arrive: at, Release: at, Work: work, Cuts: cuts}
}

// late is that job, released later.
func late(by int64, j api.Job) api.Job {
	j.Release += by
	return j
}

// copyJobs shares nothing with what it copies.
func copyJobs(jobs []api.Job) []api.Job {
	l := slices.Clone(jobs)
	for i := range l {
		l[i].Cuts = slices.Clone(l[i].Cuts)
	}
	return l
}

// drawnSet is a set of small times that may be.
func drawnSet(draw *rand.Rand) []api.Task {
	urgent := draw.Perm(30)
	var l []api.Task
	for i := range 1 + draw.Intn(5) {
		t := api.Task{Name: string(rune('a' + i)), C: 1 + draw.Int63n(6), J: draw.Int63n(4), P: 1 + urgent[i]}
		t.Q = 1 + draw.Int63n(t.C)
		t.D = t.C + t.J + draw.Int63n(4)
		t.T = t.D + draw.Int63n(1+draw.Int63n(18))
		l = append(l, t)
	}
	return l
}

// drawnJobs are n legal jobs of l.
func drawnJobs(draw *rand.Rand, l []api.Task, n int) []api.Job {
	late := 1 + draw.Intn(12)
	raw := make([]api.Raw, n)
	for i := range raw {
		raw[i] = api.Raw{Task: draw.Int(), Late: draw.Int(), Work: draw.Int()}
		if draw.Intn(2) == 0 {
			raw[i].Gap = draw.Intn(late)
		}
		for range draw.Intn(5) {
			raw[i].Cuts = append(raw[i].Cuts, draw.Int())
		}
	}
	return script.Decode(l, raw)
}

// whole puts all work into sections.
func whole(l []api.Task, jobs []api.Job) []api.Job {
	jobs = copyJobs(jobs)
	for i := range jobs {
		j := &jobs[i]
		left := j.Work
		for _, cut := range j.Cuts {
			left -= cut
		}
		for left > 0 {
			cut := min(left, l[j.Task].Q)
			j.Cuts = append(j.Cuts, cut)
			left -= cut
		}
	}
	return jobs
}

// P10.1: run.

func TestRunOfTheExample(t *testing.T) {
	l := []api.Task{{Name: "top", C: 1, T: 9, D: 9, Q: 1, P: 1}, {Name: "low", C: 3, T: 9, D: 9, Q: 2, P: 2}}
	jobs := []api.Job{job(0, 1, 1), job(1, 0, 3, 2)} // by the places of their tasks
	wantRun(t, l, jobs, spansOf([3]int64{1, 0, 2}, [3]int64{0, 2, 3}, [3]int64{1, 3, 4}), []int64{3, 4})
	wantModel(t, l, jobs)
	slices.Reverse(jobs) // as the example names them: spans tell places of jobs
	wantRun(t, l, jobs, spansOf([3]int64{0, 0, 2}, [3]int64{1, 2, 3}, [3]int64{0, 3, 4}), []int64{4, 3})
	wantModel(t, l, jobs)
}

func TestNoJobs(t *testing.T) {
	for _, l := range [][]api.Task{pair(), three(), pair()[:1]} {
		for _, jobs := range [][]api.Job{nil, {}} {
			wantModel(t, l, jobs)
			wantNothing(t, l, jobs)
		}
	}
}

func TestOneJob(t *testing.T) {
	for _, l := range [][]api.Task{pair(), pair()[:1]} {
		for _, cuts := range [][]int64{nil, {}, {5}, {1}, {5, 3}, {5, 4}, {1, 1, 1, 1, 1, 1, 1, 1, 1}} {
			jobs := []api.Job{job(0, 0, 9, cuts...)}
			wantRun(t, l, jobs, spansOf([3]int64{0, 0, 9}), []int64{9})
			wantModel(t, l, jobs)

			jobs = []api.Job{late(5, job(0, 4, 9, cuts...))}
			wantRun(t, l, jobs, spansOf([3]int64{0, 9, 18}), []int64{18})
			wantModel(t, l, jobs)
		}
	}
	jobs := []api.Job{job(1, 3, 1)}
	wantRun(t, pair(), jobs, spansOf([3]int64{0, 3, 4}), []int64{4})
}

// TestMoreUrgent lets a more urgent job come at each tick of one that has sections, and work behind them.
func TestMoreUrgent(t *testing.T) {
	const whole = 9
	for name, c := range map[string]struct {
		cuts  []int64
		waits [whole]int64 // how long the more urgent one waits, if it comes at that tick
	}{
		"no sections":           {nil, [whole]int64{}},
		"one, and work behind":  {[]int64{4}, [whole]int64{0, 3, 2, 1, 0, 0, 0, 0, 0}},
		"two, and work behind":  {[]int64{2, 3}, [whole]int64{0, 1, 0, 2, 1, 0, 0, 0, 0}},
		"of 1, and work behind": {[]int64{1, 1, 3}, [whole]int64{0, 0, 0, 2, 1, 0, 0, 0, 0}},
		"all work":              {[]int64{5, 4}, [whole]int64{0, 4, 3, 2, 1, 0, 3, 2, 1}},
		"all work, last of 1":   {[]int64{5, 3, 1}, [whole]int64{0, 4, 3, 2, 1, 0, 2, 1, 0}},
		"all of 1":              {[]int64{1, 1, 1, 1, 1, 1, 1, 1, 1}, [whole]int64{}},
	} {
		for at, waits := range c.waits {
			from := int64(10 + at)
			jobs := []api.Job{job(0, 10, whole, c.cuts...), job(1, from, 3)}
			turn := from + waits
			wantModel(t, pair(), jobs)
			spans, ends := exec.Run(pair(), jobs)
			if ends[1] != turn+3 {
				t.Errorf("%s, at %d: the more urgent one ends at %d, want %d", name, at, ends[1], turn+3)
			}
			want := []api.Span{{Job: 0, From: 10, To: turn}, {Job: 1, From: turn, To: turn + 3}, {Job: 0, From: turn + 3, To: 10 + whole + 3}}
			want = slices.DeleteFunc(want, func(s api.Span) bool { return s.From == s.To })
			if !slices.Equal(spans, want) {
				t.Errorf("%s, at %d: %v, want %v", name, at, spans, want)
			}
		}
	}
}

// TestMoreUrgentAheadOfASection: one comes before the less urgent one, and ends as, before and behind it comes.
func TestMoreUrgentAheadOfASection(t *testing.T) {
	for at := range int64(8) {
		jobs := []api.Job{job(0, at, 6, 3), job(1, 2, 3)}
		wantModel(t, pair(), jobs)
	}
	jobs := []api.Job{job(0, 3, 6, 3), job(1, 2, 3)}
	wantRun(t, pair(), jobs, spansOf([3]int64{1, 2, 5}, [3]int64{0, 5, 11}), []int64{11, 5})
}

func TestLessUrgentWaits(t *testing.T) {
	for at := range int64(8) {
		jobs := []api.Job{job(1, 2, 4), job(0, at, 3)}
		wantModel(t, pair(), jobs)
	}
	jobs := []api.Job{job(1, 2, 4), job(0, 3, 3)} // in work behind all sections, which it can't stop
	wantRun(t, pair(), jobs, spansOf([3]int64{0, 2, 6}, [3]int64{1, 6, 9}), []int64{6, 9})
}

// TestASectionIsNotThatOfAnotherJob: while one of three runs within a section both others come, and the most urgent one goes first.
func TestASectionIsNotThatOfAnotherJob(t *testing.T) {
	jobs := []api.Job{job(1, 0, 6, 6), job(0, 1, 4, 3), job(2, 3, 2), job(2, 8, 2)}
	wantRun(t, three(), jobs, spansOf(
		[3]int64{0, 0, 6},
		[3]int64{2, 6, 8},
		[3]int64{3, 8, 10},
		[3]int64{1, 10, 14},
	), []int64{6, 14, 8, 10})
	wantModel(t, three(), jobs)

	jobs = []api.Job{job(1, 0, 6, 2, 4), job(0, 1, 4, 3), job(2, 3, 1)}
	wantRun(t, three(), jobs, spansOf(
		[3]int64{0, 0, 2},
		[3]int64{1, 2, 5}, // to the end of its section
		[3]int64{2, 5, 6},
		[3]int64{1, 6, 7},
		[3]int64{0, 7, 11},
	), []int64{11, 7, 6})
	wantModel(t, three(), jobs)
}

func TestJobsOfATaskWait(t *testing.T) {
	l := crowd()
	jobs := []api.Job{job(0, 0, 3), job(1, 0, 2), job(1, 2, 2), job(0, 4, 3, 1), job(1, 4, 2), job(0, 8, 2)}
	wantRun(t, l, jobs, spansOf(
		[3]int64{1, 0, 2},
		[3]int64{2, 2, 4},
		[3]int64{4, 4, 6},
		[3]int64{0, 6, 9},
		[3]int64{3, 9, 12},
		[3]int64{5, 12, 14},
	), []int64{9, 2, 4, 12, 6, 14})
	wantModel(t, l, jobs)
}

// closest is a task whose jobs may be released at ticks that stand side by side: the one as late as it may be, the next one as it arrives.
func closest() []api.Task {
	return []api.Task{
		{Name: "a", C: 3, T: 7, D: 7, J: 4, Q: 3, P: 5},
		{Name: "b", C: 6, T: 40, D: 40, Q: 6, P: 9},
		{Name: "c", C: 1, T: 5, D: 5, J: 4, Q: 1, P: 1},
	}
}

// TestReleasesOfATaskRise: of a task the one ahead by places is released first, however late it is, goes on when the next one is released, within a section and not, and ends first. What would be the other way round is not legal.
func TestReleasesOfATaskRise(t *testing.T) {
	for _, cuts := range [][]int64{nil, {1}, {2}, {3}, {1, 2}, {1, 1, 1}} {
		for by := range int64(5) {
			jobs := []api.Job{late(by, job(0, 0, 3, cuts...)), job(0, 7, 3, cuts...), late(4, job(2, 0, 1)), job(2, 5, 1), job(1, 0, 6, 4)}
			wantModel(t, closest(), jobs)
			if _, ends := exec.Run(closest(), jobs); ends[0] >= ends[1] || ends[2] >= ends[3] {
				t.Errorf("cuts %v, %d late: ends %v", cuts, by, ends)
			}
		}
		for by := int64(5); by < 10; by++ {
			wantNothing(t, closest(), []api.Job{late(by, job(0, 0, 3, cuts...)), job(0, 7, 3, cuts...)})
		}
		wantNothing(t, closest(), []api.Job{job(0, 7, 3, cuts...), job(0, 0, 3, cuts...)})
	}
	side := []api.Job{late(4, job(2, 0, 1)), job(2, 5, 1)}
	wantRun(t, closest(), side, spansOf([3]int64{0, 4, 5}, [3]int64{1, 5, 6}), []int64{5, 6})

	// A job that has begun goes on as the next one of its task comes, also if others ran between.
	jobs := []api.Job{late(4, job(0, 0, 3, 1)), job(2, 5, 1), job(0, 7, 2)}
	wantRun(t, closest(), jobs, spansOf([3]int64{0, 4, 5}, [3]int64{1, 5, 6}, [3]int64{0, 6, 8}, [3]int64{2, 8, 10}), []int64{8, 6, 10})
}

func TestReleasesAlike(t *testing.T) {
	l := three()
	jobs := []api.Job{job(0, 4, 4, 2), job(1, 4, 6, 1), job(2, 4, 2)}
	wantRun(t, l, jobs, spansOf([3]int64{2, 4, 6}, [3]int64{0, 6, 10}, [3]int64{1, 10, 16}), []int64{10, 16, 6})
	for _, order := range [][3]int{{0, 1, 2}, {0, 2, 1}, {1, 0, 2}, {1, 2, 0}, {2, 0, 1}, {2, 1, 0}} {
		var mixed []api.Job
		for _, i := range order {
			mixed = append(mixed, jobs[i])
		}
		wantModel(t, l, mixed)
	}
	// Alike by their releases, not by when they arrive.
	jobs = []api.Job{late(3, job(0, 1, 4)), late(2, job(1, 2, 6)), late(1, job(2, 3, 2))}
	wantRun(t, l, jobs, spansOf([3]int64{2, 4, 6}, [3]int64{0, 6, 10}, [3]int64{1, 10, 16}), []int64{10, 16, 6})
}

func TestTicksWithoutAJob(t *testing.T) {
	jobs := []api.Job{job(1, 3, 2), job(0, 40, 9, 5), late(1, job(1, 20, 4))}
	wantRun(t, pair(), jobs, spansOf([3]int64{0, 3, 5}, [3]int64{2, 21, 25}, [3]int64{1, 40, 49}), []int64{5, 49, 25})
	wantModel(t, pair(), jobs)
	// One tick without a job parts spans; none does not.
	for gap := range int64(3) {
		jobs = []api.Job{job(1, 0, 3), job(0, 3+gap, 2), job(1, 9, 1)}
		wantModel(t, pair(), jobs)
	}
	// One that is released later than it arrives is waited for.
	jobs = []api.Job{late(5, job(0, 0, 1))}
	wantRun(t, pair(), jobs, spansOf([3]int64{0, 5, 6}), []int64{6})
}

func TestOneSpanBehindTheEndOfASection(t *testing.T) {
	for _, cuts := range [][]int64{{1}, {3}, {3, 3}, {5, 4}, {1, 1, 1}} {
		jobs := []api.Job{job(0, 2, 9, cuts...)}
		wantRun(t, pair(), jobs, spansOf([3]int64{0, 2, 11}), []int64{11})
		// Also where somebody less urgent is released at the end of a section, or behind it.
		for at := int64(2); at < 13; at++ {
			jobs := []api.Job{job(2, 5, 2, 1), job(1, at, 6, 2)}
			wantModel(t, three(), jobs)
			if spans, _ := exec.Run(three(), jobs); at > 5 && spans[0] != (api.Span{Job: 0, From: 5, To: 7}) {
				t.Errorf("less urgent at %d: %v", at, spans)
			}
		}
	}
}

func TestTwoJobsSideBySideAreTwoSpans(t *testing.T) {
	jobs := []api.Job{job(1, 0, 2), job(1, 2, 2), job(1, 4, 2), job(1, 6, 1)} // of one task
	wantRun(t, crowd(), jobs, spansOf([3]int64{0, 0, 2}, [3]int64{1, 2, 4}, [3]int64{2, 4, 6}, [3]int64{3, 6, 7}), []int64{2, 4, 6, 7})
	wantModel(t, crowd(), jobs)
	wantRun(t, crowd()[1:2], []api.Job{job(0, 0, 2, 2), job(0, 2, 2, 1)}, spansOf([3]int64{0, 0, 2}, [3]int64{1, 2, 4}), []int64{2, 4})

	jobs = []api.Job{job(0, 0, 3), job(2, 3, 2)} // of two
	wantRun(t, three(), jobs, spansOf([3]int64{0, 0, 3}, [3]int64{1, 3, 5}), []int64{3, 5})
}

// TestEndsByPlaces: jobs stand in an order that is neither that of their releases nor that of their ends.
func TestEndsByPlaces(t *testing.T) {
	jobs := []api.Job{job(1, 30, 6), job(2, 10, 2), job(0, 20, 4), job(2, 15, 1), job(0, 32, 1)}
	wantRun(t, three(), jobs, spansOf(
		[3]int64{1, 10, 12},
		[3]int64{3, 15, 16},
		[3]int64{2, 20, 24},
		[3]int64{0, 30, 32},
		[3]int64{4, 32, 33},
		[3]int64{0, 33, 37},
	), []int64{37, 12, 24, 16, 33})
	wantModel(t, three(), jobs)
}

// TestLatestAndLongest would not end, if ticks that are alike were not left out.
func TestLatestAndLongest(t *testing.T) {
	const clock, long = int64(api.MaxClock), int64(api.MaxTime)
	for _, cuts := range [][]int64{nil, {long}, {1}, {long - 1, 1}, {1, long - 1}, {5, 7}} {
		jobs := []api.Job{job(0, clock, long, cuts...)}
		wantRun(t, wide(), jobs, spansOf([3]int64{0, clock, clock + long}), []int64{clock + long})
		wantRun(t, wide()[:1], jobs, spansOf([3]int64{0, clock, clock + long}), []int64{clock + long})
		for _, end := range []int64{-1, 0, 1, clock - 1, clock} {
			wantUntil(t, wide(), jobs, end, nil, []int64{-1})
		}
		for _, n := range []int64{1, 2, long / 2, long - 1} {
			wantUntil(t, wide(), jobs, clock+n, spansOf([3]int64{0, clock, clock + n}), []int64{-1})
		}
		wantUntil(t, wide(), jobs, clock+long, spansOf([3]int64{0, clock, clock + long}), []int64{clock + long})
	}

	latest := clock + long - 1
	jobs := []api.Job{late(long-1, job(1, clock, 1)), job(0, clock, long, 2)}
	wantRun(t, wide(), jobs, spansOf([3]int64{1, clock, latest}, [3]int64{0, latest, latest + 1}, [3]int64{1, latest + 1, clock + long + 1}), []int64{latest + 1, clock + long + 1})
	jobs[1].Cuts = []int64{2, long - 2}
	wantRun(t, wide(), jobs, spansOf([3]int64{1, clock, clock + long}, [3]int64{0, clock + long, clock + long + 1}), []int64{clock + long + 1, clock + long})

	jobs = []api.Job{job(0, 0, long), job(0, long, long), job(0, clock, 1), job(1, 7, 1)}
	wantRun(t, wide(), jobs, spansOf([3]int64{0, 0, 7}, [3]int64{3, 7, 8}, [3]int64{0, 8, long + 1}, [3]int64{1, long + 1, 2*long + 1}, [3]int64{2, clock, clock + 1}), []int64{long + 1, 2*long + 1, clock + 1, 8})
}

// TestManyLongJobs has as many as may be, each of which works as long as may be.
func TestManyLongJobs(t *testing.T) {
	const long = int64(api.MaxTime)
	l := wide()[:1]
	var jobs []api.Job
	var spans []api.Span
	var ends []int64
	for i := range int64(api.MaxJobs) {
		jobs = append(jobs, job(0, i*long, long))
		spans = append(spans, api.Span{Job: int(i), From: i * long, To: (i + 1) * long})
		ends = append(ends, (i+1)*long)
	}
	wantRun(t, l, jobs, spans, ends)
	wantUntil(t, l, jobs, 3*long-1, append(spansOf([3]int64{0, 0, long}, [3]int64{1, long, 2 * long}), api.Span{Job: 2, From: 2 * long, To: 3*long - 1}), append([]int64{long, 2 * long}, slices.Repeat([]int64{-1}, api.MaxJobs-2)...))
}

// many is a set of n tasks: the later by places, the more urgent.
func many(n int) []api.Task {
	var l []api.Task
	for i := range n {
		l = append(l, api.Task{Name: fmt.Sprint("t", i), C: 4, T: 1 << 20, D: 1 << 20, J: 100, Q: 3, P: api.MaxPrio - i})
	}
	return l
}

// TestManyThatWait: as many tasks as may be have one job, or more, at once.
func TestManyThatWait(t *testing.T) {
	l := many(api.MaxTasks)
	for _, n := range []int{api.MaxTasks, api.MaxJobs} {
		var jobs []api.Job
		for i := range n {
			jobs = append(jobs, job(i%api.MaxTasks, int64(i/api.MaxTasks)<<20, 4, 2))
		}
		spans, ends := exec.Run(l, jobs)
		wantRight(t, l, jobs, spans, ends)
		if len(spans) != n || spans[0].Job != api.MaxTasks-1 || spans[1023] != (api.Span{Job: 0, From: 4 * 1023, To: 4 * 1024}) {
			t.Errorf("%d jobs: %d spans, the first %v", n, len(spans), spans[0])
		}
	}
	// All wait for one section, but itself.
	jobs := []api.Job{job(0, 0, 4, 3)}
	for i := 1; i < api.MaxTasks; i++ {
		jobs = append(jobs, job(i, 1, 1))
	}
	spans, ends := exec.Run(l, jobs)
	wantRight(t, l, jobs, spans, ends)
	if spans[0] != (api.Span{Job: 0, From: 0, To: 3}) || ends[0] != 4+1023 || ends[1] != 3+1023 || ends[1023] != 4 {
		t.Errorf("spans from %v on, ends from %v on", spans[:2], ends[:2])
	}
}

// TestManySections has so many that looking at all of them again and again would not end.
func TestManySections(t *testing.T) {
	const n = 1 << 20
	l := wide()
	l[1].T, l[1].D, l[1].J = 1<<10, 1<<10, 0
	jobs := []api.Job{job(0, 0, 2*n, slices.Repeat([]int64{2}, n)...)}
	wantRun(t, l, jobs, spansOf([3]int64{0, 0, 2 * n}), []int64{2 * n})
	for i := range int64(1000) {
		jobs = append(jobs, job(1, i*1025, 1)) // in turns at the first tick of a section, and within one
	}
	spans, ends := exec.Run(l, jobs)
	wantRight(t, l, jobs, spans, ends)
}

// P10.2: until.

func TestUntil(t *testing.T) {
	jobs := []api.Job{job(0, 2, 6, 3), job(1, 4, 2), job(1, 20, 1)}
	all := spansOf([3]int64{0, 2, 5}, [3]int64{1, 5, 7}, [3]int64{0, 7, 10}, [3]int64{2, 20, 21})
	wantRun(t, pair(), jobs, all, []int64{10, 7, 21})
	cut := func(n int, to int64) []api.Span {
		l := slices.Clone(all[:n])
		l[n-1].To = to
		return l
	}
	for _, c := range []struct {
		end   int64
		spans []api.Span
		ends  []int64
	}{
		{math.MinInt64, nil, []int64{-1, -1, -1}},
		{math.MinInt64 + 1, nil, []int64{-1, -1, -1}},
		{-5, nil, []int64{-1, -1, -1}},
		{-1, nil, []int64{-1, -1, -1}},
		{0, nil, []int64{-1, -1, -1}},
		{1, nil, []int64{-1, -1, -1}},
		{2, nil, []int64{-1, -1, -1}},            // at the first tick of a span
		{3, cut(1, 3), []int64{-1, -1, -1}},      // behind it, within a section
		{4, cut(1, 4), []int64{-1, -1, -1}},      // at the last one
		{5, cut(1, 5), []int64{-1, -1, -1}},      // just behind it
		{6, cut(2, 6), []int64{-1, -1, -1}},      // at the last tick at which one works
		{7, cut(2, 7), []int64{-1, 7, -1}},       // as one ends
		{8, cut(3, 8), []int64{-1, 7, -1}},       // behind all sections
		{9, cut(3, 9), []int64{-1, 7, -1}},       //
		{10, cut(3, 10), []int64{10, 7, -1}},     //
		{11, cut(3, 10), []int64{10, 7, -1}},     // where nothing runs
		{20, cut(3, 10), []int64{10, 7, -1}},     //
		{21, all, []int64{10, 7, 21}},            // as all end
		{22, all, []int64{10, 7, 21}},            // behind all
		{1 << 50, all, []int64{10, 7, 21}},       //
		{behind - 1, all, []int64{10, 7, 21}},    //
		{math.MaxInt64, all, []int64{10, 7, 21}}, //
	} {
		wantUntil(t, pair(), jobs, c.end, c.spans, c.ends)
	}
}

// TestUntilOneEndsAtOnce: an end of 1 is behind a job of 1 at 0.
func TestUntilOneEndsAtOnce(t *testing.T) {
	jobs := []api.Job{job(0, 0, 1, 1), job(1, 0, 1)}
	wantUntil(t, pair(), jobs, 0, nil, []int64{-1, -1})
	wantUntil(t, pair(), jobs, 1, spansOf([3]int64{1, 0, 1}), []int64{-1, 1})
	wantUntil(t, pair(), jobs, 2, spansOf([3]int64{1, 0, 1}, [3]int64{0, 1, 2}), []int64{2, 1})
	wantUntil(t, pair(), nil, 5, nil, nil)
	wantUntil(t, pair(), nil, -5, nil, nil)
}

// TestUntilHangsOnNothingBehind: jobs that come at the end, or behind it, change nothing but that they have an end, which is -1.
func TestUntilHangsOnNothingBehind(t *testing.T) {
	draw := rand.New(rand.NewSource(102))
	for range 300 {
		l := drawnSet(draw)
		jobs := drawnJobs(draw, l, 1+draw.Intn(12))
		end := int64(draw.Intn(40))
		spans, ends := exec.Until(l, jobs, end)
		first := slices.IndexFunc(jobs, func(j api.Job) bool { return j.Release >= end })
		if first < 0 {
			continue
		}
		ahead := slices.Clone(jobs)
		for i := len(jobs) - 1; i >= 0; i-- {
			if jobs[i].Release >= end {
				if ends[i] != -1 {
					t.Fatalf("Until %d of %s: ends %v", end, shown(l, jobs), ends)
				}
				ahead, ends = slices.Delete(ahead, i, i+1), slices.Delete(ends, i, i+1)
				for k := range spans {
					if spans[k].Job > i {
						spans[k].Job--
					}
				}
			}
		}
		wantUntil(t, l, ahead, end, spans, ends)
	}
}

// Both, of all kinds of jobs, held against the model.

// allRaws are all raw jobs of small numbers, of so many tasks.
func allRaws(tasks, gaps, lates, works int, cuts ...[]int) []api.Raw {
	var l []api.Raw
	for task := range tasks {
		for gap := range gaps {
			for late := range lates {
				for work := range works {
					for _, c := range cuts {
						l = append(l, api.Raw{Task: task, Gap: gap, Late: late, Work: work, Cuts: c})
					}
				}
			}
		}
	}
	return l
}

func TestAllPairsOfSmallJobs(t *testing.T) {
	l := []api.Task{
		{Name: "a", C: 3, T: 4, D: 4, J: 1, Q: 2, P: 2},
		{Name: "b", C: 2, T: 4, D: 4, J: 1, Q: 2, P: 1},
	}
	raws := allRaws(2, 3, 2, 3, nil, []int{0}, []int{1}, []int{0, 1})
	for _, a := range raws {
		for _, b := range raws {
			wantModel(t, l, script.Decode(l, []api.Raw{a, b}))
		}
	}
}

func TestAllThreesOfSmallJobs(t *testing.T) {
	l := crowd()
	raws := allRaws(3, 2, 1, 3, nil, []int{1})
	for _, a := range raws {
		for _, b := range raws {
			for _, c := range raws {
				jobs := script.Decode(l, []api.Raw{a, b, c})
				spans, ends := told(jobs, ticksOf(l, jobs), behind)
				wantRun(t, l, jobs, spans, ends)
			}
		}
	}
}

func TestDrawnJobs(t *testing.T) {
	draw := rand.New(rand.NewSource(101))
	for i := range 1500 {
		l := drawnSet(draw)
		jobs := drawnJobs(draw, l, 1+draw.Intn(1+i%20))
		wantModel(t, l, jobs)
		spans, ends := exec.Run(l, jobs)
		wantRight(t, l, jobs, spans, ends)
	}
}

// TestDrawnManyJobs has as many as may be.
func TestDrawnManyJobs(t *testing.T) {
	draw := rand.New(rand.NewSource(103))
	for range 6 {
		l := drawnSet(draw)
		jobs := drawnJobs(draw, l, api.MaxJobs)
		row := ticksOf(l, jobs)
		spans, ends := told(jobs, row, behind)
		wantRun(t, l, jobs, spans, ends)
		for range 5 {
			end := draw.Int63n(int64(len(row)) + 2)
			spans, ends := told(jobs, row, end)
			wantUntil(t, l, jobs, end, spans, ends)
		}
	}
}

// P10.3: what follows.

// wantRight asks, of what Run told, all that makes one run of many: it looks at spans, so that times may be great.
func wantRight(t *testing.T, l []api.Task, jobs []api.Job, spans []api.Span, ends []int64) {
	t.Helper()
	for _, so := range []func([]api.Task, []api.Job, []api.Span, []int64) string{workIsDone, somethingRuns, sectionsAreWhole, waitsForOneSection} {
		if wrong := so(l, jobs, spans, ends); wrong != "" {
			t.Fatal(wrong)
		}
	}
}

// workIsDone: spans are in order, as long as can be, and each job works all of its work, from its release on, to its end.
func workIsDone(_ []api.Task, jobs []api.Job, spans []api.Span, ends []int64) string {
	worked, last := make([]int64, len(jobs)), make([]int64, len(jobs))
	for i, s := range spans {
		if s.From >= s.To || s.From < jobs[s.Job].Release {
			return fmt.Sprintf("span %v of %+v", s, jobs[s.Job])
		}
		if i > 0 && (s.From < spans[i-1].To || s.From == spans[i-1].To && s.Job == spans[i-1].Job) {
			return fmt.Sprintf("span %v behind %v", s, spans[i-1])
		}
		worked[s.Job] += s.To - s.From
		last[s.Job] = s.To
	}
	for i, j := range jobs {
		if worked[i] != j.Work || last[i] != ends[i] {
			return fmt.Sprintf("job %d, %+v, works %d, last to %d, and ends at %d", i, j, worked[i], last[i], ends[i])
		}
	}
	return ""
}

// somethingRuns: where no span is, each job is not released yet, or has ended.
func somethingRuns(_ []api.Task, jobs []api.Job, spans []api.Span, ends []int64) string {
	from := int64(0)
	for _, s := range spans {
		for i, j := range jobs {
			if from < s.From && j.Release < s.From && ends[i] > from {
				return fmt.Sprintf("nothing runs from %d to %d, but job %d could", from, s.From, i)
			}
		}
		from = s.To
	}
	return ""
}

// sectionsAreWhole: where one job is left for another one, or none, it is not within a section.
func sectionsAreWhole(_ []api.Task, jobs []api.Job, spans []api.Span, _ []int64) string {
	ends := sectionEnds(jobs)
	worked := make([]int64, len(jobs))
	for _, s := range spans {
		worked[s.Job] += s.To - s.From
		if sectionLeft(ends[s.Job], worked[s.Job]) > 0 {
			return fmt.Sprintf("job %d is left at %d, within a section", s.Job, s.To)
		}
	}
	return ""
}

// waitsForOneSection: from its release to its end a job is kept waiting by less urgent ones only by one of them, from its release on, to the end of a section that was begun ahead of it; and by none of its own task that stands behind it.
func waitsForOneSection(l []api.Task, jobs []api.Job, spans []api.Span, ends []int64) string {
	cuts := sectionEnds(jobs)
	worked := make([]int64, len(jobs)) // ahead of the span
	for _, s := range spans {
		for i, j := range jobs {
			from, to := max(s.From, j.Release), min(s.To, ends[i])
			if from >= to || !mustWait(l, jobs, s.Job, i) {
				continue
			}
			may := sectionLeft(cuts[s.Job], worked[s.Job]+from-s.From)
			if from != j.Release || to-from > may {
				return fmt.Sprintf("job %d waits from %d to %d for job %d, which may go on for %d", i, from, to, s.Job, may)
			}
		}
		worked[s.Job] += s.To - s.From
	}
	return ""
}

// mustWait asks: is it that runs to let the other one go first, where both may run?
func mustWait(l []api.Task, jobs []api.Job, runs, other int) bool {
	a, b := jobs[runs].Task, jobs[other].Task
	return l[a].P > l[b].P || a == b && runs > other
}

// sectionEnds is, of each job, how much it has worked where each of its sections begins, and where the last one ends.
func sectionEnds(jobs []api.Job) [][]int64 {
	var l [][]int64
	for _, j := range jobs {
		ends := []int64{0}
		for _, cut := range j.Cuts {
			ends = append(ends, ends[len(ends)-1]+cut)
		}
		l = append(l, ends)
	}
	return l
}

// sectionLeft is how much is left of the section that has been begun by who has worked so long; 0, if none is.
func sectionLeft(ends []int64, worked int64) int64 {
	at, _ := slices.BinarySearch(ends, worked)
	if at == len(ends) {
		return 0
	}
	return ends[at] - worked
}

// TestNoLongerThanOneSection has three less urgent tasks, each within a section whenever it runs: the most urgent one waits for one of them at most.
func TestNoLongerThanOneSection(t *testing.T) {
	l := []api.Task{
		{Name: "a", C: 8, T: 30, D: 30, Q: 5, P: 2},
		{Name: "b", C: 8, T: 30, D: 30, Q: 4, P: 3},
		{Name: "c", C: 8, T: 30, D: 30, Q: 8, P: 4},
		{Name: "top", C: 1, T: 30, D: 30, Q: 1, P: 1},
	}
	worst := int64(0)
	for at := range int64(30) {
		jobs := []api.Job{job(0, 1, 8, 5, 3), job(1, 0, 8, 4, 4), job(2, 2, 8, 8), job(3, at, 1)}
		wantModel(t, l, jobs)
		spans, ends := exec.Run(l, jobs)
		wantRight(t, l, jobs, spans, ends)
		worst = max(worst, ends[3]-1-at)
	}
	if worst != 7 {
		t.Errorf("it waits for %d at most, want 7: a section of 8 that was begun one tick ahead", worst)
	}
}

// times are l, and jobs, with all times so many times as great.
func times(n int64, l []api.Task, jobs []api.Job) ([]api.Task, []api.Job) {
	l, jobs = slices.Clone(l), copyJobs(jobs)
	for i := range l {
		t := &l[i]
		t.C, t.T, t.D, t.J, t.Q = n*t.C, n*t.T, n*t.D, n*t.J, n*t.Q
	}
	for i := range jobs {
		j := &jobs[i]
		j.Arrive, j.Release, j.Work = n*j.Arrive, n*j.Release, n*j.Work
		for k := range j.Cuts {
			j.Cuts[k] *= n
		}
	}
	return l, jobs
}

// wantTimes: with all times n times as great all goes n times as slowly.
func wantTimes(t *testing.T, n int64, l []api.Task, jobs []api.Job) {
	t.Helper()
	spans, ends := told(jobs, ticksOf(l, jobs), behind)
	for i := range spans {
		spans[i].From *= n
		spans[i].To *= n
	}
	for i := range ends {
		ends[i] *= n
	}
	l, jobs = times(n, l, jobs)
	wantRun(t, l, jobs, spans, ends)
	wantRight(t, l, jobs, spans, ends)
	to := len(spans) / 2
	if to > 0 {
		end := spans[to-1].To
		for i := range ends {
			if ends[i] > end {
				ends[i] = -1
			}
		}
		wantUntil(t, l, jobs, end, spans[:to], ends)
	}
}

// TestAsManyTimesAsSlowly: where all work is done in sections; and, as all are released at whole times, also where some is done behind them.
func TestAsManyTimesAsSlowly(t *testing.T) {
	draw := rand.New(rand.NewSource(104))
	for range 300 {
		l := drawnSet(draw)
		jobs := drawnJobs(draw, l, 1+draw.Intn(15))
		for _, n := range []int64{2, 3, 10, 1<<16 + 1, 1 << 26} {
			wantTimes(t, n, l, whole(l, jobs))
			wantTimes(t, n, l, jobs)
		}
	}
	l := drawnSet(draw)
	wantTimes(t, 1<<26, l, whole(l, drawnJobs(draw, l, api.MaxJobs/4)))
}

// TestAsMuchLater: with all jobs so much later all goes as before, so much later.
func TestAsMuchLater(t *testing.T) {
	draw := rand.New(rand.NewSource(105))
	for range 300 {
		l := drawnSet(draw)
		jobs := drawnJobs(draw, l, 1+draw.Intn(15))
		spans, ends := told(jobs, ticksOf(l, jobs), behind)
		for _, by := range []int64{1, 1 << 32, api.MaxClock - 1000} {
			later, laterSpans, laterEnds := copyJobs(jobs), slices.Clone(spans), slices.Clone(ends)
			for i := range jobs {
				later[i].Arrive += by
				later[i].Release += by
				laterEnds[i] += by
			}
			for i := range spans {
				laterSpans[i].From += by
				laterSpans[i].To += by
			}
			wantRun(t, l, later, laterSpans, laterEnds)
		}
	}
}

// TestDrawnGreatTimes draws times of all sizes, which the model could not go over.
func TestDrawnGreatTimes(t *testing.T) {
	draw := rand.New(rand.NewSource(106))
	great := func() int { return draw.Int() >> draw.Intn(63) }
	for i := range 400 {
		var l []api.Task
		for k := range 1 + draw.Intn(8) {
			c := 1 + draw.Int63n(1<<(1+draw.Intn(30)))
			l = append(l, api.Task{Name: fmt.Sprint("t", k), C: c, T: 1 << 30, D: 1 << 30, J: draw.Int63n(1<<30 - c + 1), Q: 1 + draw.Int63n(c), P: 1 + (k*5+i)%8})
		}
		var raw []api.Raw
		for range draw.Intn(60) {
			r := api.Raw{Task: great(), Gap: great(), Late: great(), Work: great()}
			for range draw.Intn(6) {
				r.Cuts = append(r.Cuts, great())
			}
			raw = append(raw, r)
		}
		jobs := script.Decode(l, raw)
		spans, ends := exec.Run(l, jobs)
		wantRight(t, l, jobs, spans, ends)
		wantUntil(t, l, jobs, behind, spans, ends)
		wantCutOff(t, l, jobs, spans, ends, great)
	}
}

// wantCutOff: to each end Until tells what Run told.
func wantCutOff(t *testing.T, l []api.Task, jobs []api.Job, spans []api.Span, ends []int64, drawn func() int) {
	t.Helper()
	cuts := []int64{int64(drawn()), int64(drawn())}
	for _, s := range spans {
		cuts = append(cuts, s.From, s.From+1, (s.From+s.To)/2, s.To-1, s.To)
	}
	for _, end := range cuts {
		var wantSpans []api.Span
		for _, s := range spans {
			if s.From < end {
				wantSpans = append(wantSpans, api.Span{Job: s.Job, From: s.From, To: min(s.To, end)})
			}
		}
		wantEnds := slices.Clone(ends)
		for i, e := range ends {
			if e > end {
				wantEnds[i] = -1
			}
		}
		wantUntil(t, l, jobs, end, wantSpans, wantEnds)
	}
}

// Wrong inputs.

func TestSetsThatMayNotBe(t *testing.T) {
	jobs := []api.Job{job(0, 0, 1), job(1, 0, 1)}
	wantNothing(t, nil, nil)
	wantNothing(t, nil, jobs)
	wantNothing(t, []api.Task{}, jobs)
	wantNothing(t, many(api.MaxTasks+1), jobs)
	for name, change := range map[string]func(x *api.Task){
		"name":        func(x *api.Task) { x.Name = "9" },
		"same name":   func(x *api.Task) { x.Name = "low" },
		"C":           func(x *api.Task) { x.C = 0 },
		"T":           func(x *api.Task) { x.T = api.MaxTime + 1 },
		"D below C":   func(x *api.Task) { x.D = 3 },
		"D above T":   func(x *api.Task) { x.D = 10 },
		"J":           func(x *api.Task) { x.J = -1 },
		"J too great": func(x *api.Task) { x.J = 6 },
		"Q":           func(x *api.Task) { x.Q = 0 },
		"Q above C":   func(x *api.Task) { x.Q = 5 },
		"P":           func(x *api.Task) { x.P = 0 },
		"same P":      func(x *api.Task) { x.P = 7 },
	} {
		l := pair()
		change(&l[1])
		t.Run(name, func(t *testing.T) {
			wantNothing(t, l, jobs)
			wantNothing(t, l, jobs[:1])
			wantNothing(t, l, nil)
		})
	}
}

func TestJobsThatAreNotLegal(t *testing.T) {
	for name, wrong := range map[string]api.Job{
		"no such task":           job(2, 100, 1),
		"task below 0":           job(-1, 100, 1),
		"arrives below 0":        job(1, -1, 1),
		"arrives too late":       job(1, api.MaxClock+1, 1),
		"arrives too soon":       job(1, 28, 1),
		"released too soon":      late(-1, job(1, 100, 1)),
		"released too late":      late(6, job(1, 100, 1)),
		"works nothing":          job(1, 100, 0),
		"works below 0":          job(1, 100, -1),
		"works too long":         job(1, 100, 5),
		"section of 0":           job(1, 100, 4, 0),
		"section below 0":        job(1, 100, 4, 2, -1),
		"section too long":       job(1, 100, 4, 4),
		"sections beyond work":   job(1, 100, 2, 1, 1, 1),
		"sections go round":      job(1, 100, 4, math.MaxInt64, math.MaxInt64, 3),
		"all numbers very great": {Task: math.MaxInt, Arrive: math.MaxInt64, Release: math.MaxInt64, Work: math.MaxInt64},
		"all numbers very small": {Task: math.MinInt, Arrive: math.MinInt64, Release: math.MinInt64, Work: math.MinInt64},
	} {
		right := []api.Job{job(1, 10, 2), job(0, 15, 3, 2), job(1, 20, 4)}
		wantModel(t, pair(), right)
		t.Run(name, func(t *testing.T) {
			wantNothing(t, pair(), append(slices.Clone(right), wrong)) // as the last one, so behind all that could run
			wantNothing(t, pair(), []api.Job{right[0], right[2], wrong, right[1]})
			if name != "arrives too soon" { // which it does just behind another one
				wantNothing(t, pair(), []api.Job{wrong})
			}
		})
	}
}

func TestTooManyJobs(t *testing.T) {
	l := crowd()[1:2]
	var jobs []api.Job
	for i := range int64(api.MaxJobs) {
		jobs = append(jobs, job(0, 2*i, 1))
	}
	if spans, ends := exec.Run(l, jobs); len(spans) != api.MaxJobs || len(ends) != api.MaxJobs {
		t.Errorf("%d spans, %d ends, want %d", len(spans), len(ends), api.MaxJobs)
	}
	wantNothing(t, l, append(jobs, job(0, 2*api.MaxJobs, 1)))
}

// What the calls do to what they are handed: nothing.

func TestWhatIsHandedInStays(t *testing.T) {
	draw := rand.New(rand.NewSource(107))
	for range 200 {
		l := drawnSet(draw)
		jobs := drawnJobs(draw, l, 1+draw.Intn(15))
		for i := range jobs { // what stands behind a row's end stays, too
			jobs[i].Cuts = append(jobs[i].Cuts, 77, 78, 79)
			jobs[i].Cuts = jobs[i].Cuts[:len(jobs[i].Cuts)-3]
		}
		before, setBefore := fmt.Sprint(l, jobs), slices.Clone(l)
		exec.Run(l, jobs)
		exec.Until(l, jobs, int64(draw.Intn(30)))
		if after := fmt.Sprint(l, jobs); after != before || !slices.Equal(l, setBefore) {
			t.Fatalf("%s, were %s", after, before)
		}
		for _, j := range jobs {
			if beyond := j.Cuts[len(j.Cuts) : len(j.Cuts)+3]; !slices.Equal(beyond, []int64{77, 78, 79}) {
				t.Fatalf("behind cuts stands %v", beyond)
			}
		}
	}
}

func TestWhatIsToldIsTheCallers(t *testing.T) {
	draw := rand.New(rand.NewSource(108))
	for range 200 {
		l := drawnSet(draw)
		jobs := drawnJobs(draw, l, 1+draw.Intn(15))
		spans, ends := exec.Run(l, jobs)
		other, otherEnds := exec.Until(l, jobs, behind)
		before := fmt.Sprint(l, jobs)
		wantSpans, wantEnds := slices.Clone(spans), slices.Clone(ends)
		overwrite(spans, ends)
		if after := fmt.Sprint(l, jobs); after != before {
			t.Fatalf("%s, were %s", after, before)
		}
		wantTold(t, "Until", l, jobs, other, otherEnds, wantSpans, wantEnds)
		wantRun(t, l, jobs, wantSpans, wantEnds) // the same calls have the same answers
		spans, ends = exec.Run(l, jobs)
		clearJobs(jobs)
		wantTold(t, "Run", l, jobs, spans, ends, wantSpans, wantEnds)
	}
}

// overwrite writes into rows, and into what memory there is behind them.
func overwrite(spans []api.Span, ends []int64) {
	spans, ends = spans[:cap(spans)], ends[:cap(ends)]
	for i := range spans {
		spans[i] = api.Span{Job: -9, From: -9, To: -9}
	}
	for i := range ends {
		ends[i] = -9
	}
}

// clearJobs changes all of them.
func clearJobs(jobs []api.Job) {
	for _, j := range jobs {
		clear(j.Cuts)
	}
	clear(jobs)
}

// TestNothingIsKept: what was asked ahead, of other jobs, changes nothing.
func TestNothingIsKept(t *testing.T) {
	draw := rand.New(rand.NewSource(109))
	type asked struct {
		l    []api.Task
		jobs []api.Job
		told string
	}
	var ahead []asked
	for range 50 {
		l := drawnSet(draw)
		jobs := drawnJobs(draw, l, draw.Intn(15))
		ahead = append(ahead, asked{l, jobs, fmt.Sprint(exec.Run(l, jobs))})
		exec.Run(nil, jobs)
		exec.Until(l, jobs, 3)
	}
	for _, a := range ahead {
		if told := fmt.Sprint(exec.Run(a.l, a.jobs)); told != a.told {
			t.Errorf("Run: %s, was %s", told, a.told)
		}
	}
}

func Example() {
	l := []api.Task{{Name: "top", C: 1, T: 9, D: 9, Q: 1, P: 1}, {Name: "low", C: 3, T: 9, D: 9, Q: 2, P: 2}}
	jobs := []api.Job{{Task: 0, Arrive: 1, Release: 1, Work: 1}, {Task: 1, Work: 3, Cuts: []int64{2}}}
	spans, ends := exec.Run(l, jobs)
	fmt.Println(spans, ends)
	spans, ends = exec.Until(l, jobs, 3)
	fmt.Println(spans, ends)
	// Output:
	// [{1 0 2} {0 2 3} {1 3 4}] [3 4]
	// [{1 0 2} {0 2 3}] [3 -1]
}
