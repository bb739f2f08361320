package trace_test

import (
	"fmt"
	"iter"
	"math"
	"math/rand"
	"slices"
	"testing"

	"cadency/api"
	"cadency/exec"
	"cadency/script"
	"cadency/trace"
)

const (
	least = math.MinInt64
	most  = math.MaxInt64
)

// row is a longest row of ticks in which something runs, as Busy tells it.
type row struct{ from, to int64 }

// worst is what Worst tells.
type worst struct {
	r     int64
	place int
	ok    bool
}

// The models: what the chapter's words say, tick by tick, and job by job.

// modelEnds runs spans tick by tick, for jobs that have something to work.
func modelEnds(jobs []api.Job, spans []api.Span) []int64 {
	ends := make([]int64, len(jobs))
	for i, j := range jobs {
		ends[i] = -1
		ran := int64(0)
		for _, s := range spans {
			for t := s.From; t < s.To && s.Job == i; t++ {
				ran++
				if ran == j.Work {
					ends[i] = t + 1
				}
			}
		}
	}
	return ends
}

func modelResponse(jobs []api.Job, ends []int64, i int) (int64, bool) {
	switch {
	case i < 0, i >= len(jobs), i >= len(ends):
		return 0, false
	case ends[i] < 0:
		return 0, false
	}
	return ends[i] - jobs[i].Arrive, true
}

// modelWorst looks for the place whose Response none ahead of it reaches, and none behind it is above.
func modelWorst(jobs []api.Job, ends []int64, task int) worst {
	var of []int
	for i := range jobs {
		if _, ok := modelResponse(jobs, ends, i); ok && jobs[i].Task == task {
			of = append(of, i)
		}
	}
	for at, i := range of {
		r, _ := modelResponse(jobs, ends, i)
		above := func(k int) bool { other, _ := modelResponse(jobs, ends, k); return other > r }
		reach := func(k int) bool { other, _ := modelResponse(jobs, ends, k); return other >= r }
		if !slices.ContainsFunc(of[:at], reach) && !slices.ContainsFunc(of[at:], above) {
			return worst{r, i, true}
		}
	}
	return worst{}
}

func modelMisses(l []api.Task, jobs []api.Job, ends []int64) []int {
	var places []int
	for task, t := range l {
		for i, j := range jobs {
			if r, ok := modelResponse(jobs, ends, i); j.Task == task && (!ok || r > t.D) {
				places = append(places, i)
			}
		}
	}
	slices.Sort(places)
	return places
}

// modelBusy cuts a row wherever a span does not go on with the one ahead of it.
func modelBusy(spans []api.Span) []row {
	var rows []row
	for i, s := range spans {
		if i == 0 || spans[i-1].To != s.From {
			rows = append(rows, row{from: s.From})
		}
		rows[len(rows)-1].to = s.To
	}
	return rows
}

// ticksBusy is, of spans in order, from tick 0 up to tick end, the same by ticks.
func ticksBusy(spans []api.Span, end int64) []row {
	runs := make([]bool, end+1)
	for _, s := range spans {
		for t := s.From; t < s.To; t++ {
			runs[t] = true
		}
	}
	var rows []row
	for t, so := range runs {
		ahead := t > 0 && runs[t-1]
		if so && !ahead {
			rows = append(rows, row{from: int64(t)})
		}
		if ahead && !so {
			rows[len(rows)-1].to = int64(t)
		}
	}
	return rows
}

// Calls, and what they should tell.

func shown(x ...any) string {
	s := fmt.Sprintf("%+v", x)
	if len(s) > 3000 {
		return s[:3000] + " .."
	}
	return s
}

func wantEnds(t *testing.T, jobs []api.Job, spans []api.Span, want ...int64) {
	t.Helper()
	if got := trace.Ends(jobs, spans); !slices.Equal(got, want) {
		t.Fatalf("Ends of %s: %v, want %v", shown(jobs, spans), got, want)
	}
}

func wantResponse(t *testing.T, jobs []api.Job, ends []int64, i int, want int64, wantOK bool) {
	t.Helper()
	if got, ok := trace.Response(jobs, ends, i); got != want || ok != wantOK {
		t.Fatalf("Response of %s at %d: %d, %v, want %d, %v", shown(jobs, ends), i, got, ok, want, wantOK)
	}
}

func wantWorst(t *testing.T, jobs []api.Job, ends []int64, task int, want worst) {
	t.Helper()
	var got worst
	got.r, got.place, got.ok = trace.Worst(jobs, ends, task)
	if got != want {
		t.Fatalf("Worst of %s, task %d: %v, want %v", shown(jobs, ends), task, got, want)
	}
}

func wantMisses(t *testing.T, l []api.Task, jobs []api.Job, ends []int64, want ...int) {
	t.Helper()
	if got := trace.Misses(l, jobs, ends); !slices.Equal(got, want) {
		t.Fatalf("Misses of %s: %v, want %v", shown(l, jobs, ends), got, want)
	}
}

// told is what a sequence tells, left off behind its stop-th row; to its end, if it is below 0.
func told(seq iter.Seq2[int64, int64], stop int) []row {
	var rows []row
	if stop == 0 {
		return nil
	}
	for from, to := range seq {
		rows = append(rows, row{from, to})
		if len(rows) == stop {
			break
		}
	}
	return rows
}

// wantBusy asks Busy, left off behind each row too, and gone over again; and Long.
func wantBusy(t *testing.T, spans []api.Span, want ...row) {
	t.Helper()
	seq := trace.Busy(spans)
	if seq == nil {
		t.Fatalf("Busy of %s: nil", shown(spans))
	}
	stops := []int{-1, -1}
	for stop := range min(len(want), 20) {
		stops = append(stops, stop+1)
	}
	for _, stop := range append(stops, -1) {
		wanted := want
		if stop > 0 {
			wanted = want[:stop]
		}
		if got := told(seq, stop); !slices.Equal(got, wanted) {
			t.Fatalf("Busy of %s, up to row %d: %v, want %v", shown(spans), stop, got, wanted)
		}
	}
	wantNoMoreAsks(t, seq, want)
	long := int64(0)
	for _, r := range want {
		long += r.to - r.from
	}
	if got := trace.Long(spans); got != long {
		t.Fatalf("Long of %s: %d, want %d", shown(spans), got, long)
	}
}

// wantNoMoreAsks: who says that it has enough is asked no more.
func wantNoMoreAsks(t *testing.T, seq iter.Seq2[int64, int64], want []row) {
	t.Helper()
	asks := 0
	seq(func(from, to int64) bool {
		asks++
		return false
	})
	if asks != min(1, len(want)) {
		t.Fatalf("left off behind the first row, Busy tells %d", asks)
	}
}

func wantLong(t *testing.T, spans []api.Span, want int64) {
	t.Helper()
	if got := trace.Long(spans); got != want {
		t.Fatalf("Long of %s: %d, want %d", shown(spans), got, want)
	}
}

func wantFits(t *testing.T, l []api.Task, jobs []api.Job, spans []api.Span, want bool) {
	t.Helper()
	if got := trace.Fits(l, jobs, spans); got != want {
		t.Fatalf("Fits of %s: %v, want %v", shown(l, jobs, spans), got, want)
	}
}

// wantAll holds Response, Worst and Misses against their models, at all places, and for all tasks that are named and some that are not.
func wantAll(t *testing.T, l []api.Task, jobs []api.Job, ends []int64) {
	t.Helper()
	tasks := []int{math.MinInt, -1, 0, 1, len(l), len(l) + 1, math.MaxInt}
	for _, j := range jobs {
		tasks = append(tasks, j.Task)
	}
	for _, task := range tasks {
		wantWorst(t, jobs, ends, task, modelWorst(jobs, ends, task))
	}
	places := []int{math.MinInt, math.MaxInt}
	for i := -2; i < max(len(jobs), len(ends))+2; i++ {
		places = append(places, i)
	}
	for _, i := range places {
		r, ok := modelResponse(jobs, ends, i)
		wantResponse(t, jobs, ends, i, r, ok)
	}
	wantMisses(t, l, jobs, ends, modelMisses(l, jobs, ends)...)
}

// spansOf are the spans of rows of three: job, from, to.
func spansOf(rows ...[3]int64) []api.Span {
	var l []api.Span
	for _, r := range rows {
		l = append(l, api.Span{Job: int(r[0]), From: r[1], To: r[2]})
	}
	return l
}

// works are jobs of task 0, of that Work each.
func works(work ...int64) []api.Job {
	var jobs []api.Job
	for _, w := range work {
		jobs = append(jobs, api.Job{Work: w})
	}
	return jobs
}

// arrivals are jobs of rows of two: task, arrival.
func arrivals(rows ...[2]int64) []api.Job {
	var jobs []api.Job
	for _, r := range rows {
		jobs = append(jobs, api.Job{Task: int(r[0]), Arrive: r[1], Release: r[1] + 7, Work: 1})
	}
	return jobs
}

// Sets, and jobs of them.

// pair is a set of two tasks: place 0 is the less urgent one.
func pair() []api.Task {
	return []api.Task{
		{Name: "low", C: 9, T: 40, D: 30, J: 5, Q: 5, P: 7},
		{Name: "top", C: 4, T: 9, D: 8, J: 4, Q: 3, P: 2},
	}
}

// jobsOfPair are legal ones, with a section, late releases, and a row of ticks in which nothing runs.
func jobsOfPair() []api.Job {
	return []api.Job{
		{Task: 0, Arrive: 0, Release: 1, Work: 6, Cuts: []int64{3}},
		{Task: 1, Arrive: 0, Release: 2, Work: 2},
		{Task: 1, Arrive: 9, Release: 9, Work: 1},
		{Task: 1, Arrive: 20, Release: 24, Work: 4, Cuts: []int64{2}},
		{Task: 0, Arrive: 40, Release: 40, Work: 1},
	}
}

// runOfPair is how they run.
func runOfPair() []api.Span {
	return spansOf([3]int64{0, 1, 4}, [3]int64{1, 4, 6}, [3]int64{0, 6, 9}, [3]int64{2, 9, 10}, [3]int64{3, 24, 28}, [3]int64{4, 40, 41})
}

// drawnSet is a set of small times that may be.
func drawnSet(draw *rand.Rand) []api.Task {
	urgent := draw.Perm(30)
	var l []api.Task
	for i := range 1 + draw.Intn(5) {
		t := api.Task{Name: string(rune('a' + i)), C: 1 + draw.Int63n(6), J: draw.Int63n(4), P: 1 + urgent[i]}
		t.Q = 1 + draw.Int63n(t.C)
		t.D = t.C + t.J + draw.Int63n(4)
		t.T = t.D + draw.Int63n(1+draw.Int63n(18))
		l = append(l, t)
	}
	return l
}

// drawnJobs are n legal jobs of l.
func drawnJobs(draw *rand.Rand, l []api.Task, n int) []api.Job {
	late := 1 + draw.Intn(12)
	raw := make([]api.Raw, n)
	for i := range raw {
		raw[i] = api.Raw{Task: draw.Int(), Late: draw.Int(), Work: draw.Int()}
		if draw.Intn(2) == 0 {
			raw[i].Gap = draw.Intn(late)
		}
		for range draw.Intn(5) {
			raw[i].Cuts = append(raw[i].Cuts, draw.Int())
		}
	}
	return script.Decode(l, raw)
}

// drawnSpans are any spans, of small numbers, that often go on with each other.
func drawnSpans(draw *rand.Rand, jobs int) []api.Span {
	var l []api.Span
	at := draw.Int63n(20) - 5
	for range draw.Intn(12) {
		if draw.Intn(3) == 0 {
			at = draw.Int63n(30) - 5
		}
		s := api.Span{Job: draw.Intn(jobs+3) - 1, From: at, To: at + draw.Int63n(8) - 2}
		l = append(l, s)
		at = s.To
	}
	return l
}

// P11.1: ends.

func TestEndsOfARun(t *testing.T) {
	wantEnds(t, jobsOfPair(), runOfPair(), 9, 6, 10, 28, 41)
	spans, ends := exec.Run(pair(), jobsOfPair())
	if !slices.Equal(spans, runOfPair()) {
		t.Errorf("they run as %v", spans)
	}
	wantEnds(t, jobsOfPair(), spans, ends...)
}

// TestEndsOfDrawnRuns: what exec tells, of whole runs, and of such as are cut off anywhere.
func TestEndsOfDrawnRuns(t *testing.T) {
	draw := rand.New(rand.NewSource(111))
	for range 1500 {
		l := drawnSet(draw)
		jobs := drawnJobs(draw, l, draw.Intn(20))
		spans, ends := exec.Run(l, jobs)
		wantEnds(t, jobs, spans, ends...)
		wantEnds(t, jobs, spans, modelEnds(jobs, spans)...)
		for range 5 {
			end := draw.Int63n(60) - 1
			spans, ends = exec.Until(l, jobs, end)
			wantEnds(t, jobs, spans, ends...)
		}
	}
}

func TestEndsOfManyJobs(t *testing.T) {
	draw := rand.New(rand.NewSource(112))
	for range 5 {
		l := drawnSet(draw)
		jobs := drawnJobs(draw, l, api.MaxJobs)
		spans, ends := exec.Run(l, jobs)
		wantEnds(t, jobs, spans, ends...)
		wantFits(t, l, jobs, spans, true)
	}
}

func TestEndsOfNothing(t *testing.T) {
	for _, spans := range [][]api.Span{nil, {}} {
		wantEnds(t, nil, spans)
		wantEnds(t, []api.Job{}, spans)
		wantEnds(t, works(3), spans, -1)
		wantEnds(t, works(1, 2, 3), spans, -1, -1, -1)
	}
	for _, jobs := range [][]api.Job{nil, {}} {
		wantEnds(t, jobs, spansOf([3]int64{0, 0, 2}))
		wantEnds(t, jobs, runOfPair())
	}
}

// TestEndsOfNoJobs: spans whose Job is no place count for none.
func TestEndsOfNoJobs(t *testing.T) {
	for _, no := range []int64{-1, -2, 2, 3, math.MinInt, math.MaxInt} {
		wantEnds(t, works(2, 2), spansOf([3]int64{no, 0, 5}), -1, -1)
		wantEnds(t, works(2, 2), spansOf([3]int64{1, 0, 1}, [3]int64{no, 1, 9}, [3]int64{0, 9, 11}, [3]int64{no, 11, 13}, [3]int64{1, 13, 14}), 11, 14)
	}
}

// TestEndsOfNoTicks: a span that runs for no tick, or less than none, counts for none: it takes back nothing that has run.
func TestEndsOfNoTicks(t *testing.T) {
	for _, to := range []int64{3, 2, 0, -50, least + 3} {
		no := [3]int64{0, 3, to}
		wantEnds(t, works(1), spansOf(no), -1)
		wantEnds(t, works(2), spansOf(no, [3]int64{0, 5, 9}), 7)
		wantEnds(t, works(4), spansOf([3]int64{0, 0, 3}, no, [3]int64{0, 8, 9}), 9)
		wantEnds(t, works(4), spansOf([3]int64{0, 0, 3}, no), -1)
		wantEnds(t, works(3), spansOf([3]int64{0, 0, 3}, no), 3)
	}
}

func TestEndsWithinASpan(t *testing.T) {
	for work := int64(1); work <= 9; work++ {
		want := 10 + work
		wantEnds(t, works(work), spansOf([3]int64{0, 10, 19}), want)
		wantEnds(t, works(work), spansOf([3]int64{0, 10, 19}, [3]int64{0, 19, 30}, [3]int64{0, 40, 41}), want) // it ended first there
		if work > 4 {
			want += 6
		}
		wantEnds(t, works(work), spansOf([3]int64{0, 10, 14}, [3]int64{0, 20, 25}), want)
		wantEnds(t, works(work), spansOf([3]int64{0, 10, 14}, [3]int64{1, 14, 20}, [3]int64{0, 20, 29}), want)
	}
	wantEnds(t, works(10), spansOf([3]int64{0, 10, 19}), -1) // less than its Work
	wantEnds(t, works(10), spansOf([3]int64{0, 10, 14}, [3]int64{0, 20, 25}), -1)
	wantEnds(t, works(3, 1), spansOf([3]int64{0, 0, 2}, [3]int64{1, 2, 6}), -1, 3) // each one's ticks are its own
}

// TestEndsOfOneTickAtATime: spans that go on with each other are told like one.
func TestEndsOfOneTickAtATime(t *testing.T) {
	var spans []api.Span
	for at := range int64(6) {
		spans = append(spans, api.Span{Job: int(at % 2), From: at, To: at + 1})
	}
	wantEnds(t, works(2, 3), spans, 3, 6)
	wantEnds(t, works(3, 1), spans, 5, 2)
	wantEnds(t, works(4, 4), spans, -1, -1)
}

// TestEndsOfSpansThatAreNotInOrder: they are run in their order, whatever ticks they name.
func TestEndsOfSpansThatAreNotInOrder(t *testing.T) {
	wantEnds(t, works(3), spansOf([3]int64{0, 20, 22}, [3]int64{0, 5, 9}), 6)
	wantEnds(t, works(2), spansOf([3]int64{0, 20, 22}, [3]int64{0, 5, 9}), 22)
	wantEnds(t, works(5), spansOf([3]int64{0, 3, 6}, [3]int64{0, 3, 6}), 5) // the same ticks twice
	wantEnds(t, works(5), spansOf([3]int64{0, 3, 6}, [3]int64{0, 4, 6}), 6)
	wantEnds(t, works(2, 2), spansOf([3]int64{1, 3, 6}, [3]int64{0, 3, 6}), 5, 5) // both at once
}

// TestEndsBelowZero: a tick below 0 is told, also where spans behind it go on.
func TestEndsBelowZero(t *testing.T) {
	wantEnds(t, works(3), spansOf([3]int64{0, -10, -5}), -7)
	wantEnds(t, works(3), spansOf([3]int64{0, -10, -5}, [3]int64{0, 0, 9}), -7)
	wantEnds(t, works(3), spansOf([3]int64{0, -4, 0}, [3]int64{0, 0, 9}), -1)
	wantEnds(t, works(4), spansOf([3]int64{0, -4, 0}, [3]int64{0, 3, 9}), 0)
	wantResponse(t, works(3), trace.Ends(works(3), spansOf([3]int64{0, -10, -5}, [3]int64{0, 0, 9})), 0, 0, false)
}

// TestEndsOfGreatNumbers: no sum of what has run goes round.
func TestEndsOfGreatNumbers(t *testing.T) {
	wantEnds(t, works(most), spansOf([3]int64{0, 0, most}), most)
	wantEnds(t, works(most), spansOf([3]int64{0, 0, most - 1}, [3]int64{0, 0, 5}), 1)
	wantEnds(t, works(most), spansOf([3]int64{0, 1, most}, [3]int64{0, 1, most}, [3]int64{0, 1, most}), 2)
	wantEnds(t, works(most, 5), spansOf([3]int64{0, 1, most}, [3]int64{1, 0, most}), -1, 5)
	wantEnds(t, works(3), spansOf([3]int64{0, most - 3, most}), most)
	wantEnds(t, works(2), spansOf([3]int64{0, most - 3, most}), most-1)
	wantEnds(t, works(2), spansOf([3]int64{0, least, least + 2}), least+2)
	wantEnds(t, works(3), spansOf([3]int64{0, 0, most}, [3]int64{0, 0, most}, [3]int64{0, 0, most}), 3)
}

// TestEndsOfNothingToWork: who has nothing to work has run for it where it begins, and runs so long only if it runs.
func TestEndsOfNothingToWork(t *testing.T) {
	for _, work := range []int64{0, -1, -100, least} {
		wantEnds(t, works(work), nil, -1)
		wantEnds(t, works(work), spansOf([3]int64{0, 4, 4}, [3]int64{0, 5, 3}), -1)
		wantEnds(t, works(work), spansOf([3]int64{0, 4, 4}, [3]int64{0, 6, 8}, [3]int64{0, 9, 11}), 6)
		wantEnds(t, works(work, 1), spansOf([3]int64{1, 4, 5}, [3]int64{0, 0, most}), 0, 5)
	}
}

func TestEndsOfAnySpans(t *testing.T) {
	draw := rand.New(rand.NewSource(113))
	for range 20000 {
		jobs := works()
		for range draw.Intn(5) {
			jobs = append(jobs, api.Job{Task: draw.Intn(4) - 1, Arrive: draw.Int63n(9), Work: 1 + draw.Int63n(9)})
		}
		spans := drawnSpans(draw, len(jobs))
		wantEnds(t, jobs, spans, modelEnds(jobs, spans)...)
	}
}

func TestResponse(t *testing.T) {
	jobs, ends := jobsOfPair(), []int64{9, 6, 10, 28, 41}
	for i, want := range []int64{9, 6, 1, 8, 1} { // from the arrival on, not from the release on
		wantResponse(t, jobs, ends, i, want, true)
	}
	for _, i := range []int{-1, -2, 5, 6, math.MinInt, math.MaxInt} {
		wantResponse(t, jobs, ends, i, 0, false)
	}
}

func TestResponseOfFewerEndsOrJobs(t *testing.T) {
	jobs, ends := jobsOfPair(), []int64{9, 6, 10, 28, 41}
	wantResponse(t, jobs, ends[:3], 2, 1, true)
	wantResponse(t, jobs, ends[:3], 3, 0, false)
	wantResponse(t, jobs, ends[:3], 4, 0, false)
	wantResponse(t, jobs[:3], ends, 2, 1, true)
	wantResponse(t, jobs[:3], ends, 3, 0, false)
	wantResponse(t, jobs[:3], ends, 4, 0, false)
	for _, i := range []int{-1, 0, 1} {
		wantResponse(t, nil, nil, i, 0, false)
		wantResponse(t, jobs, nil, i, 0, false)
		wantResponse(t, nil, ends, i, 0, false)
		wantResponse(t, []api.Job{}, []int64{}, i, 0, false)
	}
}

func TestResponseOfEnds(t *testing.T) {
	jobs := arrivals([2]int64{0, 5}, [2]int64{1, -5})
	for _, c := range []struct {
		end      int64
		zero, at int64
		ok       bool
	}{
		{-1, 0, 0, false},
		{-2, 0, 0, false},
		{-6, 0, 0, false},
		{least, 0, 0, false},
		{0, -5, 5, true}, // ahead of the first one's arrival
		{1, -4, 6, true},
		{4, -1, 9, true},
		{5, 0, 10, true},
		{6, 1, 11, true},
		{most - 5, most - 10, most, true},
	} {
		wantResponse(t, jobs, []int64{c.end, c.end}, 0, c.zero, c.ok)
		wantResponse(t, jobs, []int64{c.end, c.end}, 1, c.at, c.ok)
	}
	wantResponse(t, jobs, []int64{0, most}, 1, least+4, true) // it goes round
}

// P11.2: worst, and misses.

func TestWorst(t *testing.T) {
	jobs, ends := jobsOfPair(), []int64{9, 6, 10, 28, 41}
	wantWorst(t, jobs, ends, 0, worst{9, 0, true})
	wantWorst(t, jobs, ends, 1, worst{8, 3, true})
	for _, task := range []int{-1, 2, 3, math.MinInt, math.MaxInt} { // no task's
		wantWorst(t, jobs, ends, task, worst{})
	}
	wantWorst(t, jobs, ends[:3], 1, worst{6, 1, true}) // the fourth one has no end
	wantWorst(t, jobs[:1], ends, 1, worst{})           // none of that task is left
	wantAll(t, pair(), jobs, ends)
}

func TestWorstOfNone(t *testing.T) {
	for _, ends := range [][]int64{nil, {}, {-1, -1}, {-1}, {least, -7}} {
		wantWorst(t, nil, ends, 0, worst{})
		wantWorst(t, []api.Job{}, ends, 0, worst{})
		wantWorst(t, arrivals([2]int64{0, 0}, [2]int64{0, 3}), ends, 0, worst{}) // no Response
		wantWorst(t, arrivals([2]int64{1, 0}, [2]int64{1, 3}), ends, 0, worst{}) // no job
	}
	wantWorst(t, arrivals([2]int64{1, 0}, [2]int64{1, 3}), []int64{5, 5}, 0, worst{})
}

func TestWorstOfOneJob(t *testing.T) {
	jobs := arrivals([2]int64{1, 0}, [2]int64{0, 7}, [2]int64{2, 0})
	for end, want := range map[int64]worst{
		12: {5, 1, true},
		8:  {1, 1, true},
		7:  {0, 1, true},
		6:  {-1, 1, true},
		0:  {-7, 1, true},
		-1: {},
		-9: {},
	} {
		wantWorst(t, jobs, []int64{99, end, 99}, 0, want)
	}
}

func TestWorstOfTheSame(t *testing.T) {
	jobs := arrivals([2]int64{1, 0}, [2]int64{0, 0}, [2]int64{0, 10}, [2]int64{0, 20}, [2]int64{0, 30})
	wantWorst(t, jobs, []int64{99, 5, 15, 25, 35}, 0, worst{5, 1, true})
	wantWorst(t, jobs, []int64{99, 4, 15, 25, 35}, 0, worst{5, 2, true})
	wantWorst(t, jobs, []int64{99, 4, 15, 24, 35}, 0, worst{5, 2, true})
	wantWorst(t, jobs, []int64{99, -1, 14, 25, 35}, 0, worst{5, 3, true})
	wantWorst(t, jobs, []int64{99, 5, 15, 25, 36}, 0, worst{6, 4, true})
	wantWorst(t, jobs, []int64{99, 0, 10, 20, 30}, 0, worst{0, 1, true})
	wantWorst(t, jobs, []int64{99, -1, 9, 19, 29}, 0, worst{-1, 2, true}) // a Response below 0, and the first one has none
	wantWorst(t, jobs, []int64{99, -1, 8, 19, 28}, 0, worst{-1, 3, true})
	wantWorst(t, jobs, []int64{99, -1, 9, 20, 29}, 0, worst{0, 3, true})
}

// TestWorstOfTasksThatMayNotBe: a Task is any number.
func TestWorstOfTasksThatMayNotBe(t *testing.T) {
	jobs := arrivals([2]int64{-1, 0}, [2]int64{math.MaxInt, 1}, [2]int64{math.MinInt, 2}, [2]int64{-1, 3})
	ends := []int64{4, 4, 4, 9}
	wantWorst(t, jobs, ends, -1, worst{6, 3, true})
	wantWorst(t, jobs, ends, math.MaxInt, worst{3, 1, true})
	wantWorst(t, jobs, ends, math.MinInt, worst{2, 2, true})
	wantWorst(t, jobs, ends, 0, worst{})
}

func TestMissesOfResponses(t *testing.T) {
	l := pair() // D is 30, and 8
	jobs := arrivals([2]int64{1, 3}, [2]int64{0, 3}, [2]int64{1, 12}, [2]int64{0, 43})
	for _, c := range []struct {
		ends []int64
		want []int
	}{
		{[]int64{11, 33, 20, 73}, nil}, // just D
		{[]int64{12, 33, 20, 73}, []int{0}},
		{[]int64{11, 34, 20, 73}, []int{1}},
		{[]int64{11, 33, 21, 73}, []int{2}},
		{[]int64{11, 33, 20, 74}, []int{3}},
		{[]int64{12, 34, 21, 74}, []int{0, 1, 2, 3}},
		{[]int64{-1, 33, 20, 73}, []int{0}}, // none
		{[]int64{11, -1, 20, -9}, []int{1, 3}},
		{[]int64{-1, -1, -1, -1}, []int{0, 1, 2, 3}},
		{[]int64{11, 33, 20}, []int{3}},
		{[]int64{12}, []int{0, 1, 2, 3}},
		{nil, []int{0, 1, 2, 3}},
		{[]int64{}, []int{0, 1, 2, 3}},
		{[]int64{0, 0, 0, 0}, nil}, // ahead of their arrivals
		{[]int64{11, 33, 20, 73, 999, -1}, nil},
	} {
		wantMisses(t, l, jobs, c.ends, c.want...)
		wantAll(t, l, jobs, c.ends)
	}
}

func TestMissesOfOtherSets(t *testing.T) {
	jobs := arrivals([2]int64{1, 0}, [2]int64{0, 0}, [2]int64{-1, 0}, [2]int64{1, 0}, [2]int64{2, 0}, [2]int64{math.MinInt, 0}, [2]int64{math.MaxInt, 0})
	none := []int64{-1, -1, -1, -1, -1, -1, -1}
	for _, l := range [][]api.Task{nil, {}} {
		wantMisses(t, l, jobs, none)
		wantMisses(t, l, nil, none)
	}
	wantMisses(t, pair()[:1], jobs, none, 1) // fewer tasks than the jobs name
	wantMisses(t, pair(), jobs, none, 0, 1, 3)
	wantMisses(t, append(pair(), pair()...), jobs, none, 0, 1, 3, 4)
	for _, jobs := range [][]api.Job{nil, {}} {
		wantMisses(t, pair(), jobs, nil)
		wantMisses(t, pair(), jobs, none)
	}
	// Sets that may not be, of any D, have places all the same.
	wantMisses(t, []api.Task{{D: 0}, {D: -5}}, jobs, []int64{0, 0, 0, 0}, 0, 3)
	wantMisses(t, []api.Task{{D: -1}, {D: most}}, jobs, []int64{most, 0, 0, most}, 1)
	wantMisses(t, []api.Task{{D: least}, {D: 0}}, jobs, []int64{0, 0, 0, 1}, 1, 3)
}

func TestWorstAndMissesOfAnything(t *testing.T) {
	draw := rand.New(rand.NewSource(114))
	for range 4000 {
		l := drawnSet(draw)
		var jobs []api.Job
		for range draw.Intn(9) {
			jobs = append(jobs, api.Job{Task: draw.Intn(len(l)+2) - 1, Arrive: draw.Int63n(8) - 1, Work: 1})
		}
		var ends []int64
		for range max(0, len(jobs)+draw.Intn(4)-2) {
			ends = append(ends, draw.Int63n(18)-2)
		}
		wantAll(t, l, jobs, ends)
	}
}

func TestAllOfDrawnRuns(t *testing.T) {
	draw := rand.New(rand.NewSource(115))
	for range 500 {
		l := drawnSet(draw)
		jobs := drawnJobs(draw, l, draw.Intn(20))
		spans, ends := exec.Run(l, jobs)
		wantAll(t, l, jobs, ends)
		end := int64(0)
		work := int64(0)
		for i := range jobs {
			end = max(end, ends[i])
			work += jobs[i].Work
		}
		wantBusy(t, spans, ticksBusy(spans, end)...)
		wantLong(t, spans, work)
		_, ends = exec.Until(l, jobs, draw.Int63n(40))
		wantAll(t, l, jobs, ends)
	}
}

// P11.3: busy.

func TestBusyOfTheExample(t *testing.T) {
	for _, job := range []int64{0, 1, -3} {
		spans := spansOf([3]int64{0, 0, 2}, [3]int64{job, 2, 3}, [3]int64{1, 5, 6})
		wantBusy(t, spans, row{0, 3}, row{5, 6})
		wantLong(t, spans, 4)
	}
}

func TestBusyOfARun(t *testing.T) {
	wantBusy(t, runOfPair(), row{1, 10}, row{24, 28}, row{40, 41})
	wantLong(t, runOfPair(), 14)
}

func TestBusyOfNothing(t *testing.T) {
	for _, spans := range [][]api.Span{nil, {}} {
		wantBusy(t, spans)
		wantLong(t, spans, 0)
	}
}

func TestBusyOfOne(t *testing.T) {
	wantBusy(t, spansOf([3]int64{0, 3, 9}), row{3, 9})
	wantLong(t, spansOf([3]int64{0, 3, 9}), 6)
	wantBusy(t, spansOf([3]int64{-1, 0, 1}), row{0, 1}) // whatever its Job is
	wantBusy(t, spansOf([3]int64{math.MaxInt, -4, 1}), row{-4, 1})
	wantLong(t, spansOf([3]int64{math.MinInt, -4, 1}), 5)
}

func TestBusyOfSpansThatGoOn(t *testing.T) {
	for _, jobs := range [][3]int64{{0, 0, 0}, {0, 1, 0}, {2, 1, 0}, {5, 5, -5}} {
		spans := spansOf([3]int64{jobs[0], 4, 5}, [3]int64{jobs[1], 5, 8}, [3]int64{jobs[2], 8, 9})
		wantBusy(t, spans, row{4, 9})
		wantLong(t, spans, 5)
		spans[1].From++
		wantBusy(t, spans, row{4, 5}, row{6, 9})
		wantLong(t, spans, 4)
		spans[1].To--
		wantBusy(t, spans, row{4, 5}, row{6, 7}, row{8, 9})
		wantLong(t, spans, 3)
	}
}

// TestBusyOfOthers: spans that are not in order, or of no tick, are taken as they come.
func TestBusyOfOthers(t *testing.T) {
	for _, c := range []struct {
		spans []api.Span
		want  []row
		long  int64
	}{
		{spansOf([3]int64{0, 5, 5}), []row{{5, 5}}, 0},
		{spansOf([3]int64{0, 5, 3}), []row{{5, 3}}, -2},
		{spansOf([3]int64{0, 5, 3}, [3]int64{0, 3, 4}), []row{{5, 4}}, -1},
		{spansOf([3]int64{0, 5, 3}, [3]int64{0, 5, 6}), []row{{5, 3}, {5, 6}}, -1},
		{spansOf([3]int64{0, 0, 2}, [3]int64{0, 2, 2}, [3]int64{0, 2, 4}), []row{{0, 4}}, 4},
		{spansOf([3]int64{0, 0, 2}, [3]int64{0, 3, 3}, [3]int64{0, 2, 4}), []row{{0, 2}, {3, 3}, {2, 4}}, 4},
		{spansOf([3]int64{0, 0, 2}, [3]int64{0, 3, 3}, [3]int64{0, 3, 4}), []row{{0, 2}, {3, 4}}, 3},
		{spansOf([3]int64{0, 5, 6}, [3]int64{0, 0, 2}, [3]int64{0, 2, 3}), []row{{5, 6}, {0, 3}}, 4},
		{spansOf([3]int64{0, 2, 3}, [3]int64{0, 0, 2}), []row{{2, 3}, {0, 2}}, 3}, // the later one goes on with nothing behind it
		{spansOf([3]int64{0, 0, 4}, [3]int64{0, 2, 6}), []row{{0, 4}, {2, 6}}, 8},
		{spansOf([3]int64{0, 0, 4}, [3]int64{0, 0, 4}), []row{{0, 4}, {0, 4}}, 8},
		{spansOf([3]int64{0, 0, 4}, [3]int64{0, 4, 1}, [3]int64{0, 1, 2}), []row{{0, 2}}, 2},
		{spansOf([3]int64{0, 0, 4}, [3]int64{0, 4, 0}, [3]int64{0, 0, 0}), []row{{0, 0}}, 0},
		{spansOf([3]int64{0, 0, 0}, [3]int64{0, 0, 0}, [3]int64{0, 1, 1}), []row{{0, 0}, {1, 1}}, 0},
		{spansOf([3]int64{0, -7, -5}, [3]int64{0, -5, 0}, [3]int64{0, 0, 1}), []row{{-7, 1}}, 8},
		{spansOf([3]int64{0, 0, most}, [3]int64{0, most, most}), []row{{0, most}}, most},
		{spansOf([3]int64{0, least, most}), []row{{least, most}}, -1}, // it goes round
		{spansOf([3]int64{0, 0, most}, [3]int64{0, 5, 7}), []row{{0, most}, {5, 7}}, least + 1},
		{spansOf([3]int64{0, 1, 9}, [3]int64{0, 9, 4}, [3]int64{0, 20, 10}), []row{{1, 4}, {20, 10}}, -7},
	} {
		wantBusy(t, c.spans, c.want...)
		wantLong(t, c.spans, c.long)
	}
}

func TestBusyOfAnySpans(t *testing.T) {
	draw := rand.New(rand.NewSource(116))
	for range 10000 {
		spans := drawnSpans(draw, 3)
		wantBusy(t, spans, modelBusy(spans)...)
	}
}

// TestBusyOfSpansInOrder: rows are as long as can be, by ticks.
func TestBusyOfSpansInOrder(t *testing.T) {
	draw := rand.New(rand.NewSource(117))
	for range 5000 {
		var spans []api.Span
		at := int64(0)
		for range draw.Intn(12) {
			from := at + max(0, draw.Int63n(5)-2)
			at = from + 1 + draw.Int63n(4)
			spans = append(spans, api.Span{Job: draw.Intn(3), From: from, To: at})
		}
		rows := ticksBusy(spans, at)
		wantBusy(t, spans, rows...)
		for i := 1; i < len(rows); i++ {
			if rows[i].from <= rows[i-1].to {
				t.Fatalf("of %v row %v is not apart from the one ahead", spans, rows[i])
			}
		}
	}
}

func TestBusyOfManySpans(t *testing.T) {
	const n = 200000
	apart, together := make([]api.Span, n), make([]api.Span, n)
	var rows []row
	for i := range apart {
		from := int64(3 * i)
		apart[i] = api.Span{Job: i, From: from, To: from + 2}
		together[i] = api.Span{Job: i, From: from, To: from + 3}
		rows = append(rows, row{from, from + 2})
	}
	wantBusy(t, apart, rows...)
	wantLong(t, apart, 2*n)
	wantBusy(t, together, row{0, 3 * n})
	wantLong(t, together, 3*n)
}

func TestBusyWithinBusy(t *testing.T) {
	seq := trace.Busy(runOfPair())
	want := []row{{1, 10}, {24, 28}, {40, 41}}
	var outer []row
	for from, to := range seq {
		outer = append(outer, row{from, to})
		if got := told(seq, -1); !slices.Equal(got, want) {
			t.Errorf("within it Busy tells %v", got)
		}
		if got := told(seq, 1); !slices.Equal(got, want[:1]) {
			t.Errorf("within it, left off, Busy tells %v", got)
		}
	}
	if !slices.Equal(outer, want) {
		t.Errorf("with itself within it Busy tells %v", outer)
	}
}

// P11.4: fits.

func TestFitsOfARun(t *testing.T) {
	l, jobs := pair(), jobsOfPair()
	wantFits(t, l, jobs, runOfPair(), true)
	wantChangedFitNot(t, l, jobs, runOfPair())
}

// wantChangedFitNot: no row of spans that is changed in one or two fits, nor one with a span more or less.
func wantChangedFitNot(t *testing.T, l []api.Task, jobs []api.Job, run []api.Span) {
	t.Helper()
	for i := range run {
		for _, other := range others(run[i]) {
			one := slices.Clone(run)
			one[i] = other
			wantFits(t, l, jobs, one, false)
			for k := i + 1; k < len(run); k++ {
				two := slices.Clone(one)
				two[k].From++
				wantFits(t, l, jobs, two, false)
			}
			wantFits(t, l, jobs, slices.Insert(slices.Clone(run), i, other), false)
		}
		wantFits(t, l, jobs, slices.Delete(slices.Clone(run), i, i+1), false)
		wantFits(t, l, jobs, slices.Insert(slices.Clone(run), i, run[i]), false) // told twice
		for k := i + 1; k < len(run); k++ {
			swapped := slices.Clone(run)
			swapped[i], swapped[k] = swapped[k], swapped[i]
			wantFits(t, l, jobs, swapped, false)
			swapped = slices.Clone(run)
			if swapped[i].Job != swapped[k].Job {
				swapped[i].Job, swapped[k].Job = swapped[k].Job, swapped[i].Job
				wantFits(t, l, jobs, swapped, false)
			}
		}
		for at := run[i].From; at <= run[i].To; at++ { // told as two that go on with each other, one of no tick too
			first, second := run[i], run[i]
			first.To, second.From = at, at
			wantFits(t, l, jobs, slices.Replace(slices.Clone(run), i, i+1, first, second), false)
		}
		wantFits(t, l, jobs, run[:i], false)
		wantFits(t, l, jobs, run[i+1:], false)
	}
	wantFits(t, l, jobs, append(slices.Clone(run), api.Span{}), false)
	wantFits(t, l, jobs, append(slices.Clone(run), api.Span{Job: 0, From: 1000, To: 1001}), false)
	if len(run) > 0 {
		wantFits(t, l, jobs, nil, false)
		wantFits(t, l, jobs, []api.Span{}, false)
		later := slices.Clone(run)
		for i := range later {
			later[i].From++
			later[i].To++
		}
		wantFits(t, l, jobs, later, false)
	}
}

// others are spans that are not s, in one field alone.
func others(s api.Span) []api.Span {
	var l []api.Span
	for _, by := range []int64{-1, 1, 5, 1 << 32, least} {
		job, from, to := s, s, s
		job.Job += int(by)
		from.From += by
		to.To += by
		l = append(l, job, from, to)
	}
	return l
}

func TestFitsOfDrawnRuns(t *testing.T) {
	draw := rand.New(rand.NewSource(118))
	for range 60 {
		l := drawnSet(draw)
		jobs := drawnJobs(draw, l, draw.Intn(9))
		run, _ := exec.Run(l, jobs)
		wantFits(t, l, jobs, run, true)
		wantChangedFitNot(t, l, jobs, run)
	}
}

// TestFitsOfOtherJobs: the run of some jobs fits others just if these run so, too.
func TestFitsOfOtherJobs(t *testing.T) {
	l, run := pair(), runOfPair()
	for name, change := range map[string]func(jobs []api.Job){
		"one works less":         func(jobs []api.Job) { jobs[1].Work-- },
		"one is released later":  func(jobs []api.Job) { jobs[0].Release++ },
		"another section":        func(jobs []api.Job) { jobs[0].Cuts[0]-- },
		"none":                   func(jobs []api.Job) { jobs[0].Cuts = nil },
		"one is of another task": func(jobs []api.Job) { jobs[4].Task, jobs[4].Work = 1, 2 },
	} {
		jobs := jobsOfPair()
		change(jobs)
		if !script.Legal(l, jobs) {
			t.Fatalf("%s: the jobs are not legal", name)
		}
		wantFits(t, l, jobs, run, false)
	}
	jobs := jobsOfPair() // which run the same way, if the one that is alone has other sections, and arrives later
	jobs[3].Cuts = []int64{1, 1, 2}
	jobs[3].Arrive = 24
	wantFits(t, l, jobs, run, true)
	wantFits(t, l, append(jobs, api.Job{Task: 1, Arrive: 50, Release: 50, Work: 1}), run, false)
	wantFits(t, l, jobs[:4], run, false)
	other := pair()
	other[0].P, other[1].P = 1, 2 // the other one is more urgent
	wantFits(t, other, jobs, run, false)
}

func TestFitsOfNoJobs(t *testing.T) {
	for _, jobs := range [][]api.Job{nil, {}} {
		for _, spans := range [][]api.Span{nil, {}} {
			wantFits(t, pair(), jobs, spans, true)
			wantFits(t, pair()[:1], jobs, spans, true)
		}
		wantFits(t, pair(), jobs, []api.Span{{}}, false)
		wantFits(t, pair(), jobs, runOfPair(), false)
	}
}

// wantNoneFits: no row of spans does, the empty one neither.
func wantNoneFits(t *testing.T, l []api.Task, jobs []api.Job) {
	t.Helper()
	for _, spans := range [][]api.Span{nil, {}, runOfPair(), runOfPair()[:1], {{}}, spansOf([3]int64{0, 100, 101}), spansOf([3]int64{-1, 0, 0})} {
		wantFits(t, l, jobs, spans, false)
	}
}

func TestNothingFitsJobsThatAreNotLegal(t *testing.T) {
	for name, wrong := range map[string]api.Job{
		"no such task":           {Task: 2, Arrive: 100, Release: 100, Work: 1},
		"task below 0":           {Task: -1, Arrive: 100, Release: 100, Work: 1},
		"arrives below 0":        {Task: 1, Arrive: -1, Release: -1, Work: 1},
		"arrives too late":       {Task: 1, Arrive: api.MaxClock + 1, Release: api.MaxClock + 1, Work: 1},
		"arrives too soon":       {Task: 1, Arrive: 28, Release: 28, Work: 1},
		"released too soon":      {Task: 1, Arrive: 100, Release: 99, Work: 1},
		"released too late":      {Task: 1, Arrive: 100, Release: 105, Work: 1},
		"works nothing":          {Task: 1, Arrive: 100, Release: 100},
		"works too long":         {Task: 1, Arrive: 100, Release: 100, Work: 5},
		"section of 0":           {Task: 1, Arrive: 100, Release: 100, Work: 4, Cuts: []int64{2, 0}},
		"section too long":       {Task: 1, Arrive: 100, Release: 100, Work: 4, Cuts: []int64{4}},
		"sections beyond work":   {Task: 1, Arrive: 100, Release: 100, Work: 2, Cuts: []int64{2, 1}},
		"all numbers very great": {Task: math.MaxInt, Arrive: most, Release: most, Work: most},
		"all numbers very small": {Task: math.MinInt, Arrive: least, Release: least, Work: least},
	} {
		t.Run(name, func(t *testing.T) {
			wantNoneFits(t, pair(), append(jobsOfPair(), wrong))
			if name != "arrives too soon" { // which it does just behind another one
				wantNoneFits(t, pair(), []api.Job{wrong})
			}
		})
	}
	var jobs []api.Job
	for i := range int64(api.MaxJobs + 1) {
		jobs = append(jobs, api.Job{Task: 1, Arrive: 9 * i, Release: 9 * i, Work: 1})
	}
	run, _ := exec.Run(pair(), jobs[:api.MaxJobs])
	wantFits(t, pair(), jobs[:api.MaxJobs], run, true)
	wantFits(t, pair(), jobs, run, false)
	wantNoneFits(t, pair(), jobs)
}

func TestNothingFitsASetThatMayNotBe(t *testing.T) {
	for name, change := range map[string]func(x *api.Task){
		"name":      func(x *api.Task) { x.Name = "9" },
		"same name": func(x *api.Task) { x.Name = "low" },
		"C":         func(x *api.Task) { x.C = 0 },
		"T":         func(x *api.Task) { x.T = api.MaxTime + 1 },
		"D":         func(x *api.Task) { x.D = 10 },
		"J":         func(x *api.Task) { x.J = -1 },
		"Q":         func(x *api.Task) { x.Q = 5 },
		"same P":    func(x *api.Task) { x.P = 7 },
	} {
		l := pair()
		change(&l[1])
		t.Run(name, func(t *testing.T) {
			wantNoneFits(t, l, jobsOfPair())
			wantNoneFits(t, l, nil)
			wantNoneFits(t, l, []api.Job{})
		})
	}
	for _, l := range [][]api.Task{nil, {}} {
		wantNoneFits(t, l, jobsOfPair())
		wantNoneFits(t, l, nil)
		wantNoneFits(t, l, []api.Job{})
	}
}

// What holds everywhere.

// drawnNumber is of any size.
func drawnNumber(draw *rand.Rand) int64 {
	switch draw.Intn(6) {
	case 0:
		return least + draw.Int63n(3)
	case 1:
		return most - draw.Int63n(3)
	case 2:
		return int64(draw.Uint64())
	}
	return draw.Int63n(9) - 3
}

// TestAnythingIsAnswered: each call ends, and none panics, at any numbers; what is told is in itself right.
func TestAnythingIsAnswered(t *testing.T) {
	draw := rand.New(rand.NewSource(119))
	n := func() int64 { return drawnNumber(draw) }
	for range 30000 {
		var l []api.Task
		for range draw.Intn(4) {
			l = append(l, api.Task{Name: "x", C: n(), T: n(), D: n(), J: n(), Q: n(), P: int(n())})
		}
		var jobs []api.Job
		for range draw.Intn(5) {
			jobs = append(jobs, api.Job{Task: int(n()), Arrive: n(), Release: n(), Work: n(), Cuts: []int64{n(), n()}})
		}
		var spans []api.Span
		for range draw.Intn(6) {
			spans = append(spans, api.Span{Job: int(n()), From: n(), To: n()})
		}
		var ends []int64
		for range draw.Intn(6) {
			ends = append(ends, n())
		}
		if got := trace.Ends(jobs, spans); len(got) != len(jobs) {
			t.Fatalf("Ends of %s: %v", shown(jobs, spans), got)
		}
		wantAll(t, l, jobs, ends)
		wantBusy(t, spans, modelBusy(spans)...)
		wantFits(t, l, jobs, spans, false)
	}
}

// TestWhatIsHandedInStays: also what stands behind its end.
func TestWhatIsHandedInStays(t *testing.T) {
	draw := rand.New(rand.NewSource(120))
	for range 300 {
		l := drawnSet(draw)
		jobs := drawnJobs(draw, l, 1+draw.Intn(9))
		spans, ends := exec.Run(l, jobs)
		if draw.Intn(2) == 0 {
			spans = drawnSpans(draw, len(jobs))
		}
		l = append(l, api.Task{Name: "behind"})
		jobs = append(jobs, api.Job{Task: 77})
		spans = append(spans, api.Span{Job: 77})
		ends = append(ends, 77)
		before := fmt.Sprint(l, jobs, spans, ends)
		setOf, jobsOf, spansOf, endsOf := l[:len(l)-1], jobs[:len(jobs)-1], spans[:len(spans)-1], ends[:len(ends)-1]
		trace.Ends(jobsOf, spansOf)
		trace.Response(jobsOf, endsOf, 0)
		trace.Worst(jobsOf, endsOf, 0)
		trace.Misses(setOf, jobsOf, endsOf)
		told(trace.Busy(spansOf), -1)
		trace.Long(spansOf)
		trace.Fits(setOf, jobsOf, spansOf)
		if after := fmt.Sprint(l, jobs, spans, ends); after != before {
			t.Fatalf("%s, were %s", after, before)
		}
	}
}

func TestWhatIsToldIsTheCallers(t *testing.T) {
	l, jobs, spans, ends := pair(), jobsOfPair(), runOfPair(), []int64{99, 6, 10, 28, -1}
	before := fmt.Sprint(l, jobs, spans, ends)
	firstEnds, firstMisses := trace.Ends(jobs, spans), trace.Misses(l, jobs, ends)
	otherEnds, otherMisses := trace.Ends(jobs, spans), trace.Misses(l, jobs, ends)
	overwrite(firstEnds, -9)
	overwrite(firstMisses, -9)
	if after := fmt.Sprint(l, jobs, spans, ends); after != before {
		t.Errorf("%s, were %s", after, before)
	}
	clear(l)
	clear(jobs)
	clear(spans)
	clear(ends)
	if !slices.Equal(otherEnds, []int64{9, 6, 10, 28, 41}) || !slices.Equal(otherMisses, []int{0, 4}) {
		t.Errorf("what was told has become %v, %v", otherEnds, otherMisses)
	}
	// The same calls have the same answers.
	wantEnds(t, jobsOfPair(), runOfPair(), 9, 6, 10, 28, 41)
	wantMisses(t, pair(), jobsOfPair(), []int64{99, 6, 10, 28, -1}, 0, 4)
}

// overwrite writes into a row, and into what memory there is behind it.
func overwrite[T any](l []T, x T) {
	l = l[:cap(l)]
	for i := range l {
		l[i] = x
	}
}

// TestSpansChangedLaterAreNotSeen: Busy tells of the spans that it was handed, whatever becomes of their row, ahead of and while it is gone over.
func TestSpansChangedLaterAreNotSeen(t *testing.T) {
	want := []row{{1, 10}, {24, 28}, {40, 41}}
	spans := runOfPair()
	seq := trace.Busy(spans)
	clear(spans)
	if got := told(seq, -1); !slices.Equal(got, want) {
		t.Errorf("ahead of it spans were changed: %v", got)
	}
	spans = runOfPair()
	var rows []row
	for from, to := range trace.Busy(spans) {
		clear(spans)
		rows = append(rows, row{from, to})
	}
	if !slices.Equal(rows, want) {
		t.Errorf("meanwhile spans were changed: %v", rows)
	}
}

// TestNothingIsKept: what was asked ahead, of other spans, changes nothing.
func TestNothingIsKept(t *testing.T) {
	draw := rand.New(rand.NewSource(121))
	seq := trace.Busy(runOfPair())
	for range 50 {
		jobs := works(1+draw.Int63n(5), 1+draw.Int63n(5))
		spans := drawnSpans(draw, 2)
		trace.Ends(jobs, spans)
		told(trace.Busy(spans), 1)
		trace.Fits(pair(), jobs, spans)
		wantEnds(t, jobsOfPair(), runOfPair(), 9, 6, 10, 28, 41)
		wantFits(t, pair(), jobsOfPair(), runOfPair(), true)
		if got := told(seq, -1); len(got) != 3 {
			t.Fatalf("Busy tells %v", got)
		}
	}
}

func Example() {
	l := []api.Task{
		{Name: "top", C: 1, T: 9, D: 2, Q: 1, P: 1},
		{Name: "low", C: 3, T: 9, D: 9, Q: 2, P: 2},
	}
	jobs := []api.Job{
		{Task: 0, Arrive: 0, Release: 0, Work: 1},
		{Task: 1, Arrive: 0, Release: 0, Work: 3, Cuts: []int64{1, 2}},
		{Task: 0, Arrive: 9, Release: 9, Work: 1},
	}
	spans, _ := exec.Run(l, jobs)
	ends := trace.Ends(jobs, spans)
	fmt.Println(ends)
	fmt.Println(trace.Response(jobs, ends, 2))
	fmt.Println(trace.Worst(jobs, ends, 0))
	fmt.Println(trace.Misses(l, jobs, []int64{3, 4, -1}))
	for from, to := range trace.Busy(spans) {
		fmt.Println(from, to)
	}
	fmt.Println(trace.Long(spans), trace.Fits(l, jobs, spans), trace.Fits(l, jobs, spans[1:]))
	// Output:
	// [1 4 10]
	// 1 true
	// 1 0 true
	// [0 2]
	// 0 4
	// 9 10
	// 5 true false
}
