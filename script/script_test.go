package script_test

import (
	"fmt"
	"maps"
	"math"
	"math/big"
	"math/rand"
	"slices"
	"testing"

	"cadency/api"
	"cadency/script"
)

const (
	maxTime  = 1<<31 - 1
	maxGap   = 1 << 20
	maxJobs  = 4096
	maxClock = 1 << 44

	leastInt   = math.MinInt
	mostInt    = math.MaxInt
	leastInt64 = math.MinInt64
	mostInt64  = math.MaxInt64
)

// The models: what the chapter's words say, in numbers of any size.

// restOf is the rest of n by by: Mod is never below 0.
func restOf(n int, by int64) int64 {
	return new(big.Int).Mod(big.NewInt(int64(n)), big.NewInt(by)).Int64()
}

// lastAhead is the job of that task that stands last.
func lastAhead(jobs []api.Job, task int) (api.Job, bool) {
	for i := len(jobs) - 1; i >= 0; i-- {
		if jobs[i].Task == task {
			return jobs[i], true
		}
	}
	return api.Job{}, false
}

// soonest is from when on the next job of that task may arrive, behind those jobs.
func soonest(l []api.Task, ahead []api.Job, task int) *big.Int {
	last, ok := lastAhead(ahead, task)
	if !ok {
		return big.NewInt(0)
	}
	return new(big.Int).Add(big.NewInt(last.Arrive), big.NewInt(l[task].T))
}

// modelDecode is for sets that may be.
func modelDecode(l []api.Task, raw []api.Raw) []api.Job {
	var jobs []api.Job
	for i, r := range raw {
		if i == maxJobs {
			break
		}
		var j api.Job
		j.Task = int(restOf(r.Task, int64(len(l))))
		t := l[j.Task]
		j.Arrive = restOf(r.Gap, maxGap) + soonest(l, jobs, j.Task).Int64()
		j.Release = j.Arrive + restOf(r.Late, t.J+1)
		j.Work = 1 + restOf(r.Work, t.C)
		left := j.Work
		for k := 0; k < len(r.Cuts) && left > 0; k++ {
			less := t.Q
			if left < less {
				less = left
			}
			j.Cuts = append(j.Cuts, 1+restOf(r.Cuts[k], less))
			left -= j.Cuts[k]
		}
		jobs = append(jobs, j)
	}
	return jobs
}

// modelLegal is for sets that may be.
func modelLegal(l []api.Task, jobs []api.Job) bool {
	legal := len(jobs) <= maxJobs
	for i, j := range jobs {
		if j.Task < 0 || j.Task >= len(l) {
			return false
		}
		t := l[j.Task]
		from := func(what int64, low, high *big.Int) bool {
			n := big.NewInt(what)
			return n.Cmp(low) >= 0 && n.Cmp(high) <= 0
		}
		plus := func(n, more int64) *big.Int { return new(big.Int).Add(big.NewInt(n), big.NewInt(more)) }
		legal = legal && from(j.Arrive, big.NewInt(0), big.NewInt(maxClock))
		legal = legal && from(j.Arrive, soonest(l, jobs[:i], j.Task), big.NewInt(mostInt64))
		legal = legal && from(j.Release, big.NewInt(j.Arrive), plus(j.Arrive, t.J))
		legal = legal && from(j.Work, big.NewInt(1), big.NewInt(t.C))
		sum := new(big.Int)
		for _, cut := range j.Cuts {
			legal = legal && from(cut, big.NewInt(1), big.NewInt(t.Q))
			sum.Add(sum, big.NewInt(cut))
		}
		legal = legal && sum.Cmp(big.NewInt(j.Work)) <= 0
	}
	return legal
}

// modelEncode is for sets that may be.
func modelEncode(l []api.Task, jobs []api.Job) ([]api.Raw, bool) {
	if !modelLegal(l, jobs) {
		return nil, false
	}
	var raw []api.Raw
	for i, j := range jobs {
		later := new(big.Int).Sub(big.NewInt(j.Arrive), soonest(l, jobs[:i], j.Task))
		if later.Cmp(big.NewInt(maxGap)) >= 0 {
			return nil, false
		}
		r := api.Raw{Task: j.Task, Gap: int(later.Int64()), Late: int(j.Release - j.Arrive), Work: int(j.Work) - 1}
		for _, cut := range j.Cuts {
			r.Cuts = append(r.Cuts, int(cut)-1)
		}
		raw = append(raw, r)
	}
	return raw, true
}

// modelCount is for sets that may be.
func modelCount(l []api.Task, jobs []api.Job) map[int]int {
	n := map[int]int{}
	for _, j := range jobs {
		if !modelLegal(l, jobs) {
			break
		}
		n[j.Task] = n[j.Task] + 1
	}
	return n
}

// What is alike: rows without elements are, whether they are nil or empty.

func sameJob(a, b api.Job) bool {
	return a.Task == b.Task && a.Arrive == b.Arrive && a.Release == b.Release && a.Work == b.Work && slices.Equal(a.Cuts, b.Cuts)
}

func sameRaw(a, b api.Raw) bool {
	return a.Task == b.Task && a.Gap == b.Gap && a.Late == b.Late && a.Work == b.Work && slices.Equal(a.Cuts, b.Cuts)
}

func sameJobs(a, b []api.Job) bool { return slices.EqualFunc(a, b, sameJob) }
func sameRaws(a, b []api.Raw) bool { return slices.EqualFunc(a, b, sameRaw) }

// copyJobs and copyRaws share nothing with what they copy.
func copyJobs(jobs []api.Job) []api.Job {
	l := slices.Clone(jobs)
	for i := range l {
		l[i].Cuts = slices.Clone(l[i].Cuts)
	}
	return l
}

func copyRaws(raw []api.Raw) []api.Raw {
	l := slices.Clone(raw)
	for i := range l {
		l[i].Cuts = slices.Clone(l[i].Cuts)
	}
	return l
}

// shown is what %v tells of something, with no more of it than is of use.
func shown(x any) string {
	s := fmt.Sprintf("%v", x)
	if len(s) > 300 {
		return fmt.Sprintf("%s.. (%d bytes)", s[:300], len(s))
	}
	return s
}

// Each want asks also that what is handed in stays as it is.

func wantDecode(t *testing.T, l []api.Task, raw []api.Raw, want []api.Job) {
	t.Helper()
	tasks, before := slices.Clone(l), copyRaws(raw)
	got := script.Decode(l, raw)
	if !sameJobs(got, want) {
		t.Errorf("Decode of %s, of %s: %s, want %s", shown(raw), shown(l), shown(got), shown(want))
	}
	if !slices.Equal(tasks, l) || !sameRaws(before, raw) {
		t.Errorf("Decode of %s: what was handed in is changed", shown(before))
	}
}

func wantLegal(t *testing.T, l []api.Task, jobs []api.Job, want bool) {
	t.Helper()
	tasks, before := slices.Clone(l), copyJobs(jobs)
	if got := script.Legal(l, jobs); got != want {
		t.Errorf("Legal of %s, of %s: %v, want %v", shown(jobs), shown(l), got, want)
	}
	if !slices.Equal(tasks, l) || !sameJobs(before, jobs) {
		t.Errorf("Legal of %s: what was handed in is changed", shown(before))
	}
}

func wantEncode(t *testing.T, l []api.Task, jobs []api.Job, want []api.Raw, ok bool) {
	t.Helper()
	tasks, before := slices.Clone(l), copyJobs(jobs)
	got, gotOK := script.Encode(l, jobs)
	if !sameRaws(got, want) || gotOK != ok {
		t.Errorf("Encode of %s, of %s: %s, %v, want %s, %v", shown(jobs), shown(l), shown(got), gotOK, shown(want), ok)
	}
	if !slices.Equal(tasks, l) || !sameJobs(before, jobs) {
		t.Errorf("Encode of %s: what was handed in is changed", shown(before))
	}
}

func wantCount(t *testing.T, l []api.Task, jobs []api.Job, want map[int]int) {
	t.Helper()
	tasks, before := slices.Clone(l), copyJobs(jobs)
	if got := script.Count(l, jobs); !maps.Equal(got, want) {
		t.Errorf("Count of %s, of %s: %s, want %s", shown(jobs), shown(l), shown(got), shown(want))
	}
	if !slices.Equal(tasks, l) || !sameJobs(before, jobs) {
		t.Errorf("Count of %s: what was handed in is changed", shown(before))
	}
}

// wantJobs asks all three calls of jobs, of a set that may be, for what their models tell.
func wantJobs(t *testing.T, l []api.Task, jobs []api.Job) {
	t.Helper()
	raw, ok := modelEncode(l, jobs)
	wantLegal(t, l, jobs, modelLegal(l, jobs))
	wantEncode(t, l, jobs, raw, ok)
	wantCount(t, l, jobs, modelCount(l, jobs))
}

// wantWrong asks that all three calls tell nothing of jobs that are not legal, or of a set that may not be.
func wantWrong(t *testing.T, l []api.Task, jobs []api.Job) {
	t.Helper()
	wantLegal(t, l, jobs, false)
	wantEncode(t, l, jobs, nil, false)
	wantCount(t, l, jobs, nil)
}

// wantRight asks that jobs are legal, and that the calls tell what their models do.
func wantRight(t *testing.T, l []api.Task, jobs []api.Job) {
	t.Helper()
	wantLegal(t, l, jobs, true)
	wantJobs(t, l, jobs)
}

// Sets.

// example is the chapter's set.
func example() []api.Task {
	return []api.Task{{Name: "a", C: 3, T: 9, D: 9, J: 2, Q: 2, P: 1}}
}

// three are tasks that differ in all: with and without jitter, with sections of 1, of some and of all of the work.
func three() []api.Task {
	return []api.Task{
		{Name: "a", C: 3, T: 10, D: 9, J: 2, Q: 2, P: 1},
		{Name: "b", C: 5, T: 20, D: 20, J: 0, Q: 5, P: 3},
		{Name: "c", C: 4, T: 7, D: 7, J: 3, Q: 1, P: 2},
	}
}

// wide is a set of one task whose numbers are as great as may be.
func wide() []api.Task {
	return []api.Task{{Name: "w", C: maxTime, T: maxTime, D: maxTime, J: 0, Q: maxTime, P: 1 << 20}}
}

// late is a set of one task whose jobs may be released as late as may be.
func late() []api.Task {
	return []api.Task{{Name: "j", C: 1, T: maxTime, D: maxTime, J: maxTime - 1, Q: 1, P: 1}}
}

// least is a set of one task whose numbers are as small as may be.
func least() []api.Task {
	return []api.Task{{Name: "o", C: 1, T: 1, D: 1, J: 0, Q: 1, P: 1}}
}

// many are n tasks that may be, if n is from 1 to 1024.
func many(n int) []api.Task {
	l := make([]api.Task, n)
	for i := range l {
		l[i] = api.Task{Name: fmt.Sprint("t", i), C: 2, T: 5, D: 5, J: 1, Q: 2, P: n - i}
	}
	return l
}

// sets are some that may be.
func sets() [][]api.Task {
	return [][]api.Task{example(), three(), wide(), late(), least(), many(2), many(1024)}
}

// wrongSets are some that may not be.
func wrongSets() map[string][]api.Task {
	with := func(change func(l []api.Task)) []api.Task {
		l := three()
		change(l)
		return l
	}
	return map[string][]api.Task{
		"nil":      nil,
		"empty":    {},
		"1025":     many(1025),
		"zero":     {{}},
		"name":     with(func(l []api.Task) { l[2].Name = "1" }),
		"C 0":      with(func(l []api.Task) { l[0].C = 0 }),
		"C below":  with(func(l []api.Task) { l[0].C = -3 }),
		"least C":  with(func(l []api.Task) { l[0].C = leastInt64 }),
		"T 0":      with(func(l []api.Task) { l[1].T = 0 }),
		"J below":  with(func(l []api.Task) { l[1].J = -1 }),
		"J most":   with(func(l []api.Task) { l[1].J = mostInt64 }),
		"Q 0":      with(func(l []api.Task) { l[2].Q = 0 }),
		"Q over C": with(func(l []api.Task) { l[2].Q = 5 }),
		"D over T": with(func(l []api.Task) { l[1].D = 21 }),
		"J over D": with(func(l []api.Task) { l[0].J = 7 }),
		"P 0":      with(func(l []api.Task) { l[0].P = 0 }),
		"same P":   with(func(l []api.Task) { l[2].P = 1 }),
		"same":     with(func(l []api.Task) { l[1].Name = "a" }),
	}
}

// P8.1

func TestDecodeOfTheExample(t *testing.T) {
	wantDecode(t, example(), []api.Raw{{Gap: 4, Late: 5, Work: 8, Cuts: []int{1, 7}}}, []api.Job{{Arrive: 4, Release: 6, Work: 3, Cuts: []int64{2, 1}}})
}

func TestDecodeOfNoNumbers(t *testing.T) {
	for _, l := range sets() {
		wantDecode(t, l, nil, nil)
		wantDecode(t, l, []api.Raw{}, nil)
		wantDecode(t, l, []api.Raw{{}}, []api.Job{{Work: 1}})
	}
}

func TestDecodeOfOneTaskAloneAndInTurns(t *testing.T) {
	l := three()
	wantDecode(t, l, []api.Raw{{Gap: 3}, {}, {Gap: 1, Late: 1}, {Work: 2}}, []api.Job{
		{Arrive: 3, Release: 3, Work: 1}, {Arrive: 13, Release: 13, Work: 1}, {Arrive: 24, Release: 25, Work: 1}, {Arrive: 34, Release: 34, Work: 3},
	})
	wantDecode(t, l, []api.Raw{{Task: 2}, {Task: 2, Gap: 5}, {Task: 2}}, []api.Job{
		{Task: 2, Work: 1}, {Task: 2, Arrive: 12, Release: 12, Work: 1}, {Task: 2, Arrive: 19, Release: 19, Work: 1},
	})
	wantDecode(t, l, []api.Raw{{Task: 1, Gap: 9}, {Gap: 50}, {Task: 2}, {Task: 1, Gap: 2}, {}, {Task: 2, Gap: 1}, {Task: 1}}, []api.Job{
		{Task: 1, Arrive: 9, Release: 9, Work: 1}, {Arrive: 50, Release: 50, Work: 1}, {Task: 2, Work: 1},
		{Task: 1, Arrive: 31, Release: 31, Work: 1}, {Arrive: 60, Release: 60, Work: 1}, {Task: 2, Arrive: 8, Release: 8, Work: 1},
		{Task: 1, Arrive: 51, Release: 51, Work: 1},
	})
}

// What is ahead of a job is when its task's last one arrived, not when it was released.
func TestDecodeBehindALateOne(t *testing.T) {
	wantDecode(t, three(), []api.Raw{{Late: 2}, {Late: 1}, {}}, []api.Job{
		{Release: 2, Work: 1}, {Arrive: 10, Release: 11, Work: 1}, {Arrive: 20, Release: 20, Work: 1},
	})
}

func TestDecodeOfTasks(t *testing.T) {
	for _, x := range []struct{ raw, of, task int }{
		{0, 3, 0}, {1, 3, 1}, {2, 3, 2}, {3, 3, 0}, {4, 3, 1}, {-1, 3, 2}, {-2, 3, 1}, {-3, 3, 0}, {-4, 3, 2},
		{mostInt, 3, 1}, {leastInt, 3, 1}, {mostInt, 1, 0}, {leastInt, 1, 0}, {-1, 1, 0}, {7, 1, 0},
		{mostInt, 1024, 1023}, {leastInt, 1024, 0}, {-1, 1024, 1023}, {1024, 1024, 0}, {1023, 1024, 1023}, {2047, 1024, 1023},
	} {
		wantDecode(t, many(x.of), []api.Raw{{Task: x.raw}}, []api.Job{{Task: x.task, Work: 1}})
	}
}

func TestDecodeOfGaps(t *testing.T) {
	for _, x := range []struct {
		gap    int
		arrive int64
	}{
		{0, 0}, {1, 1}, {maxGap - 1, maxGap - 1}, {maxGap, 0}, {maxGap + 1, 1}, {2*maxGap - 1, maxGap - 1}, {2 * maxGap, 0},
		{-1, maxGap - 1}, {-2, maxGap - 2}, {-maxGap, 0}, {-maxGap - 1, maxGap - 1}, {1 - maxGap, 1}, {mostInt, maxGap - 1}, {leastInt, 0}, {leastInt + 1, 1},
	} {
		wantDecode(t, example(), []api.Raw{{Gap: x.gap}, {Gap: x.gap}}, []api.Job{
			{Arrive: x.arrive, Release: x.arrive, Work: 1}, {Arrive: 2*x.arrive + 9, Release: 2*x.arrive + 9, Work: 1},
		})
	}
}

func TestDecodeOfLates(t *testing.T) {
	for _, x := range []struct {
		l       []api.Task
		late    int
		release int64
	}{
		{example(), 0, 0}, {example(), 1, 1}, {example(), 2, 2}, {example(), 3, 0}, {example(), 4, 1}, {example(), -1, 2}, {example(), -3, 0}, {example(), -4, 2},
		{example(), mostInt, 1}, {example(), leastInt, 1},
		{least(), 0, 0}, {least(), 1, 0}, {least(), -1, 0}, {least(), mostInt, 0}, {least(), leastInt, 0},
		{late(), maxTime - 2, maxTime - 2}, {late(), maxTime - 1, maxTime - 1}, {late(), maxTime, 0}, {late(), -1, maxTime - 1},
		{late(), mostInt, restOf(mostInt, maxTime)}, {late(), leastInt, restOf(leastInt, maxTime)},
	} {
		wantDecode(t, x.l, []api.Raw{{Late: x.late}}, []api.Job{{Release: x.release, Work: 1}})
		wantDecode(t, x.l, []api.Raw{{Late: x.late, Gap: 6}}, []api.Job{{Arrive: 6, Release: 6 + x.release, Work: 1}})
	}
}

func TestDecodeOfWorks(t *testing.T) {
	for _, x := range []struct {
		l    []api.Task
		raw  int
		work int64
	}{
		{example(), 0, 1}, {example(), 1, 2}, {example(), 2, 3}, {example(), 3, 1}, {example(), 8, 3}, {example(), -1, 3}, {example(), -2, 2}, {example(), -3, 1},
		{example(), mostInt, 2}, {example(), leastInt, 2},
		{least(), 0, 1}, {least(), 1, 1}, {least(), -1, 1}, {least(), mostInt, 1}, {least(), leastInt, 1},
		{wide(), 0, 1}, {wide(), maxTime - 1, maxTime}, {wide(), maxTime, 1}, {wide(), -1, maxTime},
		{wide(), mostInt, 1 + restOf(mostInt, maxTime)}, {wide(), leastInt, 1 + restOf(leastInt, maxTime)},
	} {
		wantDecode(t, x.l, []api.Raw{{Work: x.raw}}, []api.Job{{Work: x.work}})
	}
}

// cutTask is a set of one task with that work and sections.
func cutTask(c, q int64) []api.Task {
	t := max(100, c)
	return []api.Task{{Name: "a", C: c, T: t, D: t, Q: q, P: 1}}
}

func TestDecodeOfCuts(t *testing.T) {
	for _, x := range []struct {
		c, q int64
		work int
		cuts []int
		want []int64
	}{
		{10, 3, 9, nil, nil},
		{10, 3, 9, []int{}, nil},
		{10, 3, 9, []int{0}, []int64{1}},
		{10, 3, 9, []int{2}, []int64{3}},
		{10, 3, 9, []int{3}, []int64{1}},
		{10, 3, 9, []int{-1}, []int64{3}},
		{10, 3, 9, []int{-3, -4}, []int64{1, 3}},
		{10, 3, 9, []int{leastInt, mostInt}, []int64{2, 2}},
		{10, 3, 9, []int{2, 2, 2, 2}, []int64{3, 3, 3, 1}},
		{10, 3, 9, []int{2, 2, 2, 2, 2, 2}, []int64{3, 3, 3, 1}},
		{10, 3, 9, []int{2, 2, 1, 5, 9}, []int64{3, 3, 2, 2}}, // 5 by 2, not by 3, as but 2 are left
		{10, 3, 9, []int{2, 2, 2, leastInt, mostInt}, []int64{3, 3, 3, 1}},
		{10, 1, 3, []int{7, -7, mostInt, leastInt, 0}, []int64{1, 1, 1, 1}},
		{10, 10, 9, []int{9}, []int64{10}},
		{10, 10, 9, []int{9, 0}, []int64{10}},
		{10, 10, 9, []int{10, 10, 10}, []int64{1, 2, 4}},
		{10, 10, 9, []int{-1, -1}, []int64{10}},
		{10, 10, 4, []int{9}, []int64{5}}, // by the 5 that are left
		{10, 10, 4, []int{5, 5}, []int64{1, 2}},
		{10, 10, 0, []int{9, 9}, []int64{1}},
		{10, 10, 10, []int{9, 9}, []int64{1}},
		{1, 1, 5, []int{5, 5, 5}, []int64{1}},
		{maxTime, maxTime, -1, []int{-1, -1}, []int64{maxTime}},
		{maxTime, maxTime, -1, []int{-2, mostInt, 0}, []int64{maxTime - 1, 1}},
		{maxTime, maxTime, -1, []int{maxTime, leastInt}, []int64{1, 1 + restOf(leastInt, maxTime-1)}},
	} {
		l := cutTask(x.c, x.q)
		wantDecode(t, l, []api.Raw{{Work: x.work, Cuts: x.cuts}}, []api.Job{{Work: 1 + restOf(x.work, x.c), Cuts: x.want}})
	}
}

// The cuts of one job say nothing of those of the next one.
func TestDecodeOfCutsOfMoreJobs(t *testing.T) {
	wantDecode(t, cutTask(3, 3), []api.Raw{{Work: 2, Cuts: []int{2, 2}}, {Work: 2, Cuts: []int{0, 1, 1}}, {Work: 2}, {Work: 1, Cuts: []int{1}}}, []api.Job{
		{Work: 3, Cuts: []int64{3}},
		{Arrive: 100, Release: 100, Work: 3, Cuts: []int64{1, 2}},
		{Arrive: 200, Release: 200, Work: 3},
		{Arrive: 300, Release: 300, Work: 2, Cuts: []int64{2}},
	})
}

func TestDecodeOfMoreCutsThanWork(t *testing.T) {
	cuts := make([]int, 1<<16)
	for i := range cuts {
		cuts[i] = i * 7
	}
	l := cutTask(100, 4)
	raw := []api.Raw{{Work: 99, Cuts: cuts}, {Work: 49, Cuts: cuts}}
	wantDecode(t, l, raw, modelDecode(l, raw))
	sum := int64(0)
	for _, cut := range script.Decode(l, raw)[1].Cuts {
		sum += cut
	}
	if sum != 50 {
		t.Errorf("Decode of more cuts than there is work: sections of %d, want 50", sum)
	}
}

func TestDecodeOfMoreThanMaxJobs(t *testing.T) {
	for _, n := range []int{maxJobs - 1, maxJobs, maxJobs + 1, 3 * maxJobs} {
		raw := make([]api.Raw, n)
		for i := range raw {
			raw[i] = api.Raw{Task: i / 2, Gap: i, Late: -i, Work: i, Cuts: []int{i}}
		}
		jobs := script.Decode(three(), raw)
		if len(jobs) != min(n, maxJobs) {
			t.Errorf("Decode of %d: %d jobs", n, len(jobs))
		}
		wantDecode(t, three(), raw, modelDecode(three(), raw))
		wantDecode(t, three(), raw, script.Decode(three(), raw[:min(n, maxJobs)]))
	}
}

// rawOf is a raw job of these numbers.
func rawOf(task, gap, late, work int, cuts ...int) api.Raw {
	return api.Raw{Task: task, Gap: gap, Late: late, Work: work, Cuts: cuts}
}

// All fields at their ends at once, alone and behind each other.
func TestDecodeOfEnds(t *testing.T) {
	ends := []int{leastInt, leastInt + 1, -maxGap, -1, 0, 1, maxGap - 1, maxGap, mostInt - 1, mostInt}
	for _, l := range sets() {
		var all []api.Raw
		for _, a := range ends {
			for _, b := range ends {
				for _, r := range []api.Raw{rawOf(a, b, a, b, a, b, a), rawOf(b, a, a, b), rawOf(a, a, b, b, b), rawOf(a, b, b, a, b, b, b, b, b, b)} {
					wantDecode(t, l, []api.Raw{r}, modelDecode(l, []api.Raw{r}))
					all = append(all, r)
				}
			}
		}
		wantDecode(t, l, all, modelDecode(l, all))
	}
}

func TestDecodeOfWrongSets(t *testing.T) {
	for what, l := range wrongSets() {
		for _, raw := range [][]api.Raw{nil, {}, {{}}, {{Task: 1, Gap: 2, Late: 3, Work: 4, Cuts: []int{5}}}, {rawOf(leastInt, leastInt, leastInt, leastInt, leastInt)}} {
			if jobs := script.Decode(l, raw); len(jobs) != 0 {
				t.Errorf("Decode, of a set that may not be (%s): %s", what, shown(jobs))
			}
			wantDecode(t, l, raw, nil)
		}
	}
}

// P8.2

// job is one of the first of three, that is legal with room on all sides, but changed.
func job(change func(j *api.Job)) []api.Job {
	j := api.Job{Task: 0, Arrive: 5, Release: 6, Work: 2, Cuts: []int64{1}}
	change(&j)
	return []api.Job{j}
}

func TestLegalOfOne(t *testing.T) {
	l := three()
	wantRight(t, l, job(func(*api.Job) {}))
	for what, set := range map[string]struct {
		set   func(j *api.Job, n int64)
		right []int64
		wrong []int64
	}{
		"Task":    {func(j *api.Job, n int64) { *j = api.Job{Task: int(n), Work: 1} }, []int64{0, 1, 2}, []int64{-1, 3, 4, -3, leastInt64, mostInt64, 1 << 32, -1 << 32}},
		"Arrive":  {func(j *api.Job, n int64) { j.Arrive, j.Release = n, n }, []int64{0, 1, maxGap - 1, maxGap, maxClock - 1, maxClock}, []int64{-1, maxClock + 1, -maxClock, leastInt64, mostInt64, mostInt64 - 1}},
		"Release": {func(j *api.Job, n int64) { j.Release = n }, []int64{5, 6, 7}, []int64{4, 8, 0, -1, 9, leastInt64, mostInt64}},
		"last":    {func(j *api.Job, n int64) { j.Arrive, j.Release = maxClock, n }, []int64{maxClock, maxClock + 1, maxClock + 2}, []int64{maxClock - 1, maxClock + 3, 5, leastInt64, mostInt64}},
		"Work":    {func(j *api.Job, n int64) { j.Work = n }, []int64{1, 2, 3}, []int64{0, 4, -1, leastInt64, mostInt64}},
		"bare":    {func(j *api.Job, n int64) { j.Work, j.Cuts = n, nil }, []int64{1, 2, 3}, []int64{0, 4, -1, leastInt64, mostInt64}},
		"cut":     {func(j *api.Job, n int64) { j.Work, j.Cuts = 3, []int64{n} }, []int64{1, 2}, []int64{0, 3, 4, -1, leastInt64, mostInt64}},
		"second":  {func(j *api.Job, n int64) { j.Work, j.Cuts = 3, []int64{1, n} }, []int64{1, 2}, []int64{0, 3, -1, leastInt64, mostInt64}},
	} {
		for _, n := range set.right {
			jobs := job(func(j *api.Job) { set.set(j, n) })
			t.Run(fmt.Sprint(what, " ", n), func(t *testing.T) { wantRight(t, l, jobs) })
		}
		for _, n := range set.wrong {
			jobs := job(func(j *api.Job) { set.set(j, n) })
			t.Run(fmt.Sprint(what, " ", n), func(t *testing.T) { wantWrong(t, l, jobs) })
		}
	}
}

func TestLegalOfNoJobs(t *testing.T) {
	for _, l := range sets() {
		for _, jobs := range [][]api.Job{nil, {}} {
			wantRight(t, l, jobs)
			wantEncode(t, l, jobs, nil, true)
			wantCount(t, l, jobs, nil)
		}
	}
}

// A task without jitter is released when it arrives.
func TestLegalWithoutJitter(t *testing.T) {
	one := func(arrive, release int64) []api.Job {
		return []api.Job{{Task: 1, Arrive: arrive, Release: release, Work: 1}}
	}
	for _, at := range []int64{0, 4, maxClock} {
		wantRight(t, three(), one(at, at))
		wantWrong(t, three(), one(at, at+1))
		wantWrong(t, three(), one(at, at-1))
	}
}

func TestLegalOfCuts(t *testing.T) {
	of := func(c, q, work int64, cuts ...int64) ([]api.Task, []api.Job) {
		return cutTask(c, q), []api.Job{{Work: work, Cuts: cuts}}
	}
	right := func(c, q, work int64, cuts ...int64) {
		t.Helper()
		l, jobs := of(c, q, work, cuts...)
		wantRight(t, l, jobs)
	}
	wrong := func(c, q, work int64, cuts ...int64) {
		t.Helper()
		l, jobs := of(c, q, work, cuts...)
		wantWrong(t, l, jobs)
	}
	right(10, 3, 10)
	right(10, 3, 10, 3, 3, 3, 1) // together just Work
	wrong(10, 3, 10, 3, 3, 3, 2) // one more
	right(10, 3, 10, 3, 3, 3)
	right(10, 3, 3, 1, 1, 1)
	wrong(10, 3, 3, 1, 1, 1, 1)
	right(10, 3, 4, 3, 1)
	wrong(10, 3, 4, 3, 2)
	wrong(10, 3, 2, 3)
	right(10, 3, 3, 3)
	wrong(10, 3, 10, 4)
	wrong(10, 3, 10, 1, 4)
	wrong(10, 3, 10, 3, 0)
	wrong(10, 3, 10, 0, 3)
	wrong(10, 3, 10, 3, -1, 3)
	wrong(10, 3, 3, 3, -1)
	wrong(10, 3, 3, 3, 0)
	right(10, 1, 10, 1, 1, 1, 1, 1, 1, 1, 1, 1, 1)
	wrong(10, 1, 10, 1, 1, 1, 1, 1, 1, 1, 1, 1, 1, 1)
	wrong(10, 1, 10, 2)
	right(10, 10, 10, 10)
	wrong(10, 10, 10, 11)
	wrong(10, 10, 9, 10)
	right(maxTime, maxTime, maxTime, maxTime)
	right(maxTime, maxTime, maxTime, maxTime-1, 1)
	wrong(maxTime, maxTime, maxTime, maxTime, 1)
	wrong(maxTime, maxTime, maxTime, maxTime, maxTime)
	wrong(maxTime, maxTime, maxTime, maxTime+1)
	// Sums that would go round.
	wrong(10, 3, 10, mostInt64, mostInt64, 3)
	wrong(10, 3, 10, leastInt64, leastInt64, 1)
	wrong(maxTime, maxTime, 5, mostInt64, 1, leastInt64, 1)
}

// two are jobs of the same task, that arrive so far apart, with jobs of others between.
func two(first, apart int64) []api.Job {
	return []api.Job{
		{Task: 0, Arrive: first, Release: first + 2, Work: 1},
		{Task: 1, Arrive: first + 3, Release: first + 3, Work: 1},
		{Task: 0, Arrive: first + apart, Release: first + apart, Work: 1},
		{Task: 2, Arrive: 0, Release: 0, Work: 1},
	}
}

func TestLegalOfArrivals(t *testing.T) {
	l := three() // T of task 0 is 10
	for _, first := range []int64{0, 1, 77, maxClock - 11, maxClock - 10} {
		wantRight(t, l, two(first, 10))
		for _, less := range []int64{9, 8, 1, 0, -1, -10, -first} {
			wantWrong(t, l, two(first, less))
		}
	}
	wantRight(t, l, two(0, 11))
	wantRight(t, l, two(maxClock-11, 11))
	wantWrong(t, l, two(maxClock-10, 11))
	wantWrong(t, l, two(maxClock-9, 10))
	wantWrong(t, l, two(0, mostInt64))
	wantWrong(t, l, two(0, leastInt64))
	wantWrong(t, l, two(maxClock, mostInt64-maxClock))
	// It is held against the one that stands ahead of it last, whatever the greatest Release was.
	third := func(at int64) []api.Job { return append(two(0, 10), api.Job{Arrive: at, Release: at, Work: 1}) }
	wantRight(t, l, third(20))
	wantWrong(t, l, third(19))
	wantWrong(t, l, third(10))
	wantWrong(t, l, third(0))
	// Tasks in each other's order: others may arrive earlier than those ahead.
	wantRight(t, l, []api.Job{{Task: 1, Arrive: 50, Release: 50, Work: 1}, {Task: 0, Arrive: 0, Release: 0, Work: 1}, {Task: 2, Arrive: 49, Release: 49, Work: 1}})
	wantWrong(t, l, []api.Job{{Task: 1, Arrive: 50, Release: 50, Work: 1}, {Task: 1, Arrive: 0, Release: 0, Work: 1}})
}

// rowOf are n jobs of one task, as soon as may be.
func rowOf(n int) []api.Job {
	jobs := make([]api.Job, n)
	for i := range jobs {
		jobs[i] = api.Job{Arrive: int64(9 * i), Release: int64(9*i + i%3), Work: int64(1 + i%3)}
	}
	return jobs
}

func TestLegalOfManyJobs(t *testing.T) {
	l := example()
	wantLegal(t, l, rowOf(maxJobs-1), true)
	wantLegal(t, l, rowOf(maxJobs), true)
	wantCount(t, l, rowOf(maxJobs), map[int]int{0: maxJobs})
	wantWrong(t, l, rowOf(maxJobs+1))
	wantWrong(t, l, rowOf(2*maxJobs))
	raw, ok := script.Encode(l, rowOf(maxJobs))
	if len(raw) != maxJobs || !ok {
		t.Errorf("Encode of %d jobs: %d, %v", maxJobs, len(raw), ok)
	}
	wantDecode(t, l, raw, rowOf(maxJobs))
	// All jobs are looked at, up to the last one.
	for _, at := range []int{0, 1, maxJobs / 2, maxJobs - 1} {
		jobs := rowOf(maxJobs)
		jobs[at].Work = 4
		wantWrong(t, l, jobs)
	}
}

func TestEncodeOfLateArrivals(t *testing.T) {
	l := three()
	// The first of its task could arrive at 0.
	first := func(at int64) []api.Job { return []api.Job{{Task: 1, Arrive: at, Release: at, Work: 2}} }
	wantEncode(t, l, first(0), []api.Raw{{Task: 1, Work: 1}}, true)
	wantEncode(t, l, first(maxGap-1), []api.Raw{{Task: 1, Gap: maxGap - 1, Work: 1}}, true)
	for _, at := range []int64{maxGap, maxGap + 1, 2 * maxGap, 1 << 32, maxClock} {
		wantEncode(t, l, first(at), nil, false)
		wantLegal(t, l, first(at), true)
		wantCount(t, l, first(at), map[int]int{1: 1})
	}
	// A further one could arrive T behind the last one of its task.
	further := func(later int64) []api.Job {
		return append(first(5), api.Job{Task: 0, Work: 1}, api.Job{Task: 1, Arrive: 25 + later, Release: 25 + later, Work: 1})
	}
	wantEncode(t, l, further(0), []api.Raw{{Task: 1, Gap: 5, Work: 1}, {}, {Task: 1}}, true)
	wantEncode(t, l, further(maxGap-1), []api.Raw{{Task: 1, Gap: 5, Work: 1}, {}, {Task: 1, Gap: maxGap - 1}}, true)
	for _, later := range []int64{maxGap, maxGap + 1, 1 << 32, maxClock - 25} {
		wantEncode(t, l, further(later), nil, false)
		wantLegal(t, l, further(later), true)
		wantCount(t, l, further(later), map[int]int{0: 1, 1: 2})
	}
	// One in the middle, with ones behind it that come in time.
	wantEncode(t, l, append(first(maxGap), api.Job{Work: 1}), nil, false)
	wantEncode(t, l, append(first(maxGap), first(maxGap+20)...), nil, false)
}

func TestEncodeOfTheExample(t *testing.T) {
	jobs := []api.Job{{Arrive: 4, Release: 6, Work: 3, Cuts: []int64{2, 1}}}
	wantEncode(t, example(), jobs, []api.Raw{{Gap: 4, Late: 2, Work: 2, Cuts: []int{1, 0}}}, true)
}

func TestEncodeOfEnds(t *testing.T) {
	wantEncode(t, wide(), []api.Job{{Work: maxTime, Cuts: []int64{maxTime}}}, []api.Raw{{Work: maxTime - 1, Cuts: []int{maxTime - 1}}}, true)
	wantEncode(t, late(), []api.Job{{Arrive: 3, Release: maxTime + 2, Work: 1, Cuts: []int64{1}}}, []api.Raw{{Gap: 3, Late: maxTime - 1, Cuts: []int{0}}}, true)
	wantEncode(t, least(), []api.Job{{Work: 1}, {Arrive: 1, Release: 1, Work: 1}}, []api.Raw{{}, {}}, true)
	wantEncode(t, many(1024), []api.Job{{Task: 1023, Work: 2, Cuts: []int64{2}}}, []api.Raw{{Task: 1023, Work: 1, Cuts: []int{1}}}, true)
}

// smaller are raw numbers with just one number less than r has, for all numbers from 0 up to it, or without its last cut.
func smaller(r api.Raw) []api.Raw {
	var l []api.Raw
	less := func(of int, set func(r *api.Raw, n int)) {
		for n := range of {
			c := r
			c.Cuts = slices.Clone(r.Cuts)
			set(&c, n)
			l = append(l, c)
		}
	}
	less(r.Gap, func(r *api.Raw, n int) { r.Gap = n })
	less(r.Late, func(r *api.Raw, n int) { r.Late = n })
	less(r.Work, func(r *api.Raw, n int) { r.Work = n })
	for i, cut := range r.Cuts {
		less(cut, func(r *api.Raw, n int) { r.Cuts[i] = n })
	}
	less(min(1, len(r.Cuts)), func(r *api.Raw, _ int) { r.Cuts = r.Cuts[1:] })
	less(min(1, len(r.Cuts)), func(r *api.Raw, _ int) { r.Cuts = r.Cuts[:len(r.Cuts)-1] })
	return l
}

// All jobs of a small task, alone and behind another one: what Encode tells are the least numbers of which Decode tells them.
func TestEncodeTellsTheLeast(t *testing.T) {
	l := []api.Task{{Name: "z", C: 1, T: 1, D: 1, Q: 1, P: 1}, {Name: "a", C: 4, T: 8, D: 8, J: 2, Q: 3, P: 2}}
	ahead := api.Job{Task: 1, Arrive: 1, Release: 1, Work: 1}
	for _, cuts := range cutsUpTo(4) {
		for work := range int64(6) {
			for arrive := int64(8); arrive < 12; arrive++ {
				for late := int64(-1); late < 4; late++ {
					j := api.Job{Task: 1, Arrive: arrive, Release: arrive + late, Work: work, Cuts: cuts}
					wantJobs(t, l, []api.Job{j})
					jobs := []api.Job{ahead, j}
					wantJobs(t, l, jobs)
					raw, ok := script.Encode(l, jobs)
					if !ok {
						continue
					}
					if raw[1].Task != 1 || len(raw[1].Cuts) != len(cuts) {
						t.Fatalf("Encode of %v: %v", jobs, raw)
					}
					wantDecode(t, l, raw, jobs)
					for _, less := range smaller(raw[1]) {
						if sameJobs(script.Decode(l, []api.Raw{raw[0], less}), jobs) {
							t.Fatalf("Encode of %v: %v, but %v would do", jobs, raw[1], less)
						}
					}
				}
			}
		}
	}
}

// cutsUpTo are all rows of at most four numbers from 0 to most.
func cutsUpTo(most int64) [][]int64 {
	all := [][]int64{nil}
	for at := 0; at < len(all) && len(all[at]) < 4; at++ {
		for n := range most + 1 {
			all = append(all, append(slices.Clone(all[at]), n))
		}
	}
	return all
}

func TestCount(t *testing.T) {
	l := three()
	wantCount(t, l, nil, nil)
	wantCount(t, l, []api.Job{{Work: 1}}, map[int]int{0: 1})
	wantCount(t, l, []api.Job{{Task: 2, Work: 1}}, map[int]int{2: 1})
	wantCount(t, l, two(4, 10), map[int]int{0: 2, 1: 1, 2: 1})
	wantCount(t, l, two(4, 10)[:3], map[int]int{0: 2, 1: 1}) // none of 2
	wantCount(t, l, two(4, 9), nil)
	for _, l := range sets() {
		var jobs []api.Job
		want := map[int]int{}
		for i := range l {
			if i%3 != 1 {
				jobs = append(jobs, api.Job{Task: i, Work: 1})
				want[i]++
			}
		}
		for i := range l {
			if i%2 == 0 && i%3 != 1 {
				jobs = append(jobs, api.Job{Task: i, Arrive: l[i].T, Release: l[i].T, Work: 1})
				want[i]++
			}
		}
		wantCount(t, l, jobs, want)
		n := script.Count(l, jobs)
		for i := range l {
			if _, has := n[i]; n[i] != want[i] || has != (want[i] > 0) {
				t.Errorf("Count: %d of place %d, %v, want %d", n[i], i, has, want[i])
			}
		}
	}
}

func TestJobsOfWrongSets(t *testing.T) {
	for what, l := range wrongSets() {
		for _, jobs := range [][]api.Job{nil, {}, {{Work: 1}}, two(0, 10), job(func(*api.Job) {}), {{Task: -1}}, {{}}, rowOf(maxJobs + 1)} {
			t.Run(what, func(t *testing.T) { wantWrong(t, l, jobs) })
		}
	}
}

// A wrong job anywhere makes all jobs not legal.
func TestJobsWithAWrongOne(t *testing.T) {
	l := three()
	for _, wrong := range []api.Job{
		{Task: -1, Work: 1}, {Task: 3, Work: 1}, {Task: leastInt, Work: 1}, {Task: mostInt, Work: 1},
		{Task: 1, Arrive: -1, Release: -1, Work: 1}, {Task: 1, Arrive: 500, Release: 501, Work: 1}, {Task: 1, Arrive: 500, Release: 500}, {Task: 1, Arrive: 500, Release: 500, Work: 6},
		{Task: 1, Arrive: 500, Release: 500, Work: 5, Cuts: []int64{6}}, {Task: 1, Arrive: 500, Release: 500, Work: 5, Cuts: []int64{3, 3}},
		{}, {Task: leastInt, Arrive: leastInt64, Release: leastInt64, Work: leastInt64, Cuts: []int64{leastInt64}},
		{Task: mostInt, Arrive: mostInt64, Release: mostInt64, Work: mostInt64, Cuts: []int64{mostInt64, mostInt64}},
	} {
		for at := range 5 {
			wantWrong(t, l, slices.Insert(two(0, 10), at, wrong))
		}
		wantWrong(t, l, []api.Job{wrong})
	}
}

// P8.3

// drawnSet is one that may be.
func drawnSet(draw *rand.Rand) []api.Task {
	l := make([]api.Task, 1+draw.Intn(5))
	for i := range l {
		c := 1 + draw.Int63n(6)
		j := draw.Int63n(4)
		d := c + j + draw.Int63n(8)
		l[i] = api.Task{Name: fmt.Sprint("t", i), C: c, T: d + draw.Int63n(8), D: d, J: j, Q: 1 + draw.Int63n(c), P: 1 + i}
	}
	return l
}

// drawnInt is small, below 0, near what it is the rest by, or anything.
func drawnInt(draw *rand.Rand) int {
	switch draw.Intn(5) {
	case 0:
		return draw.Intn(8)
	case 1:
		return -draw.Intn(20)
	case 2:
		return draw.Intn(5)*maxGap + draw.Intn(3) - 1
	case 3:
		return []int{leastInt, mostInt, leastInt + 1, mostInt - 1}[draw.Intn(4)]
	}
	return int(draw.Uint64())
}

func drawnRaws(draw *rand.Rand, n int) []api.Raw {
	raw := make([]api.Raw, n)
	for i := range raw {
		raw[i] = api.Raw{Task: drawnInt(draw), Gap: drawnInt(draw), Late: drawnInt(draw), Work: drawnInt(draw)}
		for range draw.Intn(8) {
			raw[i].Cuts = append(raw[i].Cuts, drawnInt(draw))
		}
	}
	return raw
}

// wantAround asks that what raw is decoded to is legal, and encoded, and decoded again, the same.
func wantAround(t *testing.T, l []api.Task, raw []api.Raw) {
	t.Helper()
	jobs := script.Decode(l, raw)
	wantDecode(t, l, raw, modelDecode(l, raw))
	wantRight(t, l, jobs)
	again, ok := script.Encode(l, jobs)
	if !ok {
		t.Fatalf("Encode of what %s is decoded to, of %s: false", shown(raw), shown(l))
	}
	wantDecode(t, l, again, jobs)
	wantEncode(t, l, script.Decode(l, again), again, true)
}

func TestDrawnNumbersGoAround(t *testing.T) {
	draw := rand.New(rand.NewSource(8))
	for range 3000 {
		wantAround(t, drawnSet(draw), drawnRaws(draw, draw.Intn(12)))
	}
	for _, l := range sets() {
		for range 50 {
			wantAround(t, l, drawnRaws(draw, draw.Intn(30)))
		}
	}
}

// As many jobs as may be, all as late as may be, of the greatest T: the last one still arrives by MaxClock.
func TestTheLatestOfAllGoAround(t *testing.T) {
	for _, l := range [][]api.Task{wide(), late(), least(), example()} {
		raw := make([]api.Raw, maxJobs)
		for i := range raw {
			raw[i] = api.Raw{Gap: -1, Late: -1, Work: -1, Cuts: []int{-1}}
		}
		jobs := script.Decode(l, raw)
		if want := maxJobs*int64(maxGap-1) + (maxJobs-1)*l[0].T; len(jobs) != maxJobs || jobs[maxJobs-1].Arrive != want {
			t.Fatalf("Decode of the latest: %d jobs, %s", len(jobs), shown(jobs[maxJobs-1:]))
		}
		wantLegal(t, l, jobs, true)
		again, ok := script.Encode(l, jobs)
		if !ok {
			t.Fatal("Encode of the latest: false")
		}
		wantDecode(t, l, again, jobs)
	}
}

// Jobs that are near legal ones: each call tells what its model does.
func TestDrawnJobs(t *testing.T) {
	draw := rand.New(rand.NewSource(81))
	legal, encoded := 0, 0
	for range 20000 {
		l := drawnSet(draw)
		jobs := modelDecode(l, drawnRaws(draw, draw.Intn(7)))
		for range draw.Intn(3) {
			if len(jobs) > 0 {
				change(draw, &jobs[draw.Intn(len(jobs))])
			}
		}
		wantJobs(t, l, jobs)
		if raw, ok := script.Encode(l, jobs); ok {
			wantDecode(t, l, raw, jobs)
			encoded++
		}
		if script.Legal(l, jobs) {
			legal++
		}
	}
	if legal < 1000 || legal > 19000 || encoded == legal || encoded < 1000 {
		t.Errorf("of 20000 drawn jobs %d are legal, and %d encoded", legal, encoded)
	}
}

// change changes something of a job: a little, or wholly.
func change(draw *rand.Rand, j *api.Job) {
	n := draw.Int63n(5) - 2
	if draw.Intn(6) == 0 {
		n = int64(drawnInt(draw))
	}
	switch draw.Intn(7) {
	case 0:
		j.Task += int(n)
	case 1:
		j.Arrive += n
	case 2:
		j.Release += n
	case 3:
		j.Arrive, j.Release = j.Arrive+n, j.Release+n
	case 4:
		j.Work += n
	case 5:
		j.Cuts = append(j.Cuts, n)
	case 6:
		if len(j.Cuts) > 0 {
			j.Cuts[draw.Intn(len(j.Cuts))] += n
		}
	}
}

// Any numbers at all, in all fields, and sets that are anything too: each call ends, and none panics (P1).
func TestAnythingIsAnswered(t *testing.T) {
	draw := rand.New(rand.NewSource(82))
	n64 := func() int64 { return int64(drawnInt(draw)) }
	for range 20000 {
		l := drawnSet(draw)
		if draw.Intn(2) == 0 {
			l[draw.Intn(len(l))] = api.Task{Name: "x", C: n64(), T: n64(), D: n64(), J: n64(), Q: n64(), P: drawnInt(draw)}
		}
		jobs := make([]api.Job, draw.Intn(4))
		for i := range jobs {
			jobs[i] = api.Job{Task: drawnInt(draw), Arrive: n64(), Release: n64(), Work: n64(), Cuts: []int64{n64(), n64()}}
		}
		decoded := script.Decode(l, drawnRaws(draw, draw.Intn(4)))
		if len(decoded) > 0 && !script.Legal(l, decoded) {
			t.Errorf("of %s what is decoded, %s, is not legal", shown(l), shown(decoded))
		}
		raw, ok := script.Encode(l, jobs)
		if legal := script.Legal(l, jobs); ok && !legal || !ok && len(raw) > 0 || !legal && len(script.Count(l, jobs)) > 0 {
			t.Errorf("of %s, jobs %s: Encode %s, %v, Legal %v", shown(l), shown(jobs), shown(raw), ok, legal)
		}
	}
}

// R3, R4

// What is told shares no memory with what is handed in, nor its rows with each other.
func TestDecodeSharesNothing(t *testing.T) {
	cuts := []int{0, 1, 0}
	l, raw := cutTask(9, 3), []api.Raw{{Work: 8, Cuts: cuts}, {Work: 8, Cuts: cuts}, {Work: 8, Cuts: cuts[:1]}}
	want := modelDecode(l, raw)
	jobs := script.Decode(l, raw)
	other := script.Decode(l, raw)
	for i := range other {
		clear(other[i].Cuts)
		_ = append(other[i].Cuts, 7, 7, 7)
	}
	clear(other)
	for i := range cuts {
		cuts[i] = 2
	}
	clear(raw)
	clear(l)
	if !sameJobs(jobs, want) {
		t.Errorf("Decode: what was told has become %v, want %v", jobs, want)
	}
	for i := range jobs {
		for k := range jobs[i].Cuts {
			jobs[i].Cuts[k] = 77
		}
		_ = append(jobs[i].Cuts, 77, 77, 77)
		for n := i + 1; n < len(jobs); n++ {
			if !sameJob(jobs[n], want[n]) {
				t.Errorf("Decode: job %d has become %v when the cuts of job %d were changed", n, jobs[n], i)
			}
		}
	}
}

func TestEncodeSharesNothing(t *testing.T) {
	cuts := []int64{3, 1, 2}
	l := cutTask(9, 3)
	jobs := []api.Job{{Work: 8, Cuts: cuts}, {Arrive: 100, Release: 100, Work: 7, Cuts: cuts}, {Arrive: 200, Release: 200, Work: 7, Cuts: cuts[:1]}}
	want, _ := modelEncode(l, jobs)
	raw, ok := script.Encode(l, jobs)
	clear(cuts)
	clear(jobs)
	clear(l)
	if !ok || !sameRaws(raw, want) {
		t.Errorf("Encode: what was told has become %v, want %v", raw, want)
	}
	for i := range raw {
		for k := range raw[i].Cuts {
			raw[i].Cuts[k] = 77
		}
		_ = append(raw[i].Cuts, 77, 77, 77)
		for n := i + 1; n < len(raw); n++ {
			if !sameRaw(raw[n], want[n]) {
				t.Errorf("Encode: numbers %d have become %v when the cuts of numbers %d were changed", n, raw[n], i)
			}
		}
	}
}

// Nothing is kept from call to call: the same calls have the same answers, and a Count is the caller's.
func TestNothingIsKept(t *testing.T) {
	l := three()
	raw := []api.Raw{{Task: 1, Gap: 5, Work: 4, Cuts: []int{1, 2}}, {Task: 2, Late: 1}, {Task: 1, Gap: -1}}
	first := script.Decode(l, raw)
	count := script.Count(l, first)
	for range 3 {
		wantDecode(t, l, raw, first)
		wantRight(t, l, first)
		count[1] = 99
		wantCount(t, l, first, map[int]int{1: 2, 2: 1})
		script.Decode(example(), []api.Raw{{Gap: 99}, {Gap: 99}})
		script.Legal(l, two(0, 9))
	}
}
