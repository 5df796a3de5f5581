package tests

import (
	"math"
	"math/rand/v2"
	"slices"
	"testing"

	"loop.example/g00849/impl"
)

func interval(first, last int64, may bool, acting ...int64) impl.Interval {
	return impl.Interval{First: first, Last: last, Acting: acting, May: may}
}

// sampleIntervals are those of the document's examples.
func sampleIntervals() []impl.Interval {
	return []impl.Interval{interval(1, 2, true, 0, 1), interval(3, 3, false, -1, 1), interval(4, 6, true, 2, 3)}
}

// someIntervals returns valid intervals, some of them with the same acting set.
func someIntervals(r *rand.Rand) []impl.Interval {
	var list []impl.Interval
	n, first := 1+r.IntN(7), int64(1)
	for range 1 + r.IntN(9) {
		last := first + r.Int64N(4)*r.Int64N(3)
		acting := someActing(r, n)
		if len(list) > 0 && r.IntN(4) == 0 {
			acting = slices.Clone(list[r.IntN(len(list))].Acting)
		}
		list = append(list, interval(first, last, r.IntN(2) == 0, acting...))
		first = last + 1
	}
	return list
}

// singleIntervals are as many as there may be, of one epoch each.
func singleIntervals() []impl.Interval {
	var list []impl.Interval
	for n := range int64(60) {
		list = append(list, interval(n+1, n+1, n%3 == 1, n%16, -1))
	}
	return list
}

// rightIntervals are valid lists, each in a way of its own.
func rightIntervals() [][]impl.Interval {
	list := [][]impl.Interval{
		nil, {}, sampleIntervals(), singleIntervals(), {interval(1, 60, true, 3)}, {interval(1, 60, false, -1)}, {interval(1, 1, false, 0)}, {interval(1, 1, true, -1, -1, -1, -1, -1, -1, -1)},
		{interval(1, 59, true, 0, 1, 2, 3, 4, 5, 6), interval(60, 60, false, 15, 14, 13, 12, 11, 10, 9)}, {interval(1, 3, true, 5, 6), interval(4, 7, true, 5, 6), interval(8, 8, true, 5, 6)},
		{interval(1, 2, false, 0, 1), interval(3, 4, false, 1, 0), interval(5, 9, false, -1, -1)},
	}
	r := source(131)
	for range 40 {
		list = append(list, someIntervals(r))
	}
	return list
}

// wrongIntervals are not valid, each for a reason of its own.
func wrongIntervals() [][]impl.Interval {
	list := [][]impl.Interval{
		{{}}, {interval(0, 1, true, 0)}, {interval(2, 3, true, 0)}, {interval(1, 0, true, 0)}, {interval(1, 61, true, 0)}, {interval(1, -1, true, 0)}, {interval(-1, 1, true, 0)}, {interval(60, 60, true, 0)},
		sampleIntervals()[1:], sampleIntervals()[2:], append(sampleIntervals(), impl.Interval{}), append(sampleIntervals(), interval(6, 7, true, 0, 1)), append(sampleIntervals(), interval(8, 8, true, 0, 1)),
		append(sampleIntervals(), interval(7, 6, true, 0, 1)), append(sampleIntervals(), interval(7, 61, true, 0, 1)), append(sampleIntervals(), interval(7, 7, true, 0)), append(sampleIntervals(), interval(7, 7, true, 0, 1, 2)), append(sampleIntervals(), interval(7, 7, true)),
		append(singleIntervals(), interval(61, 61, true, 0, 1)), append(singleIntervals(), interval(61, 60, true, 0, 1)), append(singleIntervals(), interval(60, 60, true, 0, 1)), append(singleIntervals(), interval(1, 1, true, 0, 1)),
		{interval(1, 60, true, 0), interval(61, 60, false, 0)}, {interval(1, 60, true, 0), interval(61, 61, false, 0)}, {interval(1, 61, true, 0), interval(62, 62, true, 0)},
		{interval(1, 2, true, 0, 1), interval(4, 6, true, 2, 3)}, {interval(1, 3, true, 0, 1), interval(3, 6, true, 2, 3)}, {interval(3, 4, true, 0), interval(1, 2, true, 0)}, {interval(1, 2, true, 0), interval(1, 2, true, 0)},
		{interval(1, 2, true, 0), interval(3, 2, true, 0), interval(3, 3, true, 0)}, {interval(1, 2, true, 0, 1), interval(3, 4, true, 0)}, {interval(1, 2, true, 0), interval(3, 4, true, 0, 1)}, {interval(1, math.MaxInt64, true, 0), interval(math.MinInt64, 1, true, 0)},
	}
	for _, acting := range wrongActings() {
		list = append(list, []impl.Interval{interval(1, 2, true, acting...)}, []impl.Interval{interval(1, 2, true, acting...), interval(3, 3, false, acting...)})
		if len(acting) == 2 {
			list = append(list, []impl.Interval{interval(1, 2, true, 5, 6), interval(3, 3, false, acting...)})
		}
	}
	for _, n := range farNumbers() {
		list = append(list, []impl.Interval{interval(n, 1, true, 0)}, []impl.Interval{interval(1, n, true, 0)}, []impl.Interval{interval(n, n, true, 0)}, append(sampleIntervals(), interval(n, 8, true, 2, 3)), append(sampleIntervals(), interval(7, n, true, 2, 3)))
	}
	return list
}

// isIntervals holds a list against the document's sentence.
func isIntervals(ivs []impl.Interval) bool {
	for i, v := range ivs {
		first := int64(1)
		if i > 0 {
			first = ivs[i-1].Last + 1
		}
		if v.First != first || v.Last < v.First || v.Last > 60 || !isActing(v.Acting) || len(v.Acting) != len(ivs[0].Acting) {
			return false
		}
	}
	return len(ivs) <= 60
}

func copiedIntervals(ivs []impl.Interval) []impl.Interval {
	ivs = slices.Clone(ivs)
	for i, v := range ivs {
		ivs[i].Acting = slices.Clone(v.Acting)
	}
	return ivs
}

// numbersInIntervals points to all numbers of a list.
func numbersInIntervals(ivs []impl.Interval) []*int64 {
	var list []*int64
	for i := range ivs {
		list = append(list, &ivs[i].First, &ivs[i].Last)
		for k := range ivs[i].Acting {
			list = append(list, &ivs[i].Acting[k])
		}
	}
	return list
}

func sameInterval(a, b impl.Interval) bool {
	return a.First == b.First && a.Last == b.Last && a.May == b.May && slices.Equal(a.Acting, b.Acting)
}

func wantIntervals(t *testing.T, name string, got []impl.Interval, ok bool, want []impl.Interval, wantOk bool) {
	t.Helper()
	if !slices.EqualFunc(got, want, sameInterval) || ok != wantOk {
		t.Errorf("%s: %v, %v; want %v, %v", name, got, ok, want, wantOk)
	}
}

func wantInterval(t *testing.T, name string, got impl.Interval, ok bool, want impl.Interval, wantOk bool) {
	t.Helper()
	wantIntervals(t, name, []impl.Interval{got}, ok, []impl.Interval{want}, wantOk)
}

// refusedIntervals wants nothing to be made of a list.
func refusedIntervals(t *testing.T, ivs []impl.Interval) {
	t.Helper()
	wantOk(t, "IntervalsOk", impl.IntervalsOk(ivs), false)
	for n := int64(-1); n <= 8; n++ {
		v, ok := impl.IntervalAt(ivs, n)
		wantInterval(t, "IntervalAt", v, ok, impl.Interval{}, false)
		wantIntervals(t, "AheadOf", impl.AheadOf(ivs, n), true, nil, true)
		wantIntervals(t, "NeedOf", impl.NeedOf(ivs, n), true, nil, true)
		wantOk(t, "HeardEnough", impl.HeardEnough(ivs, 1, n, []int64{0, 1, 2, 3, 4, 5, 6, 7, 8, 9, 10, 11, 12, 13, 14, 15}), false)
	}
	wantNumbers(t, "AskOf", impl.AskOf(ivs), 0, nil, 0)
	wantIntervals(t, "AheadOf", impl.AheadOf(ivs, math.MaxInt64), true, nil, true)
	wantIntervals(t, "NeedOf", impl.NeedOf(ivs, math.MinInt64), true, nil, true)
}

// P18: a list of intervals is valid as the document says, and one that is not is
// refused.
func TestIntervalsOk(t *testing.T) {
	for _, ivs := range rightIntervals() {
		wantOk(t, "isIntervals", isIntervals(ivs), true)
		wantOk(t, "IntervalsOk", impl.IntervalsOk(ivs), true)
		for n := range ivs {
			wantOk(t, "IntervalsOk of a part", impl.IntervalsOk(ivs[:n]), true)
			wantOk(t, "IntervalsOk of the rest", impl.IntervalsOk(ivs[n:]), n == 0)
			other := copiedIntervals(ivs)
			other[n].May = !other[n].May
			wantOk(t, "IntervalsOk with another May", impl.IntervalsOk(other), true)
		}
	}
	for _, ivs := range wrongIntervals() {
		wantOk(t, "isIntervals of wrong ones", isIntervals(ivs), false)
		refusedIntervals(t, ivs)
	}
}

// P18: with any one number changed, a list is valid or not as the document says.
func TestIntervalsWithOneNumberChanged(t *testing.T) {
	right, wrong := 0, 0
	for _, ivs := range rightIntervals() {
		for k := range numbersInIntervals(ivs) {
			for _, n := range append(farNumbers(), -3, -2, -1, 0, 1, 2, 3, 4, 5, 6, 7, 9, 14, 15, 16, 17, 59, 60, 61) {
				other := copiedIntervals(ivs)
				*numbersInIntervals(other)[k] = n
				isRight := isIntervals(other)
				if impl.IntervalsOk(other) != isRight {
					t.Fatalf("IntervalsOk of %v: %v", other, !isRight)
				}
				if isRight {
					right++
				} else {
					wrong++
				}
			}
		}
	}
	if right < 1000 || wrong < 1000 {
		t.Errorf("%d of the lists are right, %d are wrong", right, wrong)
	}
}

// busyWalk returns a chain from m on in which the kinds of increments are
// equally frequent.
func busyWalk(r *rand.Rand, m impl.Map, n int) []impl.Map {
	chain := []impl.Map{m}
	for len(chain) < n {
		i := impl.Inc{Epoch: m.Epoch + 1, Kind: 1 + r.Int64N(6)}
		if i.Kind != impl.IcTerm && len(m.Tree.Devices) > 0 {
			i.A = m.Tree.Devices[r.IntN(len(m.Tree.Devices))].Id
		}
		if i.Kind == impl.IcWeight {
			i.B = r.Int64N(9)
		}
		if next, code := applied(m, i); code == impl.OK {
			chain, m = append(chain, next), next
		}
	}
	return chain
}

// intervalsIn returns the intervals of a placement group in a valid chain, as
// the document has them.
func intervalsIn(chain []impl.Map, g impl.Pg) []impl.Interval {
	var list []impl.Interval
	for n, m := range chain {
		acting := actingIn(m, g)
		if n > 0 && m.Term == chain[n-1].Term && slices.Equal(acting, list[len(list)-1].Acting) {
			list[len(list)-1].Last++
			continue
		}
		list = append(list, interval(m.Epoch, m.Epoch, takenIn(acting) >= poolWith(m, g).Min, acting...))
	}
	return list
}

// walks returns chains of maps with placement groups, of several lengths.
func walks() [][]impl.Map {
	r := source(132)
	var list [][]impl.Map
	for i, m := range append(poolMaps()[:8], threeNodes(), oneNode(), firstMap()) {
		list = append(list, busyWalk(r, m, []int{60, 1, 25, 2, 40}[i%5]))
	}
	return list
}

// P18: the intervals of a placement group are those that the document says.
func TestIntervalsOf(t *testing.T) {
	inTerm, served, unserved := 0, 0, 0
	for _, chain := range walks() {
		wantOk(t, "ChainOk", impl.ChainOk(chain), true)
		for _, g := range groupsIn(chain[0])[:min(len(groupsIn(chain[0])), 4)] {
			want := intervalsIn(chain, g)
			ivs, ok := impl.IntervalsOf(chain, g)
			wantIntervals(t, "IntervalsOf", ivs, ok, want, true)
			wantOk(t, "IntervalsOk", impl.IntervalsOk(ivs), true)
			for n, v := range want {
				if n > 0 && slices.Equal(v.Acting, want[n-1].Acting) {
					inTerm++
				}
				if v.May {
					served++
				} else {
					unserved++
				}
			}
		}
	}
	if inTerm < 50 || served < 50 || unserved < 50 {
		t.Errorf("%d intervals begin with a term alone, %d may have served and %d not", inTerm, served, unserved)
	}
}

// P18: the intervals partition the epochs, the acting set and the term are the
// same in all epochs of one, and one of them differs in the next one.
func TestIntervalsPartitionTheEpochs(t *testing.T) {
	for _, chain := range walks() {
		for _, g := range impl.PgsOf(chain[0]) {
			ivs, _ := impl.IntervalsOf(chain, g)
			next := int64(1)
			for i, v := range ivs {
				wantNumber(t, "First", v.First, 0, next, 0)
				next = v.Last + 1
				for epoch := v.First; epoch <= v.Last; epoch++ {
					m := chain[epoch-1]
					acting, ok := impl.ActingOf(m, g)
					wantPlaces(t, "ActingOf", acting, ok, v.Acting, true)
					wantOk(t, "MayServe", impl.MayServe(m, g), v.May)
					wantNumber(t, "Term", m.Term, 0, chain[v.First-1].Term, 0)
				}
				if i > 0 && slices.Equal(v.Acting, ivs[i-1].Acting) && chain[v.First-1].Term == chain[v.First-2].Term {
					t.Errorf("nothing is new in %v behind %v", v, ivs[i-1])
				}
			}
			wantNumber(t, "the epoch behind all", next, 0, int64(len(chain))+1, 0)
		}
	}
}

// P18: with one more map the intervals stay, but for the last one, which goes on
// or is followed by a new one.
func TestIntervalsOfLongerChains(t *testing.T) {
	for _, chain := range walks()[:5] {
		for _, g := range groupsIn(chain[0])[:1] {
			whole := intervalsIn(chain, g)
			for n := range chain {
				ivs, ok := impl.IntervalsOf(chain[:n+1], g)
				want := slices.Clone(whole)
				for len(want) > 0 && want[len(want)-1].First > int64(n)+1 {
					want = want[:len(want)-1]
				}
				want[len(want)-1].Last = int64(n) + 1
				wantIntervals(t, "IntervalsOf a part", ivs, ok, want, true)
			}
		}
	}
}

// P18: the document's example: the only node goes down and up, and a term
// begins; what happens to other nodes begins no interval.
func TestIntervalsOfExample(t *testing.T) {
	g := impl.Pg{Pool: 1}
	acting, _ := impl.ActingOf(oneNode(), g)
	node := acting[0]
	chain, code := impl.PlayIncs(oneNode(), []impl.Inc{{Epoch: 2, Kind: impl.IcDown, A: (node + 1) % 3}, {Epoch: 3, Kind: impl.IcDown, A: node}, {Epoch: 4, Kind: impl.IcUp, A: node}, {Epoch: 5, Kind: impl.IcTerm}})
	if code != impl.OK {
		t.Fatal(code)
	}
	ivs, ok := impl.IntervalsOf(chain, g)
	wantIntervals(t, "IntervalsOf", ivs, ok, []impl.Interval{interval(1, 2, true, node), interval(3, 3, false, -1), interval(4, 4, true, node), interval(5, 5, true, node)}, true)
}

// P18: every term begins an interval, also if a term began with the first map
// or with the map ahead; an interval without nodes is not May.
func TestIntervalsOfTerms(t *testing.T) {
	for _, term := range []int64{0, 1} {
		first := oneNode()
		first.Term = term
		chain := []impl.Map{first}
		var want []impl.Interval
		for epoch := int64(1); epoch <= 60; epoch++ {
			if epoch > 1 {
				chain = append(chain, stepped(chain[epoch-2], impl.IcTerm, 0))
			}
			want = append(want, interval(epoch, epoch, true, actingIn(first, impl.Pg{Pool: 1})...))
			ivs, ok := impl.IntervalsOf(chain, impl.Pg{Pool: 1})
			wantIntervals(t, "IntervalsOf terms", ivs, ok, want, true)
		}
	}
	none := oneNode()
	none.Up = nil
	ivs, ok := impl.IntervalsOf([]impl.Map{none, stepped(none, impl.IcOut, 1)}, impl.Pg{Pool: 1})
	wantIntervals(t, "IntervalsOf holes", ivs, ok, []impl.Interval{interval(1, 2, false, -1)}, true)
}

// P18: what is no chain has no intervals, nor has what is no placement group.
func TestIntervalsOfRefuses(t *testing.T) {
	r := source(133)
	chain := busyWalk(r, firstMap(), 12)
	refuse := func(chain []impl.Map, g impl.Pg) {
		t.Helper()
		ivs, ok := impl.IntervalsOf(chain, g)
		wantIntervals(t, "IntervalsOf", ivs, ok, nil, false)
	}
	g := impl.Pg{Pool: 1}
	refuse(nil, g)
	refuse([]impl.Map{}, g)
	for n := range 12 {
		if n > 0 {
			refuse(chain[n:], g)
			refuse(slices.Concat(chain[:n], chain[n-1:]), g)
		}
		if n > 0 && n < 11 {
			refuse(slices.Concat(chain[:n], chain[n+1:]), g)
		}
		other := slices.Clone(chain)
		other[n] = copiedMap(chain[n])
		other[n].Up = []int64{1, 0}
		refuse(other, g)
	}
	refuse(slices.Repeat([]impl.Map{firstMap()}, 61), g)
	for _, m := range wrongMaps() {
		refuse([]impl.Map{m}, g)
		refuse([]impl.Map{firstMap(), m}, g)
	}
	for _, m := range rightMaps() {
		ivs, ok := impl.IntervalsOf([]impl.Map{m}, g)
		want, isRight := []impl.Interval(nil), m.Epoch == 1 && slices.Contains(groupsIn(m), g)
		if isRight {
			want = intervalsIn([]impl.Map{m}, g)
		}
		wantIntervals(t, "IntervalsOf one map", ivs, ok, want, isRight)
	}
	for _, g := range strangePgs(firstMap()) {
		refuse(chain, g)
	}
}

// P18: each epoch is in the interval that the document says, and those outside
// are in none.
func TestIntervalAt(t *testing.T) {
	for _, ivs := range rightIntervals() {
		for _, epoch := range append(farNumbers(), -1, 0, 61, 62) {
			v, ok := impl.IntervalAt(ivs, epoch)
			wantInterval(t, "IntervalAt outside", v, ok, impl.Interval{}, false)
		}
		for epoch := int64(1); epoch <= 60; epoch++ {
			i := slices.IndexFunc(ivs, func(v impl.Interval) bool { return v.First <= epoch && epoch <= v.Last })
			var want impl.Interval
			if i >= 0 {
				want = ivs[i]
			}
			v, ok := impl.IntervalAt(ivs, epoch)
			wantInterval(t, "IntervalAt", v, ok, want, i >= 0)
		}
	}
	v, ok := impl.IntervalAt(sampleIntervals(), 5)
	wantInterval(t, "IntervalAt", v, ok, sampleIntervals()[2], true)
}

// P18: AheadOf and NeedOf pick the intervals that the document says.
func TestAheadOfAndNeedOf(t *testing.T) {
	numbers := append(farNumbers(), -2, -1)
	for n := range int64(63) {
		numbers = append(numbers, n)
	}
	for _, ivs := range rightIntervals() {
		for _, n := range numbers {
			var ahead, need []impl.Interval
			for _, v := range ivs {
				if v.First < n {
					ahead = append(ahead, v)
				}
				if v.May && v.First >= n || v.First == n {
					need = append(need, v)
				}
			}
			wantIntervals(t, "AheadOf", impl.AheadOf(ivs, n), true, ahead, true)
			wantIntervals(t, "NeedOf", impl.NeedOf(ivs, n), true, need, true)
		}
	}
	w := sampleIntervals()
	wantIntervals(t, "AheadOf", impl.AheadOf(w, 4), true, w[:2], true)
	wantIntervals(t, "NeedOf", impl.NeedOf(w, 3), true, w[1:], true)
	wantIntervals(t, "NeedOf", impl.NeedOf(w, 0), true, []impl.Interval{w[0], w[2]}, true)
	wantIntervals(t, "NeedOf an epoch within", impl.NeedOf(w, 2), true, w[2:], true)
}

// P18: AskOf names each node of the intervals once.
func TestAskOf(t *testing.T) {
	for _, ivs := range rightIntervals() {
		var want []int64
		for node := range int64(16) {
			if slices.ContainsFunc(ivs, func(v impl.Interval) bool { return slices.Contains(v.Acting, node) }) {
				want = append(want, node)
			}
		}
		wantNumbers(t, "AskOf", impl.AskOf(ivs), 0, want, 0)
	}
	wantNumbers(t, "AskOf", impl.AskOf(sampleIntervals()), 0, []int64{0, 1, 2, 3}, 0)
	wantNumbers(t, "AskOf", impl.AskOf([]impl.Interval{interval(1, 1, false, 9, 3, -1), interval(2, 2, true, 3, 9, 0)}), 0, []int64{0, 3, 9}, 0)
}

// heardIn returns the nodes of an acting set that were heard.
func heardIn(acting, heard []int64) []int64 {
	var list []int64
	for node := range int64(16) {
		if slices.Contains(acting, node) && slices.Contains(heard, node) {
			list = append(list, node)
		}
	}
	return list
}

// P18: HeardOf names the nodes of one interval that were heard, whatever its
// epochs are, if the acting set and the heard nodes are valid.
func TestHeardOf(t *testing.T) {
	for i, acting := range slices.Concat(rightActings(), wrongActings()) {
		v := interval(int64(i)-9, int64(i*i)-80, i%2 == 0, acting...)
		for _, heard := range someOuts() {
			want := heardIn(acting, heard)
			if !isActing(acting) {
				want = nil
			}
			wantNumbers(t, "HeardOf", impl.HeardOf(v, heard), 0, want, 0)
		}
		for _, heard := range wrongOuts() {
			wantNumbers(t, "HeardOf wrong nodes", impl.HeardOf(v, heard), 0, nil, 0)
		}
	}
	wantNumbers(t, "HeardOf", impl.HeardOf(interval(4, 6, true, 2, 3), []int64{1, 3, 4}), 0, []int64{3}, 0)
	wantNumbers(t, "HeardOf", impl.HeardOf(interval(4, 6, true, 9, -1, 3), []int64{3, 9}), 0, []int64{3, 9}, 0)
	wantNumbers(t, "HeardOf nobody", impl.HeardOf(interval(4, 6, true, -1), []int64{0, 15}), 0, nil, 0)
}

// isHeardEnough holds valid intervals and heard nodes against the document's
// sentence.
func isHeardEnough(ivs []impl.Interval, k, s int64, heard []int64) bool {
	starts := s <= 0
	for _, v := range ivs {
		starts = starts || v.First == s
		isNeeded := v.First == s || v.May && v.First >= s
		if isNeeded && int64(len(heardIn(v.Acting, heard))) < k {
			return false
		}
	}
	return starts && k >= 1 && k <= 7
}

// P18: HeardEnough is true just where enough nodes of all intervals that are
// needed were heard.
func TestHeardEnough(t *testing.T) {
	enough, few := 0, 0
	for _, ivs := range rightIntervals() {
		for _, heard := range append(someOuts(), []int64{0, 1, 2, 3, 4, 5, 6, 7, 8, 9, 10, 11, 12, 13, 14, 15}) {
			for s := int64(-2); s <= 13; s++ {
				for k := int64(-1); k <= 9; k++ {
					want := isHeardEnough(ivs, k, s, heard)
					if impl.HeardEnough(ivs, k, s, heard) != want {
						t.Fatalf("HeardEnough of %v, %d, %d, %v: %v", ivs, k, s, heard, !want)
					}
					if want {
						enough++
					} else {
						few++
					}
				}
			}
		}
	}
	if enough < 1000 || few < 1000 {
		t.Errorf("enough were heard %d times, too few %d times", enough, few)
	}
}

// P18: the document's examples, a started interval without May, and the limits.
func TestHeardEnoughExamples(t *testing.T) {
	w := sampleIntervals()
	for _, v := range []struct {
		k, s  int64
		heard []int64
		want  bool
	}{
		{1, 0, []int64{1, 2}, true}, {1, 0, []int64{0, 1}, false}, {1, -5, []int64{1, 2}, true}, {2, 0, []int64{0, 1, 2}, false}, {2, 0, []int64{0, 1, 2, 3}, true},
		// The second one was started, though it is not May: it needs nodes too.
		{1, 3, []int64{1, 2}, true}, {1, 3, []int64{2}, false}, {1, 3, []int64{0, 2}, false}, {1, 3, []int64{1}, false}, {2, 3, []int64{1, 2, 3}, false}, {1, 4, []int64{2}, true}, {2, 4, []int64{2, 3}, true}, {2, 4, []int64{2}, false}, {1, 1, []int64{0, 3}, true}, {1, 1, []int64{3}, false},
		// No interval begins with these epochs.
		{1, 2, []int64{0, 1, 2, 3}, false}, {1, 5, []int64{0, 1, 2, 3}, false}, {1, 7, []int64{0, 1, 2, 3}, false}, {1, 61, []int64{0, 1, 2, 3}, false}, {1, math.MaxInt64, []int64{0, 1, 2, 3}, false}, {1, math.MinInt64, []int64{0, 1, 2, 3}, true},
		{0, 0, []int64{0, 1, 2, 3}, false}, {-1, 0, []int64{0, 1, 2, 3}, false}, {8, 0, []int64{0, 1, 2, 3}, false}, {math.MinInt64, 0, []int64{0, 1, 2, 3}, false}, {math.MaxInt64, 0, nil, false},
	} {
		if impl.HeardEnough(w, v.k, v.s, v.heard) != v.want {
			t.Errorf("HeardEnough with %d, %d, %v: %v", v.k, v.s, v.heard, !v.want)
		}
	}
	for _, ivs := range [][]impl.Interval{nil, {interval(1, 9, false, 4, 5)}} {
		for k := int64(-1); k <= 9; k++ {
			wantOk(t, "HeardEnough with no need", impl.HeardEnough(ivs, k, 0, nil), k >= 1 && k <= 7)
			wantOk(t, "HeardEnough with no such epoch", impl.HeardEnough(ivs, k, 2, nil), false)
			for _, heard := range wrongOuts() {
				wantOk(t, "HeardEnough of wrong nodes", impl.HeardEnough(ivs, k, 0, heard), false)
			}
		}
	}
	full := []impl.Interval{interval(1, 1, true, 6, 5, 4, 3, 2, 1, 0)}
	wantOk(t, "HeardEnough of all places", impl.HeardEnough(full, 7, 1, []int64{0, 1, 2, 3, 4, 5, 6}), true)
	wantOk(t, "HeardEnough of all places but one", impl.HeardEnough(full, 7, 1, []int64{0, 1, 2, 3, 4, 5}), false)
}

// P18: if at most Min - K nodes are lost, K nodes of every interval that may have
// acknowledged writes remain; with one more lost there may be too few.
func TestEnoughNodesRemain(t *testing.T) {
	short := 0
	for _, chain := range walks() {
		for _, g := range groupsIn(chain[0])[:min(len(groupsIn(chain[0])), 8)] {
			ivs, _ := impl.IntervalsOf(chain, g)
			p := poolWith(chain[0], g)
			k := p.Code.K
			for n := range p.Min - k + 2 {
				for _, lost := range choices(13, n) {
					heard := without(lost)
					if impl.HeardEnough(ivs, k, 0, heard) {
						continue
					}
					if n <= p.Min-k {
						t.Fatalf("too few nodes remain of %v without %v, for %v", ivs, lost, p)
					}
					short++
				}
			}
		}
	}
	if short < 50 {
		t.Errorf("there were too few nodes %d times", short)
	}
}

// without returns all nodes but those that were lost.
func without(lost []int64) []int64 {
	var list []int64
	for node := range int64(16) {
		if !slices.Contains(lost, node) {
			list = append(list, node)
		}
	}
	return list
}

// P18: hearing more nodes never makes them too few.
func TestHearingMoreNodes(t *testing.T) {
	r := source(134)
	grown := 0
	for _, ivs := range rightIntervals() {
		for range 40 {
			order := r.Perm(16)
			k, s := 1+r.Int64N(3), r.Int64N(8)
			wasEnough := false
			for n := range 17 {
				heard := make([]int64, n)
				for i, node := range order[:n] {
					heard[i] = int64(node)
				}
				slices.Sort(heard)
				isEnough := impl.HeardEnough(ivs, k, s, heard)
				if wasEnough && !isEnough {
					t.Fatalf("HeardEnough of %v, %d, %d: no more with %v", ivs, k, s, heard)
				}
				if isEnough && !wasEnough {
					grown++
				}
				wasEnough = isEnough
			}
		}
	}
	if grown < 100 {
		t.Errorf("there were enough nodes %d times", grown)
	}
}
