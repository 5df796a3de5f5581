package tests

import (
	"cmp"
	"math"
	"math/rand/v2"
	"slices"
	"testing"

	"loop.example/g00849/impl"
)

// twoCopies is the pool of the document's examples.
func twoCopies() impl.Pool {
	return impl.Pool{Id: 2, Code: impl.Code{K: 1, M: 1}, Min: 1, Pgs: 4, Rule: 1}
}

// except is an exception in that pool.
func except(no, from, to int64) impl.Except {
	return impl.Except{Pg: impl.Pg{Pool: 2, No: no}, From: from, To: to}
}

// sixteen are as many exceptions as there may be.
func sixteen() []impl.Except {
	var list []impl.Except
	for i := range int64(16) {
		list = append(list, except(i/2, i%2, 5))
	}
	return list
}

func rightExcepts() [][]impl.Except {
	all := func(pool, no, from, to int64) impl.Except {
		return impl.Except{Pg: impl.Pg{Pool: pool, No: no}, From: from, To: to}
	}
	return [][]impl.Except{
		nil, {}, {except(0, 0, 1)}, {except(0, 1, 0)}, {all(1, 0, 0, 15)}, {all(4, 15, 15, 0)}, sixteen(), sixteen()[:15],
		{except(3, 5, 2), except(3, 3, 2)}, {except(3, 3, 5), except(3, 5, 3)}, {except(3, 3, 5), except(4, 3, 5)},
		{all(1, 7, 3, 5), all(2, 0, 3, 5), all(2, 9, 3, 5), all(3, 1, 3, 5)}, {all(1, 15, 0, 1), all(4, 0, 0, 1)},
		{except(1, 4, 2), except(1, 0, 2), except(1, 9, 2), except(2, 1, 0)},
	}
}

func wrongExcepts() [][]impl.Except {
	list := [][]impl.Except{
		append(sixteen(), except(8, 0, 5)), append(sixteen(), except(15, 15, 14), except(15, 14, 15)),
		{{}}, {except(3, 4, 4)}, {except(0, 0, 0)}, {except(3, 4, 2), except(3, 4, 2)}, {except(3, 4, 2), except(3, 4, 5)},
		{except(3, 4, 2), except(3, 5, 2), except(3, 4, 5)}, {except(0, 4, 2), except(3, 4, 2), except(3, 1, 2), except(3, 0, 2), except(3, 1, 5)},
		{except(1, 4, 2), except(0, 4, 2)}, {except(1, 4, 2), except(0, 5, 2)}, {except(1, 4, 2), except(2, 4, 2), except(1, 5, 2)},
		{{Pg: impl.Pg{Pool: 3}, From: 1}, {Pg: impl.Pg{Pool: 2, No: 5}, From: 1}}, {{Pg: impl.Pg{Pool: 4}, From: 1}, {Pg: impl.Pg{Pool: 1}, From: 1}},
	}
	for _, n := range append(farNumbers(), -1) {
		x := except(3, 4, 2)
		list = append(list, []impl.Except{except(0, 1, 2), {Pg: impl.Pg{Pool: n, No: 3}, From: 4, To: 2}}, []impl.Except{except(n, 4, 2)}, []impl.Except{except(3, n, 2)}, []impl.Except{except(3, 4, n), x})
	}
	for _, n := range []int64{16, 17, 255} {
		list = append(list, []impl.Except{except(n, 4, 2)}, []impl.Except{except(3, n, 2)}, []impl.Except{except(3, 4, n)}, []impl.Except{except(0, 1, 2), except(3, 4, n)})
	}
	return append(list, []impl.Except{{From: 4, To: 2}}, []impl.Except{{Pg: impl.Pg{Pool: 5}, From: 4, To: 2}})
}

// isExcepts holds each exception against all before it.
func isExcepts(list []impl.Except) bool {
	for i, x := range list {
		g := x.Pg
		if i >= 16 || g.Pool < 1 || g.Pool > 4 || g.No < 0 || g.No > 15 || x.From < 0 || x.From > 15 || x.To < 0 || x.To > 15 || x.From == x.To {
			return false
		}
		for _, other := range list[:i] {
			h := other.Pg
			if h.Pool > g.Pool || h.Pool == g.Pool && h.No > g.No || h == g && other.From == x.From {
				return false
			}
		}
	}
	return true
}

// mayTake holds a device against the document's sentence.
func mayTake(x impl.Tree, r impl.Rule, places []int64, at int, node int64, out []int64) bool {
	_, found := domainIn(x, r.Kind, node)
	isUnder := slices.Contains(under(x, r.Root), node)
	return found && isUnder && weightUnder(x, node) > 0 && !slices.Contains(out, node) && isFree(x, r.Kind, places, at, node)
}

// exceptedFrom applies the exceptions of one group.
func exceptedFrom(x impl.Tree, r impl.Rule, places []int64, g impl.Pg, list []impl.Except, out []int64) []int64 {
	places = slices.Clone(places)
	for _, e := range list {
		for at := range places {
			if e.Pg == g && places[at] == e.From && mayTake(x, r, places, at, e.To, out) {
				places[at] = e.To
				break
			}
		}
	}
	return places
}

func placedAll(x impl.Tree, r impl.Rule, p impl.Pool, list []impl.Except, out []int64) [][]int64 {
	var rows [][]int64
	for no := range p.Pgs {
		g := impl.Pg{Pool: p.Id, No: no}
		places, _ := impl.PlacePg(x, r, p, g, out)
		rows = append(rows, exceptedFrom(x, r, places, g, list, out))
	}
	return rows
}

func held(rows [][]int64, node int64) int64 {
	n := int64(0)
	for _, other := range slices.Concat(rows...) {
		if other == node {
			n++
		}
	}
	return n
}

// stepFrom looks at all candidates, in the order in which ties are resolved.
func stepFrom(x impl.Tree, r impl.Rule, p impl.Pool, list []impl.Except, out []int64) (impl.Except, int64) {
	if len(list) >= 16 {
		return impl.Except{}, impl.ErrMany
	}
	best, greatest, code := impl.Except{}, int64(0), int64(impl.ErrState)
	rows := placedAll(x, r, p, list, out)
	for no, row := range rows {
		for at, from := range row {
			e := impl.Except{Pg: impl.Pg{Pool: p.Id, No: int64(no)}, From: from}
			if from == -1 || slices.ContainsFunc(list, func(other impl.Except) bool { return other.Pg == e.Pg && other.From == from }) {
				continue
			}
			for _, d := range x.Devices {
				if d.Weight == 0 {
					continue
				}
				gain := held(rows, from)*840/weightUnder(x, from) - (held(rows, d.Id)+1)*840/d.Weight
				if gain > greatest && mayTake(x, r, row, at, d.Id, out) {
					e.To = d.Id
					best, greatest, code = e, gain, impl.OK
				}
			}
		}
	}
	return best, code
}

// added inserts an exception behind those of its group.
func added(list []impl.Except, e impl.Except) []impl.Except {
	list = append(slices.Clone(list), e)
	slices.SortStableFunc(list, func(a, b impl.Except) int {
		return cmp.Or(cmp.Compare(a.Pg.Pool, b.Pg.Pool), cmp.Compare(a.Pg.No, b.Pg.No))
	})
	return list
}

// balancedFrom takes steps one by one.
func balancedFrom(x impl.Tree, r impl.Rule, p impl.Pool, list []impl.Except, out []int64, steps int64) []impl.Except {
	for range steps {
		e, code := stepFrom(x, r, p, list, out)
		if code != impl.OK {
			break
		}
		list = added(list, e)
	}
	return list
}

// greatestOf returns the greatest and the least utilization.
func greatestOf(x impl.Tree, rows [][]int64) (int64, int64) {
	greatest, least := int64(0), int64(math.MaxInt64)
	for _, d := range x.Devices {
		if d.Weight > 0 {
			u := held(rows, d.Id) * 840 / d.Weight
			greatest, least = max(greatest, u), min(least, u)
		}
	}
	return greatest, min(least, greatest)
}

// someExcepts returns valid exceptions of p and a few of other groups. Many of
// them are from devices that the group has, or has by another exception, and
// nearly all are to devices of x.
func someExcepts(r *rand.Rand, x impl.Tree, p impl.Pool, rows [][]int64, n int) []impl.Except {
	var list []impl.Except
	for range 2 * n {
		no := r.Int64N(p.Pgs)
		e := impl.Except{Pg: impl.Pg{Pool: p.Id, No: no}, From: r.Int64N(16)}
		if len(x.Devices) > 0 {
			e.To = x.Devices[r.IntN(len(x.Devices))].Id
		}
		switch {
		case r.IntN(12) == 0:
			e.Pg = impl.Pg{Pool: 1 + r.Int64N(4), No: r.Int64N(16)}
		case r.IntN(12) == 0:
			e.To = r.Int64N(16)
		case len(list) > 0 && r.IntN(3) == 0:
			e.Pg, e.From = list[len(list)-1].Pg, list[len(list)-1].To
		case r.IntN(4) > 0:
			e.From = max(0, rows[no][r.IntN(len(rows[no]))])
		}
		if next := added(list, e); len(list) < n && isExcepts(next) {
			list = next
		}
	}
	return list
}

// scene is a case to balance.
type scene struct {
	x    impl.Tree
	r    impl.Rule
	p    impl.Pool
	list []impl.Except
	out  []int64
}

// scenes has one for each topology and rule, and one more with each number of
// exceptions from none to as many as there may be.
func scenes() []scene {
	var list []scene
	r := source(101)
	for _, x := range placeTrees() {
		for i, rule := range rulesOf(x) {
			c := allCodes()[r.IntN(len(allCodes()))]
			p := impl.Pool{Id: 1 + r.Int64N(4), Code: c, Min: c.K, Pgs: 1 + r.Int64N(16), Rule: rule.Id}
			out := someOuts()[r.IntN(len(someOuts()))]
			list = append(list, scene{x, rule, p, nil, nil}, scene{x, rule, p, someExcepts(r, x, p, placedAll(x, rule, p, nil, nil), i), out})
		}
	}
	for n := range 17 {
		for i, x := range []impl.Tree{sample(), racksTree(), unevenTree(), twoRootsTree(), pairsTree(), pairsTree()} {
			rule, out := rulesOf(x)[r.IntN(4)], [][]int64{nil, {0}, {4}, {1, 6}}[n%4]
			p := impl.Pool{Id: 3, Code: impl.Code{K: int64(1 + i%2), M: 1}, Min: 2, Pgs: 16, Rule: rule.Id}
			list = append(list, scene{x, rule, p, someExcepts(r, x, p, placedAll(x, rule, p, nil, out), n), out})
		}
	}
	return list
}

// pairsTree has eight hosts of two devices each, with weights of all sizes.
func pairsTree() impl.Tree {
	x := tree(devices(4, 2, 4, 2, 1, 3, 5, 1, 8, 2, 1, 1, 2, 2, 6, 7), root(-1, -2, -3, -4, -5, -6, -7, -8, -9))
	for i := range int64(8) {
		x.Buckets = append(x.Buckets, host(-2-i, 2*i, 2*i+1))
	}
	return x
}

func wantTable(t *testing.T, name string, got [][]int64, code int64, want [][]int64, wantCode int64) {
	t.Helper()
	if !slices.EqualFunc(got, want, slices.Equal) || code != wantCode {
		t.Errorf("%s: %v, code %d; want %v, code %d", name, got, code, want, wantCode)
	}
}

func wantExcept(t *testing.T, name string, got impl.Except, code int64, want impl.Except, wantCode int64) {
	t.Helper()
	if got != want || code != wantCode {
		t.Errorf("%s: %v, code %d; want %v, code %d", name, got, code, want, wantCode)
	}
}

func wantExcepts(t *testing.T, name string, got []impl.Except, code int64, want []impl.Except, wantCode int64) {
	t.Helper()
	if !slices.Equal(got, want) || code != wantCode {
		t.Errorf("%s: %v, code %d; want %v, code %d", name, got, code, want, wantCode)
	}
}

// refusedBalance wants one code of all functions that place a pool.
func refusedBalance(t *testing.T, name string, s scene, wantCode int64) {
	t.Helper()
	rows, code := impl.PlaceAll(s.x, s.r, s.p, s.list, s.out)
	wantTable(t, name+": PlaceAll", rows, code, nil, wantCode)
	e, code := impl.BalanceStep(s.x, s.r, s.p, s.list, s.out)
	wantExcept(t, name+": BalanceStep", e, code, impl.Except{}, wantCode)
	for _, steps := range []int64{-1, 0, 3, 17} {
		list, code := impl.Balance(s.x, s.r, s.p, s.list, s.out, steps)
		wantExcepts(t, name+": Balance", list, code, nil, wantCode)
	}
}

// P15: a list of exceptions is valid as the document says, and one that is not
// is refused.
func TestExceptsOk(t *testing.T) {
	for _, list := range rightExcepts() {
		wantOk(t, "ExceptsOk", impl.ExceptsOk(list), true)
		wantOk(t, "isExcepts", isExcepts(list), true)
	}
	for _, list := range wrongExcepts() {
		wantOk(t, "ExceptsOk of a wrong list", impl.ExceptsOk(list), false)
		wantOk(t, "isExcepts of a wrong list", isExcepts(list), false)
		refusedBalance(t, "wrong list", scene{sample(), hostRule(true), twoCopies(), list, nil}, impl.ErrForm)
		places, code := impl.Excepted(sample(), hostRule(true), []int64{1, 2}, impl.Pg{Pool: 2}, list)
		wantNumbers(t, "Excepted with a wrong list", places, code, nil, impl.ErrForm)
	}
}

// P15: with any number changed, and any two exceptions in the other order, a
// list is valid or not as the document says.
func TestChangedExcepts(t *testing.T) {
	right, wrong := 0, 0
	want := func(list []impl.Except) {
		isRight := isExcepts(list)
		if impl.ExceptsOk(list) != isRight {
			t.Fatalf("ExceptsOk of %v: %v", list, !isRight)
		}
		if isRight {
			right++
		} else {
			wrong++
		}
	}
	for _, list := range rightExcepts() {
		for i := range list {
			for n := int64(-2); n <= 18; n++ {
				for k := range 4 {
					next := slices.Clone(list)
					*[]*int64{&next[i].Pg.Pool, &next[i].Pg.No, &next[i].From, &next[i].To}[k] = n
					want(next)
				}
			}
			for j := range i {
				next := slices.Clone(list)
				next[i], next[j] = next[j], next[i]
				want(next)
			}
		}
	}
	if right < 1000 || wrong < 1000 {
		t.Errorf("%d of the lists are right, %d are wrong", right, wrong)
	}
}

// P15: the document's examples of exceptions, and more in the same topology.
func TestExceptedExamples(t *testing.T) {
	for _, v := range []struct {
		places []int64
		no     int64
		list   []impl.Except
		want   []int64
	}{
		{[]int64{1, 2}, 0, []impl.Except{except(0, 1, 4)}, []int64{4, 2}}, {[]int64{1, 2}, 0, []impl.Except{except(0, 1, 3)}, []int64{1, 2}},
		// Within its own domain a device may be replaced, also at the last position.
		{[]int64{1, 2}, 0, []impl.Except{except(0, 1, 0)}, []int64{0, 2}}, {[]int64{1, 2}, 0, []impl.Except{except(0, 2, 3)}, []int64{1, 3}},
		// Not by itself, nor by one without weight, or one that there is not.
		{[]int64{1, 2}, 0, []impl.Except{except(0, 1, 2)}, []int64{1, 2}}, {[]int64{1, 2}, 0, []impl.Except{except(0, 1, 5)}, []int64{1, 2}}, {[]int64{1, 2}, 0, []impl.Except{except(0, 1, 6)}, []int64{1, 2}},
		// From is not there, or the group is another one.
		{[]int64{1, 2}, 0, []impl.Except{except(0, 0, 4)}, []int64{1, 2}}, {[]int64{1, 2}, 1, []impl.Except{except(0, 1, 4)}, []int64{1, 2}}, {[]int64{1, 2}, 99, []impl.Except{except(0, 1, 4)}, []int64{1, 2}},
		{[]int64{1, 2}, 0, []impl.Except{{Pg: impl.Pg{Pool: 1}, From: 1, To: 4}, {Pg: impl.Pg{Pool: 3}, From: 1, To: 4}}, []int64{1, 2}},
		// One by one, each after the one before.
		{[]int64{1, 2}, 0, []impl.Except{except(0, 1, 4), except(0, 4, 0)}, []int64{0, 2}}, {[]int64{1, 2}, 0, []impl.Except{except(0, 4, 0), except(0, 1, 4)}, []int64{4, 2}},
		{[]int64{1, 2}, 0, []impl.Except{except(0, 1, 4), except(0, 2, 0)}, []int64{4, 0}}, {[]int64{1, 2}, 0, []impl.Except{except(0, 2, 0), except(0, 1, 4)}, []int64{4, 2}},
		{[]int64{1, 2}, 2, []impl.Except{except(1, 1, 4), except(2, 1, 0), except(3, 0, 4)}, []int64{0, 2}},
		// Holes restrict nothing, and what has no weight may stand there.
		{[]int64{-1, 1, -1}, 0, []impl.Except{except(0, 1, 3)}, []int64{-1, 3, -1}}, {[]int64{5, 2}, 0, []impl.Except{except(0, 5, 4)}, []int64{4, 2}}, {[]int64{5, 2}, 0, []impl.Except{except(0, 2, 4)}, []int64{5, 2}},
		{nil, 0, []impl.Except{except(0, 1, 4)}, nil}, {[]int64{-1}, 0, []impl.Except{except(0, 1, 4)}, []int64{-1}}, {[]int64{1, 2}, 0, nil, []int64{1, 2}},
	} {
		for _, indep := range []bool{true, false} {
			places, code := impl.Excepted(sample(), hostRule(indep), v.places, impl.Pg{Pool: 2, No: v.no}, v.list)
			wantNumbers(t, "Excepted", places, code, v.want, impl.OK)
		}
	}
}

// P15: exceptions are applied as the document has it, whatever devices a
// placement has, as long as they are apart; it stays apart then.
func TestExcepted(t *testing.T) {
	r := source(102)
	changed, refused := 0, 0
	for _, x := range placeTrees() {
		for _, rule := range rulesOf(x) {
			for range 100 {
				ids := append(partIds(x), 16, -1, -1)
				places := make([]int64, 1+r.IntN(4))
				for i := range places {
					places[i] = max(-1, ids[r.IntN(len(ids))])
				}
				g := impl.Pg{Pool: 1 + r.Int64N(4), No: 0}
				list := someExcepts(r, x, impl.Pool{Id: g.Pool, Pgs: 1}, [][]int64{places}, 1+r.IntN(4))
				want, wantCode := exceptedFrom(x, rule, places, g, list, nil), int64(impl.OK)
				if !isApart(x, rule.Kind, places) {
					want, wantCode = nil, impl.ErrRange
					refused++
				} else if !slices.Equal(want, places) {
					changed++
				}
				got, code := impl.Excepted(x, rule, places, g, list)
				wantNumbers(t, "Excepted", got, code, want, wantCode)
				wantOk(t, "Apart of what was excepted", impl.Apart(x, rule.Kind, got), true)
			}
		}
	}
	if changed < 500 || refused < 500 {
		t.Errorf("%d placements were changed, %d refused", changed, refused)
	}
}

// P15: the errors of Excepted come in the document's order.
func TestExceptedRefuses(t *testing.T) {
	list := []impl.Except{except(0, 1, 4)}
	bad := wrongExcepts()[0]
	for _, x := range wrongTrees() {
		for _, places := range [][]int64{nil, {1, 2}, {0, 0}} {
			got, code := impl.Excepted(x, hostRule(true), places, impl.Pg{Pool: 2}, list)
			wantNumbers(t, "Excepted in a wrong tree", got, code, nil, impl.ErrForm)
		}
	}
	for _, rule := range []impl.Rule{{}, {Id: 0, Root: -4}, {Id: 5, Root: -4}, {Id: 1, Root: -3}, {Id: 1, Root: -4, Kind: 3}, {Id: 1, Root: -4, Kind: -1}} {
		for _, places := range [][]int64{nil, {1, 2}, {0, 0}} {
			got, code := impl.Excepted(sample(), rule, places, impl.Pg{Pool: 2}, list)
			wantNumbers(t, "Excepted by a wrong rule", got, code, nil, impl.ErrForm)
		}
	}
	for _, places := range [][]int64{{0, 1}, {1, 1}, {-2}, {6}, {-1, math.MaxInt64}, {1, 2, math.MinInt64}, {-1, -1, -1, -1, -1, -1, -1, -1}, {4, 2, 0, -1, -1, 3}} {
		for _, l := range [][]impl.Except{nil, list} {
			got, code := impl.Excepted(sample(), hostRule(true), places, impl.Pg{Pool: 2}, l)
			wantNumbers(t, "Excepted of what is not apart", got, code, nil, impl.ErrRange)
		}
		got, code := impl.Excepted(sample(), hostRule(true), places, impl.Pg{Pool: 2}, bad)
		wantNumbers(t, "Excepted with a wrong list", got, code, nil, impl.ErrForm)
	}
	for _, n := range anyNumbers() {
		got, code := impl.Excepted(sample(), hostRule(true), []int64{1, 2}, impl.Pg{Pool: n, No: n}, []impl.Except{{Pg: impl.Pg{Pool: 2, No: 2}, From: 1, To: 4}})
		want := []int64{1, 2}
		if n == 2 {
			want[0] = 4
		}
		wantNumbers(t, "Excepted of any group", got, code, want, impl.OK)
	}
}

// P15: the document's example of a pool with and without a device.
func TestPlaceAllExamples(t *testing.T) {
	rows, code := impl.PlaceAll(sample(), hostRule(true), twoCopies(), nil, nil)
	wantTable(t, "PlaceAll", rows, code, [][]int64{{2, 4}, {2, 0}, {4, 1}, {0, 3}}, impl.OK)
	rows, code = impl.PlaceAll(sample(), hostRule(true), twoCopies(), nil, []int64{4})
	wantTable(t, "PlaceAll without device 4", rows, code, [][]int64{{2, 0}, {2, 0}, {2, 1}, {0, 3}}, impl.OK)
	list := []impl.Except{except(0, 2, 1), except(1, 0, 4)}
	rows, code = impl.PlaceAll(sample(), hostRule(true), twoCopies(), list, nil)
	wantTable(t, "PlaceAll with exceptions", rows, code, [][]int64{{1, 4}, {2, 4}, {4, 1}, {0, 3}}, impl.OK)
	// Now device 1 would stand beside device 0 of its host, and device 4 is excluded.
	rows, code = impl.PlaceAll(sample(), hostRule(true), twoCopies(), list, []int64{4})
	wantTable(t, "PlaceAll with exceptions without device 4", rows, code, [][]int64{{2, 0}, {2, 0}, {2, 1}, {0, 3}}, impl.OK)
}

// P15: all placements of a pool are those of its groups after their exceptions,
// and each is apart.
func TestPlaceAll(t *testing.T) {
	moved := int64(0)
	for _, s := range scenes() {
		want := placedAll(s.x, s.r, s.p, s.list, s.out)
		rows, code := impl.PlaceAll(s.x, s.r, s.p, s.list, s.out)
		wantTable(t, "PlaceAll", rows, code, want, impl.OK)
		plain, code := impl.PlaceAll(s.x, s.r, s.p, nil, s.out)
		for no, row := range rows {
			wantOk(t, "Apart of a row", impl.Apart(s.x, s.r.Kind, row), true)
			places, _ := impl.PlacePg(s.x, s.r, s.p, impl.Pg{Pool: s.p.Id, No: int64(no)}, s.out)
			wantNumbers(t, "PlaceAll without exceptions", plain[no], code, places, impl.OK)
		}
		n, _ := impl.Moves(plain, rows)
		moved += n
	}
	if moved < 150 {
		t.Errorf("only %d positions have exceptions", moved)
	}
}

// P13: in the tables of chapter 10, too, only the positions of an excluded
// device are assigned anew if the rule is Indep; no exception brings it back.
func TestPlaceAllWithoutDevices(t *testing.T) {
	given, refused := int64(0), 0
	for i, s := range scenes() {
		if i%3 == 0 {
			continue
		}
		s.r.Indep = true
		whole, _ := impl.PlaceAll(s.x, s.r, s.p, nil, nil)
		for _, out := range someOuts()[2:] {
			rows, _ := impl.PlaceAll(s.x, s.r, s.p, nil, out)
			left := int64(0)
			for no, row := range whole {
				for at, node := range row {
					if slices.Contains(out, node) {
						left++
					} else if rows[no][at] != node {
						t.Errorf("without %v, %v becomes %v", out, row, rows[no])
					}
				}
			}
			moves, code := impl.Moves(whole, rows)
			wantNumber(t, "Moves", moves, code, left, impl.OK)
			given += moves
			rows, _ = impl.PlaceAll(s.x, s.r, s.p, s.list, out)
			for _, node := range out {
				wantNumber(t, "positions of an excluded device", held(rows, node), impl.OK, 0, impl.OK)
			}
			if slices.ContainsFunc(s.list, func(e impl.Except) bool { return slices.Contains(out, e.To) }) {
				refused++
			}
		}
	}
	if given < 1000 || refused < 300 {
		t.Errorf("%d positions are assigned anew, %d lists name an excluded device", given, refused)
	}
}

// P15: the errors of the functions that place a pool come in the document's
// order.
func TestPlaceAllRefuses(t *testing.T) {
	for bits := range 64 {
		s := scene{sample(), hostRule(true), twoCopies(), []impl.Except{except(0, 2, 1)}, []int64{4}}
		wantCode := int64(impl.OK)
		for i, spoil := range []func(){
			func() { s.out, wantCode = []int64{4, 4}, impl.ErrRange },
			func() { s.p.Rule, wantCode = 2, impl.ErrNone },
			func() { s.list, wantCode = []impl.Except{except(1, 2, 1), except(0, 2, 1)}, impl.ErrForm },
			func() { s.p.Pgs, wantCode = 17, impl.ErrForm },
			func() { s.r.Root, wantCode = -3, impl.ErrForm },
			func() { s.x, wantCode = tree(devices(9), root(-4)), impl.ErrForm },
		} {
			if bits>>i&1 == 1 {
				spoil()
			}
		}
		if wantCode != impl.OK {
			refusedBalance(t, "spoilt", s, wantCode)
		}
	}
	s := scene{sample(), hostRule(true), twoCopies(), nil, nil}
	for _, x := range wrongTrees() {
		refusedBalance(t, "wrong tree", scene{x, s.r, s.p, nil, nil}, impl.ErrForm)
	}
	for i, p := range wrongPools() {
		if i%40 == 0 {
			refusedBalance(t, "wrong pool", scene{s.x, s.r, p, nil, nil}, impl.ErrForm)
		}
	}
	for _, out := range wrongOuts() {
		refusedBalance(t, "wrong devices", scene{s.x, s.r, s.p, nil, out}, impl.ErrRange)
		s.p.Rule = 3
		refusedBalance(t, "another rule and wrong devices", scene{s.x, s.r, s.p, nil, out}, impl.ErrNone)
		s.p.Rule = 1
	}
	for _, rule := range []impl.Rule{{}, {Id: 0, Root: -4}, {Id: 5, Root: -4}, {Id: 1, Root: -5}, {Id: 1, Root: 0}, {Id: 1, Root: -4, Kind: 3}, {Id: 1, Root: -4, Kind: -1}} {
		refusedBalance(t, "wrong rule", scene{s.x, rule, s.p, nil, nil}, impl.ErrForm)
	}
	for id := int64(2); id <= 4; id++ {
		refusedBalance(t, "another rule", scene{s.x, impl.Rule{Id: id, Root: -4}, s.p, nil, nil}, impl.ErrNone)
	}
}

func rightTables() [][][]int64 {
	full := slices.Repeat([][]int64{{15, 14, 0, -1, -1, 15, 1}}, 16)
	return [][][]int64{
		nil, {}, {nil}, {{}, nil}, {{0}}, {{-1}}, {{15}}, {{1, 1}}, {{2, 4}, {2, 0}, {4, 1}, {0, 3}}, {{2, 4}, {-1, 0}, {4, 1}, {0, -1}}, full, full[:15], make([][]int64, 16),
		{{0, 1, 2, 3, 4, 5, 6}}, {{5, 5, 5}, {4, 4, 4}}, {{8, -1}, {9, 12}}, {{2, 4}, {2, 0}, {4, 1}, {0, 4}},
	}
}

func wrongTables() [][][]int64 {
	list := [][][]int64{
		make([][]int64, 17), slices.Repeat([][]int64{{1}}, 17), {{1}, {1, 2}}, {{1, 2}, {1}}, {{1}, nil}, {nil, {1}}, {{1}, {1}, {}}, {{0, 1, 2, 3, 4, 5, 6, 7}}, {make([]int64, 8), make([]int64, 8)}, {{1}, make([]int64, 8)},
		{{16}}, {{-2}}, {{1, 16}}, {{1, 2}, {2, -2}}, {{1, 2}, {16, 2}}, {{1, 2}, {1, 2}, {1, 17}},
	}
	for _, n := range farNumbers() {
		list = append(list, [][]int64{{n}}, [][]int64{{0, 1}, {2, n}})
	}
	return list
}

// P15: the load of each device is the number of positions that it holds, and
// the spread is that of the devices with a weight.
func TestLoadsAndSpread(t *testing.T) {
	loads, code := impl.Loads(sample(), [][]int64{{2, 4}, {2, 0}, {4, 1}, {0, 3}})
	want := []impl.Load{{Node: 0, Count: 2}, {Node: 1, Count: 1}, {Node: 2, Count: 2}, {Node: 3, Count: 1}, {Node: 4, Count: 2}, {Node: 5}}
	if !slices.Equal(loads, want) || code != impl.OK {
		t.Errorf("Loads: %v, code %d", loads, code)
	}
	spread, code := impl.Spread(sample(), [][]int64{{2, 4}, {2, 0}, {4, 1}, {0, 3}})
	wantNumber(t, "Spread", spread, code, 1260, impl.OK)
	spread, code = impl.Spread(sample(), [][]int64{{5, 5, 5, 5}, {7, 8, 9, -1}})
	wantNumber(t, "Spread of others", spread, code, 0, impl.OK)
	for _, x := range rightTrees() {
		for _, rows := range rightTables() {
			var want []impl.Load
			for _, d := range x.Devices {
				want = append(want, impl.Load{Node: d.Id, Count: held(rows, d.Id)})
			}
			loads, code := impl.Loads(x, rows)
			if !slices.Equal(loads, want) || code != impl.OK {
				t.Errorf("Loads of %v in %v: %v, code %d", rows, x, loads, code)
			}
			greatest, least := greatestOf(x, rows)
			spread, code := impl.Spread(x, rows)
			wantNumber(t, "Spread", spread, code, greatest-least, impl.OK)
		}
	}
}

// P15: what is no topology or no table has neither loads nor a spread.
func TestLoadsRefuses(t *testing.T) {
	want := func(x impl.Tree, rows [][]int64) {
		loads, code := impl.Loads(x, rows)
		if len(loads) > 0 || code != impl.ErrForm {
			t.Errorf("Loads of %v in %v: %v, code %d", rows, x, loads, code)
		}
		spread, code := impl.Spread(x, rows)
		wantNumber(t, "Spread", spread, code, 0, impl.ErrForm)
	}
	for _, x := range wrongTrees() {
		want(x, nil)
		want(x, [][]int64{{0}})
	}
	for _, rows := range wrongTables() {
		want(sample(), rows)
		want(impl.Tree{}, rows)
	}
}

// P15: the moves are the positions at which two tables differ.
func TestMoves(t *testing.T) {
	whole, without := [][]int64{{2, 4}, {2, 0}, {4, 1}, {0, 3}}, [][]int64{{2, 0}, {2, 0}, {2, 1}, {0, 3}}
	moves, code := impl.Moves(whole, without)
	wantNumber(t, "Moves", moves, code, 2, impl.OK)
	for _, a := range rightTables() {
		for _, b := range rightTables() {
			want, wantCode := int64(0), int64(impl.OK)
			if len(a) != len(b) || len(a) > 0 && len(a[0]) != len(b[0]) {
				wantCode = impl.ErrRange
			}
			for i := 0; i < len(a) && wantCode == impl.OK; i++ {
				for at := range a[i] {
					if a[i][at] != b[i][at] {
						want++
					}
				}
			}
			moves, code := impl.Moves(a, b)
			wantNumber(t, "Moves", moves, code, want, wantCode)
		}
		for _, b := range wrongTables() {
			moves, code := impl.Moves(a, b)
			wantNumber(t, "Moves to a wrong table", moves, code, 0, impl.ErrForm)
			moves, code = impl.Moves(b, a)
			wantNumber(t, "Moves from a wrong table", moves, code, 0, impl.ErrForm)
		}
	}
	for _, v := range []struct{ a, b []int64 }{{[]int64{1, 2}, []int64{2, 1}}, {[]int64{-1, -1}, []int64{0, 1}}, {[]int64{3, 4}, []int64{-1, 5}}} {
		moves, code := impl.Moves([][]int64{v.a, {7, 7}}, [][]int64{v.b, {7, 7}})
		wantNumber(t, "Moves", moves, code, 2, impl.OK)
	}
}

// P15: the document's example, step by step.
func TestBalanceExamples(t *testing.T) {
	steps := []impl.Except{except(0, 2, 1), except(1, 0, 4)}
	for i, want := range steps {
		e, code := impl.BalanceStep(sample(), hostRule(true), twoCopies(), steps[:i], nil)
		wantExcept(t, "BalanceStep", e, code, want, impl.OK)
	}
	e, code := impl.BalanceStep(sample(), hostRule(true), twoCopies(), steps, nil)
	wantExcept(t, "BalanceStep", e, code, impl.Except{}, impl.ErrState)
	rows, _ := impl.PlaceAll(sample(), hostRule(true), twoCopies(), steps, nil)
	spread, code := impl.Spread(sample(), rows)
	wantNumber(t, "Spread", spread, code, 0, impl.OK)
	for n := range int64(17) {
		list, code := impl.Balance(sample(), hostRule(true), twoCopies(), nil, nil, n)
		wantExcepts(t, "Balance", list, code, steps[:min(n, 2)], impl.OK)
	}
}

// P15: a step is the candidate that the document prefers. It moves exactly one
// position and keeps all apart, and no utilization becomes the greatest by it.
func TestBalanceStep(t *testing.T) {
	steps, ends := 0, 0
	for _, s := range scenes() {
		for {
			want, wantCode := stepFrom(s.x, s.r, s.p, s.list, s.out)
			e, code := impl.BalanceStep(s.x, s.r, s.p, s.list, s.out)
			wantExcept(t, "BalanceStep", e, code, want, wantCode)
			if code != impl.OK {
				ends++
				break
			}
			steps++
			next := added(s.list, e)
			wantOk(t, "ExceptsOk after a step", impl.ExceptsOk(next), true)
			wantBetter(t, s, next)
			s.list = next
		}
	}
	if steps < 500 || ends < 100 {
		t.Errorf("%d steps, %d ends", steps, ends)
	}
}

func wantBetter(t *testing.T, s scene, next []impl.Except) {
	t.Helper()
	before, _ := impl.PlaceAll(s.x, s.r, s.p, s.list, s.out)
	after, _ := impl.PlaceAll(s.x, s.r, s.p, next, s.out)
	moves, code := impl.Moves(before, after)
	wantNumber(t, "Moves by a step", moves, code, 1, impl.OK)
	was, _ := greatestOf(s.x, before)
	is, _ := greatestOf(s.x, after)
	if is > was {
		t.Errorf("the greatest utilization rises from %d to %d", was, is)
	}
	for _, row := range after {
		wantOk(t, "Apart after a step", impl.Apart(s.x, s.r.Kind, row), true)
	}
}

// P15: with as many exceptions as there may be, of whatever pools, there is no
// step more; with one less there is.
func TestBalanceStepWithManyExceptions(t *testing.T) {
	others := sixteen()
	for i := range others {
		others[i].Pg.Pool = 4
	}
	for _, list := range [][]impl.Except{sixteen(), others} {
		e, code := impl.BalanceStep(sample(), hostRule(true), twoCopies(), list, nil)
		wantExcept(t, "BalanceStep", e, code, impl.Except{}, impl.ErrMany)
		for _, n := range []int64{0, 1, 16} {
			same, code := impl.Balance(sample(), hostRule(true), twoCopies(), list, nil, n)
			wantExcepts(t, "Balance", same, code, list, impl.OK)
		}
	}
	e, code := impl.BalanceStep(sample(), hostRule(true), twoCopies(), others[:15], nil)
	wantExcept(t, "BalanceStep", e, code, except(0, 2, 1), impl.OK)
	list, code := impl.Balance(sample(), hostRule(true), twoCopies(), others[:15], nil, 2)
	wantExcepts(t, "Balance", list, code, append([]impl.Except{except(0, 2, 1)}, others[:15]...), impl.OK)
	// Where nothing can be moved, many exceptions come first all the same.
	e, code = impl.BalanceStep(weightlessTree(), hostRule(true), twoCopies(), others, nil)
	wantExcept(t, "BalanceStep without weight", e, code, impl.Except{}, impl.ErrMany)
	e, code = impl.BalanceStep(weightlessTree(), hostRule(true), twoCopies(), others[:15], nil)
	wantExcept(t, "BalanceStep without weight", e, code, impl.Except{}, impl.ErrState)
}

// P15: what has an exception from a device, applied or not, gets no other one
// from it.
func TestBalanceStepFromExceptions(t *testing.T) {
	for _, v := range []struct {
		list []impl.Except
		want impl.Except
	}{
		{nil, except(0, 2, 1)},
		// Device 5 may not take the position, but the exception is there.
		{[]impl.Except{except(0, 2, 5)}, except(1, 2, 4)},
		{[]impl.Except{except(1, 2, 5)}, except(0, 2, 1)},
	} {
		e, code := impl.BalanceStep(sample(), hostRule(true), twoCopies(), v.list, nil)
		want, wantCode := stepFrom(sample(), hostRule(true), twoCopies(), v.list, nil)
		wantExcept(t, "BalanceStep", e, code, want, wantCode)
		wantExcept(t, "BalanceStep", e, code, v.want, impl.OK)
	}
}

// P15: Balance takes step by step, each behind the exceptions of its group, and
// stops where there is none.
func TestBalance(t *testing.T) {
	inside := 0
	for i, s := range scenes() {
		for _, steps := range []int64{0, 1, int64(2 + i%4), 16} {
			want := balancedFrom(s.x, s.r, s.p, s.list, s.out, steps)
			list, code := impl.Balance(s.x, s.r, s.p, s.list, s.out, steps)
			wantExcepts(t, "Balance", list, code, want, impl.OK)
			wantOk(t, "ExceptsOk of Balance", impl.ExceptsOk(list), true)
			if len(list) > len(s.list) && !slices.Equal(list[:len(s.list)], s.list) {
				inside++
			}
		}
	}
	if inside < 50 {
		t.Errorf("only %d lists got an exception inside", inside)
	}
}

// P15: a number of steps that is out of range is refused after all else.
func TestBalanceRefuses(t *testing.T) {
	for _, steps := range append(farNumbers(), -1, 17, 18) {
		for _, list := range [][]impl.Except{nil, sixteen()} {
			got, code := impl.Balance(sample(), hostRule(true), twoCopies(), list, nil, steps)
			wantExcepts(t, "Balance", got, code, nil, impl.ErrRange)
		}
	}
}
