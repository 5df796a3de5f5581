package tests

import (
	"math"
	"math/rand/v2"
	"regexp"
	"slices"
	"strconv"
	"strings"
	"testing"

	"loop.example/g00849/impl"
)

// someMap has room for all kinds of increments.
func someMap() impl.Map {
	return impl.Map{
		Epoch: 5, Term: 3, Tree: sample(),
		Rules: []impl.Rule{{Id: 1, Root: -4}, {Id: 3, Root: -4, Kind: impl.KdHost, Indep: true}},
		Pools: []impl.Pool{{Id: 1, Code: impl.Code{K: 1, M: 2}, Min: 2, Pgs: 2, Rule: 3}, {Id: 3, Code: impl.Code{K: 2, M: 1}, Min: 2, Pgs: 3, Rule: 1}},
		Up:    []int64{0, 1, 2, 4}, Out: []int64{2, 5},
	}
}

// firstMap is the same in epoch 1.
func firstMap() impl.Map {
	m := someMap()
	m.Epoch, m.Term = 1, 0
	return m
}

// threeNodes is a map with three devices, as in the document's example.
func threeNodes() impl.Map {
	return impl.Map{Epoch: 1, Tree: tree(devices(1, 1, 1), host(-1, 0, 1, 2), root(-2, -1)), Rules: []impl.Rule{{Id: 1, Root: -2}}, Pools: []impl.Pool{{Id: 1, Code: impl.Code{K: 1, M: 2}, Min: 2, Pgs: 2, Rule: 1}}, Up: []int64{0, 1, 2}}
}

// fullMap reaches all limits.
func fullMap() impl.Map {
	m := impl.Map{Epoch: 60, Term: 60, Tree: fullTree()}
	for id := int64(1); id <= 4; id++ {
		m.Rules = append(m.Rules, impl.Rule{Id: id, Root: -1, Kind: id % 3, Indep: id%2 == 0})
		m.Pools = append(m.Pools, impl.Pool{Id: id, Code: impl.Code{K: id, M: 3}, Min: id + 3, Pgs: 16, Rule: 5 - id})
	}
	for id := range int64(16) {
		m.Up, m.Out = append(m.Up, id), append(m.Out, id)
	}
	return m
}

// mapWith returns someMap with a change.
func mapWith(change func(m *impl.Map)) impl.Map {
	m := someMap()
	change(&m)
	return m
}

// rightMaps are valid, each in a way of its own.
func rightMaps() []impl.Map {
	return []impl.Map{
		{Epoch: 1}, {Epoch: 60, Term: 60}, {Epoch: 1, Term: 1, Tree: impl.Tree{Devices: []impl.Device{}}, Rules: []impl.Rule{}, Pools: []impl.Pool{}, Up: []int64{}, Out: []int64{}},
		someMap(), firstMap(), threeNodes(), fullMap(), {Epoch: 59, Tree: tree(devices(0, 8, 3)), Up: []int64{2}, Out: []int64{0}}, {Epoch: 2, Term: 1, Tree: racksTree(), Rules: []impl.Rule{{Id: 4, Root: -1, Kind: impl.KdRack}}, Up: []int64{12}},
		{Epoch: 30, Term: 29, Tree: linesTree(), Rules: []impl.Rule{{Id: 2, Root: -12}}, Pools: []impl.Pool{{Id: 4, Code: impl.Code{K: 1}, Min: 1, Pgs: 1, Rule: 2}}, Up: []int64{2, 15}, Out: []int64{2, 7, 15}},
		mapWith(func(m *impl.Map) { m.Term = 0 }), mapWith(func(m *impl.Map) { m.Term = 5 }), mapWith(func(m *impl.Map) { m.Pools = nil }), mapWith(func(m *impl.Map) { m.Up, m.Out = nil, nil }),
		mapWith(func(m *impl.Map) { m.Up, m.Out = []int64{0, 1, 2, 3, 4, 5}, []int64{0, 1, 2, 3, 4, 5} }), mapWith(func(m *impl.Map) { m.Rules[0].Kind = impl.KdRack }),
	}
}

// wrongMaps are not valid, each for a reason of its own.
func wrongMaps() []impl.Map {
	list := []impl.Map{{}, {Epoch: 61}, {Epoch: -1}, {Epoch: 1, Term: 2}, {Epoch: 1, Term: -1}}
	add := func(change func(m *impl.Map)) { list = append(list, mapWith(change)) }
	for _, x := range wrongTrees() {
		add(func(m *impl.Map) { m.Tree, m.Up, m.Out = x, nil, nil })
		list = append(list, impl.Map{Epoch: 1, Tree: x})
	}
	for _, n := range append(farNumbers(), -1) {
		add(func(m *impl.Map) { m.Epoch = n })
		add(func(m *impl.Map) { m.Term = n })
		add(func(m *impl.Map) { m.Up[0] = n })
		add(func(m *impl.Map) { m.Up[3] = n })
		add(func(m *impl.Map) { m.Out = []int64{n} })
		add(func(m *impl.Map) { m.Rules[1].Id = n })
		add(func(m *impl.Map) { m.Rules[0].Root = n })
		add(func(m *impl.Map) { m.Pools[1].Id = n })
		add(func(m *impl.Map) { m.Pools[1].Rule = n })
	}
	for _, nodes := range [][]int64{{0, 0}, {1, 0}, {0, 1, 1}, {0, 2, 1}, {6}, {15}, {0, 6}, {-4}, {-4, 0}, {5, 5}, {0, 1, 2, 3, 4, 5, 6}, {0, 1, 2, 3, 4, 5, 5}} {
		add(func(m *impl.Map) { m.Up = nodes })
		add(func(m *impl.Map) { m.Out = nodes })
	}
	add(func(m *impl.Map) { m.Term = 6 })
	add(func(m *impl.Map) { m.Epoch = 2 })
	add(func(m *impl.Map) { m.Tree.Devices = m.Tree.Devices[:5] })
	add(func(m *impl.Map) { m.Tree.Buckets = m.Tree.Buckets[:3] })
	for _, rules := range [][]impl.Rule{
		nil, {{Id: 1, Root: -4}}, {{Id: 3, Root: -4}}, {{Id: 3, Root: -4}, {Id: 1, Root: -4}}, {{Id: 1, Root: -4}, {Id: 3, Root: -4}, {Id: 3, Root: -4}}, {{Id: 1, Root: -4}, {Id: 3, Root: -3}}, {{Id: 1, Root: -4, Kind: impl.KdRoot}, {Id: 3, Root: -4}},
		{{Id: 1, Root: -4}, {Id: 2}, {Id: 3, Root: -4}}, {{Id: 0, Root: -4}, {Id: 1, Root: -4}, {Id: 3, Root: -4}}, {{Id: 1, Root: -4}, {Id: 3, Root: -4}, {Id: 5, Root: -4}}, {{Id: 1, Root: -4}, {Id: 1, Root: -4}, {Id: 3, Root: -4}},
	} {
		add(func(m *impl.Map) { m.Rules = rules })
	}
	p := someMap().Pools
	for _, pools := range [][]impl.Pool{{p[1], p[0]}, {p[0], p[0]}, {p[0], p[1], p[1]}, {{}}, {p[0], {}}, {{}, p[1]}} {
		add(func(m *impl.Map) { m.Pools = pools })
	}
	for i, q := range wrongPools() {
		if i%100 == 0 {
			add(func(m *impl.Map) { m.Pools[0] = q })
			add(func(m *impl.Map) { m.Pools[1] = q })
		}
	}
	return list
}

// isMap holds m against the document's sentence.
func isMap(m impl.Map) bool {
	if m.Epoch < 1 || m.Epoch > 60 || m.Term < 0 || m.Term > m.Epoch || !isTree(m.Tree) {
		return false
	}
	ids, roots, nodes := map[int64]bool{}, map[int64]bool{}, map[int64]bool{}
	for _, b := range m.Tree.Buckets {
		roots[b.Id] = b.Kind == impl.KdRoot
	}
	for _, d := range m.Tree.Devices {
		nodes[d.Id] = true
	}
	for i, r := range m.Rules {
		if r.Id < 1 || r.Id > 4 || !roots[r.Root] || r.Kind < 0 || r.Kind > 2 || i > 0 && r.Id <= m.Rules[i-1].Id {
			return false
		}
		ids[r.Id] = true
	}
	for i, p := range m.Pools {
		if !isPool(p) || !ids[p.Rule] || i > 0 && p.Id <= m.Pools[i-1].Id {
			return false
		}
	}
	for _, list := range [][]int64{m.Up, m.Out} {
		for i, id := range list {
			if !nodes[id] || i > 0 && id <= list[i-1] {
				return false
			}
		}
	}
	return true
}

func copiedMap(m impl.Map) impl.Map {
	m.Tree, m.Rules, m.Pools = copied(m.Tree), slices.Clone(m.Rules), slices.Clone(m.Pools)
	m.Up, m.Out = slices.Clone(m.Up), slices.Clone(m.Out)
	return m
}

// numbersIn points to all numbers of a map.
func numbersIn(m *impl.Map) []*int64 {
	list := append([]*int64{&m.Epoch, &m.Term}, numbersOf(m.Tree)...)
	for i := range m.Rules {
		list = append(list, &m.Rules[i].Id, &m.Rules[i].Root, &m.Rules[i].Kind)
	}
	for i := range m.Pools {
		list = append(list, pointers(&m.Pools[i])...)
	}
	for i := range m.Up {
		list = append(list, &m.Up[i])
	}
	for i := range m.Out {
		list = append(list, &m.Out[i])
	}
	return list
}

// isInc holds i against the document's sentence.
func isInc(i impl.Inc) bool {
	if i.Kind == impl.IcTerm {
		return i.Epoch >= 2 && i.Epoch <= 60 && i.A == 0 && i.B == 0
	}
	most := int64(0)
	if i.Kind == impl.IcWeight {
		most = 8
	}
	return i.Epoch >= 2 && i.Epoch <= 60 && i.Kind >= impl.IcUp && i.Kind <= impl.IcWeight && i.A >= 0 && i.A <= 15 && i.B >= 0 && i.B <= most
}

// incsFor are all valid increments for an epoch.
func incsFor(epoch int64) []impl.Inc {
	list := []impl.Inc{{Epoch: epoch, Kind: impl.IcTerm}}
	for node := range int64(16) {
		for _, kind := range []int64{impl.IcUp, impl.IcDown, impl.IcIn, impl.IcOut} {
			list = append(list, impl.Inc{Epoch: epoch, Kind: kind, A: node})
		}
		for weight := range int64(9) {
			list = append(list, impl.Inc{Epoch: epoch, Kind: impl.IcWeight, A: node, B: weight})
		}
	}
	return list
}

// wrongIncs have one number or two of a valid increment changed.
func wrongIncs() []impl.Inc {
	var list []impl.Inc
	numbers := append(farNumbers(), -2, -1, 0, 1, 2, 5, 6, 7, 8, 9, 15, 16, 60, 61)
	for _, right := range []impl.Inc{{Epoch: 6, Kind: impl.IcUp, A: 3}, {Epoch: 6, Kind: impl.IcWeight, A: 3, B: 2}, {Epoch: 6, Kind: impl.IcTerm}} {
		for i := range 4 {
			for j := range i + 1 {
				for _, m := range numbers {
					for _, n := range numbers {
						x := right
						all := []*int64{&x.Epoch, &x.Kind, &x.A, &x.B}
						*all[i], *all[j] = m, n
						if !isInc(x) {
							list = append(list, x)
						}
					}
				}
			}
		}
	}
	return list
}

// applied returns the map after a valid increment of a valid map.
func applied(m impl.Map, i impl.Inc) (impl.Map, int64) {
	at := slices.IndexFunc(m.Tree.Devices, func(d impl.Device) bool { return d.Id == i.A })
	isUp, isOut := slices.Contains(m.Up, i.A), slices.Contains(m.Out, i.A)
	switch {
	case i.Epoch <= m.Epoch:
		return impl.Map{}, impl.ErrOld
	case i.Epoch != m.Epoch+1:
		return impl.Map{}, impl.ErrState
	case i.Kind != impl.IcTerm && at < 0:
		return impl.Map{}, impl.ErrNone
	case i.Kind == impl.IcUp && isUp, i.Kind == impl.IcDown && !isUp, i.Kind == impl.IcOut && isOut, i.Kind == impl.IcIn && !isOut:
		return impl.Map{}, impl.ErrState
	case i.Kind == impl.IcWeight && m.Tree.Devices[at].Weight == i.B:
		return impl.Map{}, impl.ErrState
	}
	next := copiedMap(m)
	next.Epoch = i.Epoch
	isA := func(id int64) bool { return id == i.A }
	switch i.Kind {
	case impl.IcUp:
		next.Up = append(next.Up, i.A)
	case impl.IcDown:
		next.Up = slices.DeleteFunc(next.Up, isA)
	case impl.IcIn:
		next.Out = slices.DeleteFunc(next.Out, isA)
	case impl.IcOut:
		next.Out = append(next.Out, i.A)
	case impl.IcWeight:
		next.Tree.Devices[at].Weight = i.B
	case impl.IcTerm:
		next.Term = i.Epoch
	}
	slices.Sort(next.Up)
	slices.Sort(next.Out)
	return next, impl.OK
}

// between tries all increments.
func between(a, b impl.Map) (impl.Inc, int64) {
	if b.Epoch == a.Epoch+1 {
		for _, i := range incsFor(b.Epoch) {
			if next, code := applied(a, i); code == impl.OK && sameMaps(next, b) {
				return i, impl.OK
			}
		}
	}
	return impl.Inc{}, impl.ErrNone
}

// sameMaps takes nil and empty lists for the same.
func sameMaps(a, b impl.Map) bool {
	sameTree := slices.Equal(a.Tree.Devices, b.Tree.Devices) && slices.EqualFunc(a.Tree.Buckets, b.Tree.Buckets, func(a, b impl.Bucket) bool {
		return a.Id == b.Id && a.Kind == b.Kind && slices.Equal(a.Items, b.Items)
	})
	return a.Epoch == b.Epoch && a.Term == b.Term && sameTree && slices.Equal(a.Rules, b.Rules) && slices.Equal(a.Pools, b.Pools) && slices.Equal(a.Up, b.Up) && slices.Equal(a.Out, b.Out)
}

// someWalk returns increments that can be applied one after the other, as many
// as there may be.
func someWalk(r *rand.Rand, m impl.Map) []impl.Inc {
	list := []impl.Inc{}
	for m.Epoch < 60 {
		all := incsFor(m.Epoch + 1)
		i := all[r.IntN(len(all))]
		if r.IntN(8) == 0 {
			i = impl.Inc{Epoch: m.Epoch + 1, Kind: impl.IcTerm}
		}
		if next, code := applied(m, i); code == impl.OK {
			list, m = append(list, i), next
		}
	}
	return list
}

func walked(m impl.Map, list []impl.Inc) []impl.Map {
	chain := []impl.Map{m}
	for _, i := range list {
		m, _ = applied(m, i)
		chain = append(chain, m)
	}
	return chain
}

func wantMap(t *testing.T, name string, got impl.Map, code int64, want impl.Map, wantCode int64) {
	t.Helper()
	if !sameMaps(got, want) || code != wantCode {
		t.Errorf("%s: %v, code %d; want %v, code %d", name, got, code, want, wantCode)
	}
}

func wantMaps(t *testing.T, name string, got []impl.Map, code int64, want []impl.Map, wantCode int64) {
	t.Helper()
	if !slices.EqualFunc(got, want, sameMaps) || code != wantCode {
		t.Errorf("%s: %v, code %d; want %v, code %d", name, got, code, want, wantCode)
	}
}

func wantInc(t *testing.T, name string, got impl.Inc, code int64, want impl.Inc, wantCode int64) {
	t.Helper()
	if got != want || code != wantCode {
		t.Errorf("%s: %v, code %d; want %v, code %d", name, got, code, want, wantCode)
	}
}

// P16: a map is valid as the document says, and one that is not is refused.
func TestMapOk(t *testing.T) {
	for _, m := range rightMaps() {
		wantOk(t, "MapOk", impl.MapOk(m), true)
		wantOk(t, "isMap", isMap(m), true)
	}
	for _, m := range wrongMaps() {
		wantOk(t, "isMap of a wrong map", isMap(m), false)
		refusedMap(t, m)
	}
}

// refusedMap wants nothing to be made of a map.
func refusedMap(t *testing.T, m impl.Map) {
	t.Helper()
	wantOk(t, "MapOk", impl.MapOk(m), false)
	wantOk(t, "PgsOf", len(impl.PgsOf(m)) > 0, false)
	for id := range int64(5) {
		p, ok := impl.PoolIn(m, id)
		wantOk(t, "PoolIn", ok || p != impl.Pool{}, false)
	}
	for _, i := range []impl.Inc{{}, {Epoch: m.Epoch, Kind: impl.IcTerm}, {Epoch: 6, Kind: impl.IcUp, A: 3}, {Epoch: 6, Kind: impl.IcDown, A: 9}, {Epoch: 2, Kind: impl.IcTerm}} {
		next, code := impl.ApplyInc(m, i)
		wantMap(t, "ApplyInc", next, code, impl.Map{}, impl.ErrForm)
		list, code := impl.PlayIncs(m, []impl.Inc{i})
		wantMaps(t, "PlayIncs", list, code, nil, impl.ErrForm)
	}
	list, code := impl.PlayIncs(m, nil)
	wantMaps(t, "PlayIncs", list, code, nil, impl.ErrForm)
	for _, other := range []impl.Map{m, someMap(), {Epoch: m.Epoch + 1}} {
		i, code := impl.IncOf(m, other)
		wantInc(t, "IncOf a wrong map", i, code, impl.Inc{}, impl.ErrForm)
		i, code = impl.IncOf(other, m)
		wantInc(t, "IncOf to a wrong map", i, code, impl.Inc{}, impl.ErrForm)
	}
	wantOk(t, "ChainOk", impl.ChainOk([]impl.Map{m}) || impl.ChainOk([]impl.Map{firstMap(), m}) || impl.ChainOk([]impl.Map{m, someMap()}), false)
}

// P16: with any one number changed, a map is valid or not as the document says.
func TestMapsWithOneNumberChanged(t *testing.T) {
	right, wrong := 0, 0
	for _, m := range rightMaps() {
		for k := range numbersIn(&m) {
			for _, n := range []int64{-13, -12, -5, -4, -2, -1, 0, 1, 2, 3, 4, 5, 6, 7, 8, 9, 15, 16, 17, 59, 60, 61} {
				x := copiedMap(m)
				*numbersIn(&x)[k] = n
				isRight := isMap(x)
				if impl.MapOk(x) != isRight {
					t.Fatalf("MapOk of %v: %v", x, !isRight)
				}
				if isRight {
					right++
				} else {
					wrong++
				}
			}
		}
	}
	if right < 1000 || wrong < 1000 {
		t.Errorf("%d of the maps are right, %d are wrong", right, wrong)
	}
}

// P16: SameMap tells apart any two maps, be they valid or not.
func TestSameMap(t *testing.T) {
	all := append(append(rightMaps(), wrongMaps()[:40]...), impl.Map{Tree: tree([]impl.Device{{Id: 99, Weight: -7}}, host(7, 7)), Up: []int64{3, 3}})
	for i, a := range all {
		wantOk(t, "SameMap of a copy", impl.SameMap(a, copiedMap(a)), true)
		for j, b := range all {
			if same := sameMaps(a, b); impl.SameMap(a, b) != same || i == j && !same {
				t.Errorf("SameMap of %v and %v: %v", a, b, !same)
			}
		}
		for k := range numbersIn(&a) {
			b := copiedMap(a)
			*numbersIn(&b)[k]++
			wantOk(t, "SameMap of a changed one", impl.SameMap(a, b) || impl.SameMap(b, a), false)
		}
		for n, b := range prolonged(a) {
			if impl.SameMap(a, b) || impl.SameMap(b, a) {
				t.Errorf("SameMap of one with a longer list: %d, %v", n, a)
			}
		}
		for n := range a.Rules {
			b := copiedMap(a)
			b.Rules[n].Indep = !b.Rules[n].Indep
			wantOk(t, "SameMap of another rule", impl.SameMap(a, b), false)
		}
	}
	empty := impl.Map{Tree: impl.Tree{Devices: []impl.Device{}, Buckets: []impl.Bucket{}}, Rules: []impl.Rule{}, Pools: []impl.Pool{}, Up: []int64{}, Out: []int64{}}
	wantOk(t, "SameMap of nil and empty lists", impl.SameMap(empty, impl.Map{}) && impl.SameMap(impl.Map{}, empty), true)
}

// prolonged returns m with each of its lists one longer.
func prolonged(m impl.Map) []impl.Map {
	var list []impl.Map
	for _, change := range []func(m *impl.Map){
		func(m *impl.Map) { m.Tree.Devices = append(m.Tree.Devices, impl.Device{}) },
		func(m *impl.Map) { m.Tree.Buckets = append(m.Tree.Buckets, impl.Bucket{}) },
		func(m *impl.Map) { m.Rules = append(m.Rules, impl.Rule{}) },
		func(m *impl.Map) { m.Pools = append(m.Pools, impl.Pool{}) },
		func(m *impl.Map) { m.Up = append(m.Up, 0) },
		func(m *impl.Map) { m.Out = append(m.Out, 0) },
	} {
		x := copiedMap(m)
		change(&x)
		list = append(list, x)
	}
	for n := range m.Tree.Buckets {
		x := copiedMap(m)
		x.Tree.Buckets[n].Items = append(x.Tree.Buckets[n].Items, 0)
		list = append(list, x)
	}
	return list
}

// P16: the pools of a map are found by their Ids, and its placement groups are
// those of its pools.
func TestPoolInAndPgsOf(t *testing.T) {
	for _, m := range rightMaps() {
		var want []impl.Pg
		for _, p := range m.Pools {
			got, ok := impl.PoolIn(m, p.Id)
			wantOk(t, "PoolIn", ok && got == p, true)
			for no := range p.Pgs {
				want = append(want, impl.Pg{Pool: p.Id, No: no})
			}
		}
		if got := impl.PgsOf(m); !slices.Equal(got, want) {
			t.Errorf("PgsOf of %v: %v", m, got)
		}
		for _, id := range append(farNumbers(), -1, 0, 1, 2, 3, 4, 5) {
			if !slices.ContainsFunc(m.Pools, func(p impl.Pool) bool { return p.Id == id }) {
				p, ok := impl.PoolIn(m, id)
				wantOk(t, "PoolIn of none", ok || p != impl.Pool{}, false)
			}
		}
	}
}

// P16: an increment is valid as the document says, and one that is not is
// refused.
func TestIncOk(t *testing.T) {
	for epoch := int64(0); epoch <= 62; epoch++ {
		for kind := int64(-1); kind <= 8; kind++ {
			for a := int64(-1); a <= 17; a++ {
				for b := int64(-1); b <= 10; b++ {
					i := impl.Inc{Epoch: epoch, Kind: kind, A: a, B: b}
					if impl.IncOk(i) != isInc(i) {
						t.Fatalf("IncOk of %v: %v", i, !isInc(i))
					}
				}
			}
		}
	}
	for _, i := range wrongIncs() {
		wantOk(t, "IncOk of a wrong one", impl.IncOk(i), false)
		wantText(t, "ShowInc", impl.ShowInc(i), impl.OK, "", impl.OK)
		next, code := impl.ApplyInc(someMap(), i)
		wantMap(t, "ApplyInc of a wrong one", next, code, impl.Map{}, impl.ErrForm)
	}
}

// P16: an increment of a valid map leads to the next one, which is valid, or is
// refused as the document says.
func TestApplyInc(t *testing.T) {
	codes := map[int64]int{}
	for _, m := range rightMaps() {
		for epoch := max(2, m.Epoch-2); epoch <= min(60, m.Epoch+3); epoch++ {
			for _, i := range incsFor(epoch) {
				want, wantCode := applied(m, i)
				next, code := impl.ApplyInc(m, i)
				wantMap(t, "ApplyInc", next, code, want, wantCode)
				wantOk(t, "MapOk after ApplyInc", impl.MapOk(next), code == impl.OK)
				codes[code]++
			}
		}
	}
	for _, code := range []int64{impl.OK, impl.ErrOld, impl.ErrState, impl.ErrNone} {
		if codes[code] < 100 {
			t.Errorf("only %d increments have code %d", codes[code], code)
		}
	}
}

// P16: the errors of ApplyInc come in the document's order; an increment that
// changes nothing is refused last.
func TestApplyIncRefuses(t *testing.T) {
	for _, v := range []struct {
		i    impl.Inc
		code int64
	}{
		{impl.Inc{Epoch: 5, Kind: impl.IcUp, A: 16}, impl.ErrForm}, {impl.Inc{Epoch: 61, Kind: impl.IcTerm}, impl.ErrForm}, {impl.Inc{Epoch: 1, Kind: impl.IcTerm}, impl.ErrForm}, {impl.Inc{Epoch: 6, Kind: impl.IcTerm, A: 1}, impl.ErrForm},
		{impl.Inc{Epoch: 5, Kind: impl.IcUp, A: 9}, impl.ErrOld}, {impl.Inc{Epoch: 5, Kind: impl.IcUp, A: 0}, impl.ErrOld}, {impl.Inc{Epoch: 2, Kind: impl.IcTerm}, impl.ErrOld}, {impl.Inc{Epoch: 5, Kind: impl.IcUp, A: 3}, impl.ErrOld},
		{impl.Inc{Epoch: 7, Kind: impl.IcUp, A: 9}, impl.ErrState}, {impl.Inc{Epoch: 7, Kind: impl.IcUp, A: 3}, impl.ErrState}, {impl.Inc{Epoch: 60, Kind: impl.IcTerm}, impl.ErrState},
		{impl.Inc{Epoch: 6, Kind: impl.IcUp, A: 9}, impl.ErrNone}, {impl.Inc{Epoch: 6, Kind: impl.IcDown, A: 6}, impl.ErrNone}, {impl.Inc{Epoch: 6, Kind: impl.IcIn, A: 15}, impl.ErrNone}, {impl.Inc{Epoch: 6, Kind: impl.IcOut, A: 9}, impl.ErrNone}, {impl.Inc{Epoch: 6, Kind: impl.IcWeight, A: 9}, impl.ErrNone},
		{impl.Inc{Epoch: 6, Kind: impl.IcUp, A: 4}, impl.ErrState}, {impl.Inc{Epoch: 6, Kind: impl.IcDown, A: 3}, impl.ErrState}, {impl.Inc{Epoch: 6, Kind: impl.IcIn, A: 0}, impl.ErrState}, {impl.Inc{Epoch: 6, Kind: impl.IcOut, A: 5}, impl.ErrState}, {impl.Inc{Epoch: 6, Kind: impl.IcWeight, A: 4, B: 3}, impl.ErrState}, {impl.Inc{Epoch: 6, Kind: impl.IcWeight, A: 5}, impl.ErrState},
		{impl.Inc{Epoch: 6, Kind: impl.IcUp, A: 3}, impl.OK}, {impl.Inc{Epoch: 6, Kind: impl.IcDown, A: 0}, impl.OK}, {impl.Inc{Epoch: 6, Kind: impl.IcIn, A: 5}, impl.OK}, {impl.Inc{Epoch: 6, Kind: impl.IcOut, A: 0}, impl.OK}, {impl.Inc{Epoch: 6, Kind: impl.IcWeight, A: 4}, impl.OK}, {impl.Inc{Epoch: 6, Kind: impl.IcTerm}, impl.OK},
	} {
		want := impl.Map{}
		if v.code == impl.OK {
			want, _ = applied(someMap(), v.i)
		}
		next, code := impl.ApplyInc(someMap(), v.i)
		wantMap(t, "ApplyInc", next, code, want, v.code)
		list, code := impl.PlayIncs(someMap(), []impl.Inc{v.i})
		if v.code == impl.OK {
			wantMaps(t, "PlayIncs", list, code, []impl.Map{someMap(), want}, impl.OK)
		} else {
			wantMaps(t, "PlayIncs", list, code, nil, v.code)
		}
	}
}

// P16: an increment is determined by the maps before and after it.
func TestIncOf(t *testing.T) {
	found := 0
	for _, m := range rightMaps() {
		i, code := impl.IncOf(m, m)
		wantInc(t, "IncOf a map itself", i, code, impl.Inc{}, impl.ErrNone)
		for _, i := range incsFor(min(60, m.Epoch+1)) {
			next, code := impl.ApplyInc(m, i)
			if code != impl.OK {
				continue
			}
			found++
			again, code := impl.IncOf(m, next)
			wantInc(t, "IncOf", again, code, i, impl.OK)
			again, code = impl.IncOf(next, m)
			wantInc(t, "IncOf back", again, code, impl.Inc{}, impl.ErrNone)
			// Nothing but the epoch, or another epoch.
			same, early, late := copiedMap(m), copiedMap(next), copiedMap(next)
			same.Epoch, early.Epoch, late.Epoch = next.Epoch, m.Epoch, min(60, next.Epoch+1)
			for _, other := range []impl.Map{same, early, late} {
				if isMap(other) && !sameMaps(other, next) {
					again, code = impl.IncOf(m, other)
					wantInc(t, "IncOf another epoch", again, code, impl.Inc{}, impl.ErrNone)
				}
			}
		}
	}
	if found < 500 {
		t.Errorf("only %d increments were found", found)
	}
}

// P16: maps that differ in more, or elsewhere, have no increment between them.
func TestIncOfOtherMaps(t *testing.T) {
	r := source(111)
	found, none := 0, 0
	for _, m := range rightMaps() {
		all := incsFor(min(60, m.Epoch+1))
		for range 40 {
			next, code := applied(m, all[r.IntN(len(all))])
			if code != impl.OK {
				continue
			}
			for k := range numbersIn(&next) {
				other := copiedMap(next)
				*numbersIn(&other)[k] = r.Int64N(18) - 5
				if !isMap(other) {
					continue
				}
				want, wantCode := between(m, other)
				i, code := impl.IncOf(m, other)
				wantInc(t, "IncOf", i, code, want, wantCode)
				if code == impl.OK {
					found++
				} else {
					none++
				}
			}
		}
	}
	if found < 300 || none < 600 {
		t.Errorf("%d pairs have an increment, %d have none", found, none)
	}
	for _, change := range []func(m *impl.Map){
		func(m *impl.Map) { m.Rules[0].Indep = true },
		func(m *impl.Map) { m.Rules = append(m.Rules, impl.Rule{Id: 4, Root: -4}) },
		func(m *impl.Map) { m.Pools = m.Pools[:1] },
		func(m *impl.Map) { m.Pools[0].Pgs = 4 },
		func(m *impl.Map) { m.Tree.Devices = append(m.Tree.Devices, impl.Device{Id: 9}) },
		func(m *impl.Map) { m.Tree.Buckets[0].Items = []int64{1, 0} },
		func(m *impl.Map) { m.Tree.Buckets = append(m.Tree.Buckets, host(-9)) },
		func(m *impl.Map) { m.Tree.Devices[1].Weight, m.Tree.Devices[2].Weight = 1, 2 },
		func(m *impl.Map) { m.Term = 4 },
		func(m *impl.Map) { m.Term = 2 },
		func(m *impl.Map) { m.Term = 0 },
		func(m *impl.Map) { m.Up = []int64{0, 1, 2, 3, 4, 5} },
		func(m *impl.Map) { m.Up = []int64{0, 1} },
		func(m *impl.Map) { m.Up = []int64{0, 1, 3, 4} },
		func(m *impl.Map) { m.Up, m.Out = []int64{0, 1, 4}, []int64{5} },
		func(m *impl.Map) { m.Out = nil },
		func(m *impl.Map) { m.Out, m.Term = []int64{5}, 6 },
		func(m *impl.Map) {},
	} {
		other := someMap()
		other.Epoch = 6
		change(&other)
		wantOk(t, "MapOk", impl.MapOk(other), true)
		i, code := impl.IncOf(someMap(), other)
		wantInc(t, "IncOf", i, code, impl.Inc{}, impl.ErrNone)
		wantOk(t, "ChainOk", impl.ChainOk([]impl.Map{firstMap(), other}), false)
	}
}

// P16: increments that are applied one after the other yield a chain, and the
// same in parts.
func TestPlayIncs(t *testing.T) {
	r := source(112)
	for _, m := range append(rightMaps(), firstMap(), firstMap(), threeNodes()) {
		list := someWalk(r, m)
		want := walked(m, list)
		chain, code := impl.PlayIncs(m, list)
		wantMaps(t, "PlayIncs", chain, code, want, impl.OK)
		wantOk(t, "ChainOk", impl.ChainOk(chain), m.Epoch == 1)
		for n := range list {
			first, code := impl.PlayIncs(m, list[:n])
			wantMaps(t, "PlayIncs of a part", first, code, want[:n+1], impl.OK)
			second, code := impl.PlayIncs(first[n], list[n:])
			wantMaps(t, "PlayIncs of the rest", second, code, want[n:], impl.OK)
			i, code := impl.IncOf(chain[n], chain[n+1])
			wantInc(t, "IncOf", i, code, list[n], impl.OK)
		}
	}
}

// P16: the document's example.
func TestPlayIncsExample(t *testing.T) {
	var list []impl.Inc
	for _, text := range []string{"2 out 0", "3 down 1", "4 up 1", "5 term"} {
		i, ok := impl.ReadInc(text)
		wantOk(t, "ReadInc", ok, true)
		list = append(list, i)
	}
	want := slices.Repeat([]impl.Map{threeNodes()}, 5)
	for n := range want {
		want[n].Epoch = int64(n) + 1
		if n > 0 {
			want[n].Out = []int64{0}
		}
	}
	want[2].Up, want[4].Term = []int64{0, 2}, 5
	chain, code := impl.PlayIncs(threeNodes(), list)
	wantMaps(t, "PlayIncs", chain, code, want, impl.OK)
	wantOk(t, "ChainOk", impl.ChainOk(chain), true)
}

// P16: the first increment that cannot be applied gives the code, unless there
// are too many of them.
func TestPlayIncsRefuses(t *testing.T) {
	term := func(epoch int64) impl.Inc { return impl.Inc{Epoch: epoch, Kind: impl.IcTerm} }
	for _, v := range []struct {
		bad  impl.Inc
		code int64
	}{{impl.Inc{}, impl.ErrForm}, {impl.Inc{Epoch: 7, Kind: impl.IcUp, A: 16}, impl.ErrForm}, {term(6), impl.ErrOld}, {term(8), impl.ErrState}, {impl.Inc{Epoch: 7, Kind: impl.IcOut, A: 9}, impl.ErrNone}, {impl.Inc{Epoch: 7, Kind: impl.IcOut, A: 2}, impl.ErrState}} {
		for _, behind := range []impl.Inc{{}, term(6), term(7), term(8), {Epoch: 7, Kind: impl.IcOut, A: 9}} {
			list, code := impl.PlayIncs(someMap(), []impl.Inc{term(6), v.bad, behind})
			wantMaps(t, "PlayIncs", list, code, nil, v.code)
		}
	}
	for n := 58; n <= 70; n++ {
		var all []impl.Inc
		for epoch := range int64(n) {
			all = append(all, term(epoch+2))
		}
		for _, m := range []impl.Map{threeNodes(), someMap()} {
			want, wantCode := []impl.Map(nil), int64(impl.ErrOld)
			switch {
			case n > 59:
				wantCode = impl.ErrForm
			case m.Epoch == 1:
				want, wantCode = walked(m, all), impl.OK
			}
			list, code := impl.PlayIncs(m, all)
			wantMaps(t, "PlayIncs of many", list, code, want, wantCode)
		}
	}
}

// P16: a chain begins with epoch 1 and has all epochs, one by one.
func TestChainOk(t *testing.T) {
	r := source(113)
	chain := walked(firstMap(), someWalk(r, firstMap()))
	wantOk(t, "ChainOk of nothing", impl.ChainOk(nil) || impl.ChainOk([]impl.Map{}), false)
	for n := 1; n <= 60; n++ {
		wantOk(t, "ChainOk of a part", impl.ChainOk(chain[:n]), true)
		wantOk(t, "ChainOk of the rest", impl.ChainOk(chain[n:]), false)
		if n >= 59 {
			continue
		}
		less := slices.Concat(chain[:n], chain[n+1:])
		twice := slices.Concat(chain[:n], chain[n-1:])
		turned := slices.Concat(chain[:n], []impl.Map{chain[n+1], chain[n]}, chain[n+2:])
		wantOk(t, "ChainOk of other lists", impl.ChainOk(less) || impl.ChainOk(twice) || impl.ChainOk(turned), false)
		for k := range numbersIn(&chain[n]) {
			other := slices.Clone(chain)
			other[n] = copiedMap(chain[n])
			*numbersIn(&other[n])[k]++
			_, before := between(chain[n-1], other[n])
			_, behind := between(other[n], chain[n+1])
			wantOk(t, "ChainOk with a changed map", impl.ChainOk(other), isMap(other[n]) && before == impl.OK && behind == impl.OK)
		}
	}
	for _, m := range rightMaps() {
		wantOk(t, "ChainOk of one", impl.ChainOk([]impl.Map{m}), m.Epoch == 1)
	}
	more := append(slices.Clone(chain), chain[59])
	wantOk(t, "ChainOk of too many", impl.ChainOk(more) || impl.ChainOk(slices.Repeat([]impl.Map{firstMap()}, 61)), false)
}

// incText writes an increment as the document has it.
func incText(i impl.Inc) string {
	word := map[int64]string{1: "up", 2: "down", 3: "in", 4: "out", 5: "weight", 6: "term"}[i.Kind]
	text := strconv.FormatInt(i.Epoch, 10) + " " + word
	if i.Kind < 6 {
		text += " " + strconv.FormatInt(i.A, 10)
	}
	if i.Kind == 5 {
		text += " " + strconv.FormatInt(i.B, 10)
	}
	return text
}

var (
	nodeInc   = regexp.MustCompile(`^([1-9][0-9]?) (up|down|in|out) (0|[1-9][0-9]?)$`)
	weightInc = regexp.MustCompile(`^([1-9][0-9]?) (weight) (0|[1-9][0-9]?) ([0-9])$`)
	termInc   = regexp.MustCompile(`^([1-9][0-9]?) (term)$`)
)

// incRead reads a text. Numbers of three digits are in no valid increment.
func incRead(text string) (impl.Inc, bool) {
	kinds := map[string]int64{"up": 1, "down": 2, "in": 3, "out": 4, "weight": 5, "term": 6}
	for _, form := range []*regexp.Regexp{nodeInc, weightInc, termInc} {
		parts := form.FindStringSubmatch(text)
		if parts == nil {
			continue
		}
		numbers := []int64{0, 0, 0}
		for k, part := range slices.Concat(parts[1:2], parts[3:]) {
			numbers[k], _ = strconv.ParseInt(part, 10, 64)
		}
		i := impl.Inc{Epoch: numbers[0], Kind: kinds[parts[2]], A: numbers[1], B: numbers[2]}
		if isInc(i) {
			return i, true
		}
	}
	return impl.Inc{}, false
}

func wantRead(t *testing.T, text string, want impl.Inc, wantOk bool) {
	t.Helper()
	i, ok := impl.ReadInc(text)
	if i != want || ok != wantOk {
		t.Errorf("ReadInc of %q: %v, %v; want %v, %v", text, i, ok, want, wantOk)
	}
}

// P16: each increment is read back from its text, which is as the document has
// it.
func TestShowIncAndReadInc(t *testing.T) {
	for epoch := int64(2); epoch <= 60; epoch++ {
		for _, i := range incsFor(epoch) {
			text := impl.ShowInc(i)
			wantText(t, "ShowInc", text, impl.OK, incText(i), impl.OK)
			wantRead(t, text, i, true)
		}
	}
	for text, i := range map[string]impl.Inc{"12 weight 3 8": {Epoch: 12, Kind: 5, A: 3, B: 8}, "60 term": {Epoch: 60, Kind: 6}, "2 up 0": {Epoch: 2, Kind: 1}, "3 down 15": {Epoch: 3, Kind: 2, A: 15}, "4 in 1": {Epoch: 4, Kind: 3, A: 1}, "5 out 2": {Epoch: 5, Kind: 4, A: 2}, "6 weight 0 0": {Epoch: 6, Kind: 5}} {
		wantText(t, "ShowInc", impl.ShowInc(i), impl.OK, text, impl.OK)
		wantRead(t, text, i, true)
	}
	for _, n := range append(farNumbers(), -1, 0, 7) {
		wantText(t, "ShowInc of a wrong one", impl.ShowInc(impl.Inc{Epoch: 2, Kind: n})+impl.ShowInc(impl.Inc{Epoch: n, Kind: 9})+impl.ShowInc(impl.Inc{}), impl.OK, "", impl.OK)
	}
}

// P16: what is no text of an increment is not read.
func TestReadIncOfOtherTexts(t *testing.T) {
	for _, text := range []string{
		"", " ", "  ", "   ", "2", "2 ", "2 up", "2 up ", " 2 up 1", "2 up 1 ", "2  up 1", "2 up  1", "2\tup 1", "2 up 1\n", "\n2 up 1", "2 up 1\x00", "02 up 1", "2 up 01", "+2 up 1", "2 up +1", "2 up -1", "-2 up 1", "2 up -0", "2 up 1 0", "2 up 1 2", "2 up 1 1 1",
		"1 up 1", "0 up 1", "61 up 1", "2 up 16", "2 Up 1", "2 UP 1", "2 ups 1", "2 u 1", "2  1", "up 2 1", "2 1 up", "2 up up", "up up 1", "2up 1", "2 up1", "2 up 1.0", "2 up 0x1", "2 up 1_0", "2 up 1e0", "2.0 up 1", "2 up a",
		"2 term 0", "2 term ", "2 term 0 0", "2 terms", "term", " term", "1 term", "61 term", "02 term", "2 term\n", "2 weight", "2 weight 1", "2 weight 1 ", "2 weight 1 9", "2 weight 1 -1", "2 weight 1 01", "2 weight 16 1", "2 weight 1 1 1", "2 weight 1  1", "2 weight 1 +1",
		"99999999999999999999 term", "18446744073709551618 term", "2 up 18446744073709551617", "2 up \uff11", "\u0662 term", "2 \x00 1", "2 \xff 1", "2 up 1 2 up 1", strings.Repeat("2 up 1 ", 1000), strings.Repeat("0", 1000) + "2 term", strings.Repeat(" ", 1000), "2 " + strings.Repeat("up", 1000) + " 1", "2 term" + strings.Repeat(" 0", 1000),
		strconv.FormatInt(math.MinInt64, 10) + " term", strconv.FormatInt(math.MaxInt64, 10) + " term", "2 none 1", "2 set 1", "2 ok", "-1 term", "2 -1 1", "2 0 1", "2 6",
	} {
		wantRead(t, text, impl.Inc{}, false)
	}
}

// P16: a text that is nearly one of an increment is read if and only if it is
// one of another.
func TestReadIncOfChangedTexts(t *testing.T) {
	read, unread := 0, 0
	want := func(text string) {
		i, ok := incRead(text)
		wantRead(t, text, i, ok)
		if ok {
			read++
		} else {
			unread++
		}
	}
	for epoch := int64(2); epoch <= 60; epoch += 29 {
		for _, i := range incsFor(epoch) {
			text := incText(i)
			changedTexts(text, want)
			for _, word := range []string{"up", "down", "in", "out", "weight", "term", "", "UP", "in in", "on"} {
				want(strings.Replace(text, strings.Fields(text)[1], word, 1))
			}
		}
	}
	if read < 5000 || unread < 50000 {
		t.Errorf("%d texts are those of an increment, %d are not", read, unread)
	}
}
