package tests

import (
	"math"
	"math/rand/v2"
	"slices"
	"testing"

	"loop.example/g00849/impl"
)

// rightActings are valid, each in a way of its own.
func rightActings() [][]int64 {
	list := [][]int64{
		{-1}, {0}, {15}, {7}, {-1, -1}, {0, 15}, {15, 0}, {-1, 3}, {3, -1}, {-1, 4, 0, -1}, {4, -1, 0}, {2, 3, 4}, {9, 8, 7},
		{0, 1, 2, 3, 4, 5, 6}, {15, 14, 13, 12, 11, 10, 9}, {-1, -1, -1, -1, -1, -1, -1}, {-1, -1, -1, -1, -1, -1, 5}, {5, -1, -1, -1, -1, -1, -1}, {8, 15, -1, 3, 0, -1, 6},
	}
	r := source(121)
	for range 60 {
		list = append(list, someActing(r, 1+r.IntN(7)))
	}
	return list
}

// someActing returns a valid acting set of n elements.
func someActing(r *rand.Rand, n int) []int64 {
	list := make([]int64, n)
	for i, node := range r.Perm(16)[:n] {
		list[i] = int64(node)
		if r.IntN(3) == 0 {
			list[i] = -1
		}
	}
	return list
}

// wrongActings are not valid, each for a reason of its own.
func wrongActings() [][]int64 {
	list := [][]int64{
		nil, {}, {0, 1, 2, 3, 4, 5, 6, 7}, {-1, -1, -1, -1, -1, -1, -1, -1}, {0, -1, -1, -1, -1, -1, -1, -1}, make([]int64, 300), slices.Repeat([]int64{-1}, 300),
		{4, 4}, {0, 0}, {15, 15}, {4, -1, 4}, {-1, 4, 0, 4}, {3, 2, 1, 2}, {0, 1, 2, 3, 4, 5, 0}, {-1, 7, 7, -1}, {1, 1, 1}, {16}, {-2}, {16, 0}, {0, 16}, {-2, 0}, {0, -2}, {-1, 16}, {-2, -2}, {-1, -1, -1, -1, -1, -1, -2},
	}
	for _, n := range farNumbers() {
		list = append(list, []int64{n}, []int64{3, n}, []int64{n, -1, 2})
	}
	return list
}

// isActing holds a list against the document's sentence.
func isActing(list []int64) bool {
	for i, node := range list {
		for j, other := range list {
			if i != j && node == other && node != -1 {
				return false
			}
		}
		if node < -1 || node > 15 {
			return false
		}
	}
	return len(list) >= 1 && len(list) <= 7
}

// wantActing holds what is said of an acting set against the document.
func wantActing(t *testing.T, acting []int64) {
	t.Helper()
	right := isActing(acting)
	wantOk(t, "ActingOk", impl.ActingOk(acting), right)
	var members []int64
	leader := int64(-1)
	for node := range int64(16) {
		if right && slices.Contains(acting, node) {
			members = append(members, node)
		}
	}
	for i := len(acting) - 1; i >= 0; i-- {
		if right && acting[i] != -1 {
			leader = acting[i]
		}
	}
	wantNumber(t, "TakenOf", impl.TakenOf(acting), 0, int64(len(members)), 0)
	wantNumber(t, "LeaderOf", impl.LeaderOf(acting), 0, leader, 0)
	wantNumbers(t, "MembersOf", impl.MembersOf(acting), 0, members, 0)
	nodes := append(farNumbers(), slices.Clone(acting)...)
	for node := int64(-3); node <= 18; node++ {
		nodes = append(nodes, node)
	}
	for _, node := range nodes {
		place := int64(-1)
		for i, other := range acting {
			if right && other == node && node >= 0 {
				place = int64(i)
			}
		}
		wantNumber(t, "PlaceOf", impl.PlaceOf(acting, node), 0, place, 0)
	}
}

// P17: an acting set is valid as the document says, and one that is not has no
// nodes.
func TestActingSets(t *testing.T) {
	for _, acting := range rightActings() {
		wantOk(t, "isActing", isActing(acting), true)
		wantActing(t, acting)
	}
	for _, acting := range wrongActings() {
		wantOk(t, "isActing of a wrong one", isActing(acting), false)
		wantActing(t, acting)
	}
	numbers := []int64{-2, -1, 0, 1, 7, 15, 16}
	for _, a := range numbers {
		wantActing(t, []int64{a})
		for _, b := range numbers {
			wantActing(t, []int64{a, b})
			for _, c := range numbers {
				wantActing(t, []int64{a, b, c})
				wantActing(t, []int64{3, a, b, c, -1, 4, 5})
			}
		}
	}
	for n := range 12 {
		for _, first := range []int64{0, 1, 4, 8} {
			rising := make([]int64, n)
			for i := range rising {
				rising[i] = first + int64(i)
			}
			wantActing(t, rising)
		}
		wantActing(t, slices.Repeat([]int64{-1}, n))
	}
}

// P17: the document's example.
func TestActingSetExample(t *testing.T) {
	acting := []int64{-1, 4, 0, -1}
	wantOk(t, "ActingOk", impl.ActingOk(acting), true)
	wantNumber(t, "TakenOf", impl.TakenOf(acting), 0, 2, 0)
	wantNumber(t, "LeaderOf", impl.LeaderOf(acting), 0, 4, 0)
	wantNumber(t, "PlaceOf", impl.PlaceOf(acting, 0), 0, 2, 0)
	wantNumber(t, "PlaceOf a hole", impl.PlaceOf(acting, -1), 0, -1, 0)
	wantNumbers(t, "MembersOf", impl.MembersOf(acting), 0, []int64{0, 4}, 0)
}

// poolMaps are valid maps of epoch 1, with rules and pools whose Ids are not
// those of their places in the lists.
func poolMaps() []impl.Map {
	r := source(122)
	var list []impl.Map
	for _, x := range placeTrees() {
		rules := rulesOf(x)
		r.Shuffle(len(rules), func(i, j int) { rules[i], rules[j] = rules[j], rules[i] })
		m := impl.Map{Epoch: 1, Term: r.Int64N(2), Tree: x, Up: someNodes(r, x, 7), Out: someNodes(r, x, 1)}
		for i, id := range [][]int64{{2, 4}, {1, 3, 4}, {3}, {2, 3}}[len(list)%4] {
			rule := rules[i%len(rules)]
			rule.Id = id
			m.Rules = append(m.Rules, rule)
		}
		codes := allCodes()
		for _, id := range [][]int64{{1, 3}, {4}, {2, 3, 4}, {2}}[len(list)/2%4] {
			c := codes[r.IntN(len(codes))]
			rule := m.Rules[r.IntN(len(m.Rules))].Id
			m.Pools = append(m.Pools, impl.Pool{Id: id, Code: c, Min: c.K + r.Int64N(c.M+1), Pgs: 1 + r.Int64N(5), Rule: rule})
		}
		list = append(list, m)
	}
	return list
}

// someNodes returns some of the devices of x: as many eighths of them as given.
func someNodes(r *rand.Rand, x impl.Tree, eighths int) []int64 {
	var list []int64
	for _, d := range x.Devices {
		if r.IntN(8) < eighths {
			list = append(list, d.Id)
		}
	}
	return list
}

// groupsIn lists the placement groups of a valid map.
func groupsIn(m impl.Map) []impl.Pg {
	var list []impl.Pg
	for _, p := range m.Pools {
		for no := range p.Pgs {
			list = append(list, impl.Pg{Pool: p.Id, No: no})
		}
	}
	return list
}

// poolWith returns the pool of a placement group of a valid map.
func poolWith(m impl.Map, g impl.Pg) impl.Pool {
	return m.Pools[slices.IndexFunc(m.Pools, func(p impl.Pool) bool { return p.Id == g.Pool })]
}

// actingIn returns the acting set of a placement group of a valid map, as the
// document has it.
func actingIn(m impl.Map, g impl.Pg) []int64 {
	p := poolWith(m, g)
	r := m.Rules[slices.IndexFunc(m.Rules, func(r impl.Rule) bool { return r.Id == p.Rule })]
	seed := mixOf([]int64{g.Pool, g.No})
	acting := placedWithout(m.Tree, r, seed, placedWhole(m.Tree, r, seed, p.Code.K+p.Code.M), m.Out)
	for i, node := range acting {
		if !slices.Contains(m.Up, node) {
			acting[i] = -1
		}
	}
	return acting
}

// takenIn counts the nodes of an acting set.
func takenIn(acting []int64) int64 {
	n := int64(0)
	for _, node := range acting {
		if node >= 0 {
			n++
		}
	}
	return n
}

// strangePgs are near the placement groups of a map, or far from all of them.
func strangePgs(m impl.Map) []impl.Pg {
	list := []impl.Pg{{}}
	numbers := append(farNumbers(), -1, 0, 1, 2, 3, 4, 5, 6, 15, 16)
	for _, a := range numbers {
		for _, b := range numbers {
			if g := (impl.Pg{Pool: a, No: b}); !slices.Contains(groupsIn(m), g) {
				list = append(list, g)
			}
		}
	}
	return list
}

func wantNoActing(t *testing.T, m impl.Map, g impl.Pg) {
	t.Helper()
	acting, ok := impl.ActingOf(m, g)
	wantPlaces(t, "ActingOf of none", acting, ok, nil, false)
	wantOk(t, "MayServe of none", impl.MayServe(m, g), false)
}

// P17: each placement group of a map has the acting set that the document says,
// and nothing else has one.
func TestActingOf(t *testing.T) {
	full, holes := 0, 0
	for _, m := range append(rightMaps(), poolMaps()...) {
		wantOk(t, "MapOk", impl.MapOk(m), true)
		groups := groupsIn(m)
		// The greatest maps take long, and their groups are much alike.
		for _, g := range groups[:min(len(groups), 12)] {
			want := actingIn(m, g)
			acting, ok := impl.ActingOf(m, g)
			wantPlaces(t, "ActingOf", acting, ok, want, true)
			wantOk(t, "ActingOk", impl.ActingOk(acting), true)
			wantOk(t, "MayServe", impl.MayServe(m, g), takenIn(want) >= poolWith(m, g).Min)
			if slices.Contains(want, -1) {
				holes++
			} else {
				full++
			}
		}
	}
	if full < 15 || holes < 50 {
		t.Errorf("%d acting sets are full, %d have holes", full, holes)
	}
	for _, m := range []impl.Map{someMap(), threeNodes(), fullMap(), {Epoch: 1}, poolMaps()[0], poolMaps()[1]} {
		for _, g := range strangePgs(m) {
			wantNoActing(t, m, g)
		}
	}
}

// P17: a map that is not valid has no acting sets.
func TestActingOfWrongMaps(t *testing.T) {
	for _, m := range wrongMaps() {
		for _, g := range []impl.Pg{{}, {Pool: 1}, {Pool: 1, No: 1}, {Pool: 3}, {Pool: 3, No: 2}, {Pool: 4}} {
			wantNoActing(t, m, g)
		}
		for node := int64(-1); node <= 6; node++ {
			if list := impl.PgsAt(m, node); len(list) > 0 {
				t.Errorf("PgsAt of a wrong map: %v", list)
			}
		}
	}
}

// P17: every node of an acting set is up and not out and is there once; there
// are as many elements as shards, and the nodes are in different domains.
func TestActingNodesAreUpAndIn(t *testing.T) {
	r := source(123)
	for _, m := range poolMaps() {
		for range 6 {
			m.Up, m.Out = someNodes(r, m.Tree, 5), someNodes(r, m.Tree, 2)
			for _, g := range impl.PgsOf(m) {
				acting, ok := impl.ActingOf(m, g)
				p := poolWith(m, g)
				if !ok || int64(len(acting)) != p.Code.K+p.Code.M {
					t.Errorf("ActingOf: %v, %v for %v", acting, ok, p)
				}
				for i, node := range acting {
					if node == -1 {
						continue
					}
					if !slices.Contains(m.Up, node) || slices.Contains(m.Out, node) || slices.Contains(acting[i+1:], node) {
						t.Errorf("%v of %v is not up, or out, or there twice: %v, %v", node, acting, m.Up, m.Out)
					}
				}
				rule := m.Rules[slices.IndexFunc(m.Rules, func(r impl.Rule) bool { return r.Id == p.Rule })]
				wantOk(t, "isApart", isApart(m.Tree, rule.Kind, acting), true)
			}
		}
	}
}

// stepped returns m after an increment, or an empty map if there is no such.
func stepped(m impl.Map, kind, node int64) impl.Map {
	next, _ := applied(m, impl.Inc{Epoch: m.Epoch + 1, Kind: kind, A: node})
	return next
}

// P17: if a node goes down, its element becomes a hole and no other one changes;
// if it comes up again, it is back at its place.
func TestNodesGoDownAndUp(t *testing.T) {
	gone, kept := 0, 0
	for _, m := range poolMaps() {
		for _, node := range m.Up {
			down := stepped(m, impl.IcDown, node)
			up := stepped(down, impl.IcUp, node)
			for _, g := range impl.PgsOf(m) {
				before, _ := impl.ActingOf(m, g)
				want := slices.Clone(before)
				if i := slices.Index(want, node); i >= 0 {
					want[i] = -1
					gone++
				} else {
					kept++
				}
				acting, ok := impl.ActingOf(down, g)
				wantPlaces(t, "ActingOf with a node down", acting, ok, want, true)
				acting, ok = impl.ActingOf(up, g)
				wantPlaces(t, "ActingOf with the node up again", acting, ok, before, true)
			}
		}
	}
	if gone < 50 || kept < 50 {
		t.Errorf("%d acting sets have lost a node, %d have not", gone, kept)
	}
}

// P17: if a node goes out while no other one is, it is replaced, unless none can
// be found; an Indep rule keeps all others at their places. A term changes
// nothing.
func TestNodesGoOut(t *testing.T) {
	replaced := 0
	for _, m := range poolMaps() {
		m.Up, m.Out = partIds(impl.Tree{Devices: m.Tree.Devices}), nil
		for i := range m.Rules {
			m.Rules[i].Indep = true
		}
		for _, g := range impl.PgsOf(m) {
			before, _ := impl.ActingOf(m, g)
			acting, ok := impl.ActingOf(stepped(m, impl.IcTerm, 0), g)
			wantPlaces(t, "ActingOf in a new term", acting, ok, before, true)
			for at, node := range before {
				if node == -1 {
					continue
				}
				after, _ := impl.ActingOf(stepped(m, impl.IcOut, node), g)
				if after[at] != -1 && after[at] != node {
					replaced++
				}
				want := slices.Clone(before)
				want[at] = after[at]
				wantPlaces(t, "ActingOf with a node out", after, after[at] != node, want, true)
			}
		}
	}
	if replaced < 20 {
		t.Errorf("%d nodes were replaced", replaced)
	}
}

// oneNode is a map in which every placement group has one of three devices.
func oneNode() impl.Map {
	m := threeNodes()
	m.Pools = []impl.Pool{{Id: 1, Code: impl.Code{K: 1}, Min: 1, Pgs: 1, Rule: 1}}
	return m
}

// P17: the document's examples: the only device of a placement group goes down.
func TestOnlyNodeGoesDown(t *testing.T) {
	before, ok := impl.ActingOf(oneNode(), impl.Pg{Pool: 1})
	if !ok || len(before) != 1 || before[0] < 0 || !impl.MayServe(oneNode(), impl.Pg{Pool: 1}) {
		t.Fatalf("ActingOf: %v, %v", before, ok)
	}
	down := stepped(oneNode(), impl.IcDown, before[0])
	acting, ok := impl.ActingOf(down, impl.Pg{Pool: 1})
	wantPlaces(t, "ActingOf", acting, ok, []int64{-1}, true)
	wantOk(t, "MayServe", impl.MayServe(down, impl.Pg{Pool: 1}), false)
	wantNumber(t, "LeaderOf", impl.LeaderOf(acting), 0, -1, 0)
}

// P17: a placement group may serve with Min nodes and not with one less.
func TestMayServe(t *testing.T) {
	for _, c := range allCodes() {
		m := impl.Map{Epoch: 1, Tree: tree(devices(1, 1, 1, 1, 1, 1, 1, 1), host(-1, 0, 1, 2, 3, 4, 5, 6, 7), root(-2, -1)), Rules: []impl.Rule{{Id: 2, Root: -2, Indep: true}}}
		for up := range int64(9) {
			m.Up = partIds(impl.Tree{Devices: m.Tree.Devices})[:up]
			for least := c.K; least <= c.K+c.M; least++ {
				m.Pools = []impl.Pool{{Id: 3, Code: c, Min: least, Pgs: 3, Rule: 2}}
				for _, g := range impl.PgsOf(m) {
					wantOk(t, "MayServe", impl.MayServe(m, g), takenIn(actingIn(m, g)) >= least)
				}
			}
		}
	}
}

// P17: each node serves the placement groups that have it in their acting set.
func TestPgsAt(t *testing.T) {
	for _, m := range append(poolMaps(), someMap(), threeNodes(), oneNode(), impl.Map{Epoch: 1}) {
		actings := map[impl.Pg][]int64{}
		for _, g := range groupsIn(m) {
			actings[g] = actingIn(m, g)
		}
		for _, node := range append(farNumbers(), -2, -1, 0, 1, 2, 3, 4, 5, 6, 7, 8, 9, 10, 11, 12, 13, 14, 15, 16, 99, math.MaxInt32) {
			var want []impl.Pg
			for _, g := range groupsIn(m) {
				if node >= 0 && slices.Contains(actings[g], node) {
					want = append(want, g)
				}
			}
			if list := impl.PgsAt(m, node); !slices.Equal(list, want) {
				t.Errorf("PgsAt of %d: %v; want %v", node, list, want)
			}
		}
	}
}
