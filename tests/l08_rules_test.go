package tests

import (
	"math"
	"slices"
	"testing"

	"loop.example/g00849/impl"
)

// hostRule is the rule of the document's examples.
func hostRule(indep bool) impl.Rule {
	return impl.Rule{Id: 1, Root: -4, Kind: impl.KdHost, Indep: indep}
}

// racksTree has its hosts in racks, and one host that hangs beside them.
func racksTree() impl.Tree {
	return tree(devices(1, 2, 3, 4, 5, 6, 7, 8, 1, 2, 3, 0, 4), root(-1, -2, -3, -4), rack(-2, -5, -6), rack(-3, -7), rack(-4, -8, -9),
		host(-5, 1, 0), host(-6, 2), host(-7, 3, 4, 5), host(-8, 6, 7), host(-9, 8, 9, 10, 11), host(-10, 12))
}

// unevenTree has a host that is so heavy that the tries for another one often
// end without one.
func unevenTree() impl.Tree {
	return tree(devices(8, 8, 8, 8, 8, 8, 1, 1, 0), host(-1, 0, 1, 2, 3, 4, 5), host(-2, 6), host(-3, 7, 8), root(-4, -1, -2, -3))
}

// twoRootsTree has a root of racks and one of hosts, a part of whose devices
// has no weight, and one without devices.
func twoRootsTree() impl.Tree {
	return tree(devices(1, 0, 2, 3, 1, 1, 0, 0, 2), host(-1, 0, 1), host(-2, 2, 3), rack(-3, -1), rack(-4, -2), root(-5, -3, -4),
		host(-6, 4), host(-7, 5, 8), host(-8, 6, 7), root(-9, -6, -7, -8), root(-10), host(-11))
}

func weightlessTree() impl.Tree {
	return tree(devices(0, 0, 0), host(-1, 0, 1), host(-2, 2), rack(-3, -1, -2), root(-4, -3))
}

func placeTrees() []impl.Tree {
	list := []impl.Tree{sample(), racksTree(), unevenTree(), twoRootsTree(), weightlessTree(), fullTree(), linesTree()}
	for _, x := range rightTrees()[15:] {
		if len(rulesOf(x)) > 0 && len(list) < 16 {
			list = append(list, x)
		}
	}
	return list
}

// rulesOf returns the rules of all kinds for all roots of x.
func rulesOf(x impl.Tree) []impl.Rule {
	var list []impl.Rule
	for _, b := range x.Buckets {
		for kind := int64(0); b.Kind == impl.KdRoot && kind <= impl.KdRack; kind++ {
			list = append(list,
				impl.Rule{Id: 1, Root: b.Id, Kind: kind, Indep: true},
				impl.Rule{Id: impl.MaxRules, Root: b.Id, Kind: kind})
		}
	}
	return list
}

// someOuts returns lists of excluded devices, from none to all.
func someOuts() [][]int64 {
	list := [][]int64{nil, {}, {15}, {0, 1}, {4, 5, 6, 7}, {0, 2, 4, 6, 8, 10, 12, 14}, {0, 1, 2, 3, 4, 5, 6, 7, 8, 9, 10, 11, 12, 13, 14, 15}}
	for id := range int64(9) {
		list = append(list, []int64{id})
	}
	r := source(81)
	for range 6 {
		list = append(list, chosen(r, []int64{0, 1, 2, 3, 4, 5, 6, 7, 8, 9, 10, 11}))
	}
	return list
}

func wrongOuts() [][]int64 {
	return [][]int64{
		{-1}, {16}, {math.MinInt64}, {math.MaxInt64}, {1 << 32}, {1<<32 + 1}, {0, 0}, {1, 0}, {3, 3}, {-1, 0}, {15, 16}, {0, 2, 1}, {0, 1, 1, 2}, {2, 1, 3}, {0, 15, 15},
		{0, 1, 2, 3, 4, 5, 6, 7, 8, 9, 10, 11, 12, 13, 14, 15, 16},
	}
}

// domainIn looks for the domain of a device, as the definition has it.
func domainIn(x impl.Tree, kind, node int64) (int64, bool) {
	if !slices.ContainsFunc(x.Devices, func(d impl.Device) bool { return d.Id == node }) {
		return 0, false
	}
	if kind == 0 {
		return node, true
	}
	return aboveOf(x, node, kind)
}

// isApart holds each position of a placement against each other one.
func isApart(x impl.Tree, kind int64, places []int64) bool {
	for i, node := range places {
		domain, found := domainIn(x, kind, node)
		if node != -1 && !found {
			return false
		}
		for j, other := range places {
			otherDomain, _ := domainIn(x, kind, other)
			if i != j && node != -1 && other != -1 && (node == other || domain == otherDomain) {
				return false
			}
		}
	}
	return len(places) <= 7
}

// isFree reports whether a position may have the device beside the others.
func isFree(x impl.Tree, kind int64, places []int64, at int, node int64) bool {
	domain, _ := domainIn(x, kind, node)
	for i, other := range places {
		otherDomain, found := domainIn(x, kind, other)
		if i != at && found && otherDomain == domain {
			return false
		}
	}
	return true
}

// found searches a device for a position, as the document has it.
func found(x impl.Tree, r impl.Rule, seed int64, places []int64, at int, out []int64) int64 {
	for try := int64(0); try < 30; try++ {
		top, code := impl.Descend(x, r.Root, r.Kind, seed, try*7+int64(at))
		if code != impl.OK {
			return -1
		}
		node, code := impl.Descend(x, top, 0, seed, try*7+int64(at))
		if code == impl.OK && !slices.Contains(out, node) && isFree(x, r.Kind, places, at, node) {
			return node
		}
	}
	return -1
}

func placedWhole(x impl.Tree, r impl.Rule, seed, n int64) []int64 {
	var places []int64
	for at := range int(n) {
		places = append(places, found(x, r, seed, places, at, nil))
	}
	return places
}

// holesLast returns the devices of a placement and behind them its holes.
func holesLast(places []int64) []int64 {
	list := slices.DeleteFunc(slices.Clone(places), func(node int64) bool { return node == -1 })
	for len(list) < len(places) {
		list = append(list, -1)
	}
	return list
}

// placedWithout returns what becomes of a whole placement.
func placedWithout(x impl.Tree, r impl.Rule, seed int64, whole, out []int64) []int64 {
	places := slices.Clone(whole)
	for at := range places {
		if slices.Contains(out, places[at]) {
			places[at] = found(x, r, seed, places, at, out)
		}
	}
	if !r.Indep {
		return holesLast(places)
	}
	return places
}

func wantPlaces(t *testing.T, name string, got []int64, ok bool, want []int64, wantOk bool) {
	t.Helper()
	if !slices.Equal(got, want) || ok != wantOk {
		t.Errorf("%s: %v, %v; want %v, %v", name, got, ok, want, wantOk)
	}
}

// P12: a rule is valid for a topology as the document says.
func TestRuleOk(t *testing.T) {
	for _, x := range append(placeTrees(), impl.Tree{}, tree(nil, host(-4)), tree(nil, rack(-4)), tree(nil, root(-4))) {
		kinds := map[int64]int64{}
		for _, b := range x.Buckets {
			kinds[b.Id] = b.Kind
		}
		for _, top := range append(partIds(x), strangeIds(x)...) {
			isRoot := kinds[top] == impl.KdRoot
			for _, n := range append(farNumbers(), -1, 0, 1, 2, 3, 4, 5) {
				wantRule(t, x, impl.Rule{Id: n, Root: top}, isRoot && n >= 1 && n <= 4)
				wantRule(t, x, impl.Rule{Id: n, Root: top, Kind: 2, Indep: true}, isRoot && n >= 1 && n <= 4)
				wantRule(t, x, impl.Rule{Id: 1, Root: top, Kind: n}, isRoot && n >= 0 && n <= 2)
				wantRule(t, x, impl.Rule{Id: 4, Root: top, Kind: n, Indep: true}, isRoot && n >= 0 && n <= 2)
			}
		}
	}
}

func wantRule(t *testing.T, x impl.Tree, r impl.Rule, right bool) {
	t.Helper()
	wantOk(t, "RuleOk", impl.RuleOk(x, r), right)
	if !right {
		refusedRule(t, x, r, nil)
	}
}

// refusedRule wants nothing to be placed by a rule, or with what is excluded.
func refusedRule(t *testing.T, x impl.Tree, r impl.Rule, out []int64) {
	t.Helper()
	for _, n := range []int64{0, 2} {
		places, ok := impl.Place(x, r, 5, n, out)
		wantPlaces(t, "Place", places, ok, nil, false)
		if out == nil {
			places, ok = impl.PlaceWhole(x, r, 5, n)
			wantPlaces(t, "PlaceWhole", places, ok, nil, false)
		}
	}
	count, ok := impl.CanPlace(x, r, out)
	if count != 0 || ok {
		t.Errorf("CanPlace: %d, %v; want 0, false", count, ok)
	}
}

// P12: in a topology that is not valid nothing is placed.
func TestPlaceInWrongTrees(t *testing.T) {
	for _, x := range wrongTrees() {
		for _, top := range []int64{-1, -2, -3, -4} {
			wantRule(t, x, impl.Rule{Id: 1, Root: top}, false)
		}
		wantOk(t, "Apart", impl.Apart(x, 0, nil) || impl.Apart(x, 0, []int64{-1}) || impl.Apart(x, 3, nil) || impl.Apart(x, 0, []int64{0}), false)
		for _, kind := range []int64{-1, 0, 1, 2, 3} {
			domain, code := impl.DomainOf(x, kind, 0)
			wantNumber(t, "DomainOf", domain, code, 0, impl.ErrForm)
		}
	}
}

// P12: the domain of a device is the device or the bucket of the kind around it.
func TestDomainOf(t *testing.T) {
	for _, x := range append(placeTrees(), impl.Tree{}) {
		for _, node := range append(partIds(x), strangeIds(x)...) {
			for kind := range int64(3) {
				want, found := domainIn(x, kind, node)
				wantCode := int64(impl.OK)
				if !found {
					wantCode = impl.ErrNone
				}
				domain, code := impl.DomainOf(x, kind, node)
				wantNumber(t, "DomainOf", domain, code, want, wantCode)
			}
			for _, kind := range append(farNumbers(), -1, 3, 4) {
				domain, code := impl.DomainOf(x, kind, node)
				wantNumber(t, "DomainOf of no kind", domain, code, 0, impl.ErrRange)
			}
		}
	}
	for _, v := range []struct{ kind, node, domain, code int64 }{
		{0, 12, 12, impl.OK}, {impl.KdHost, 12, -10, impl.OK}, {impl.KdRack, 12, 0, impl.ErrNone}, {impl.KdRack, 11, -4, impl.OK}, {impl.KdHost, 11, -9, impl.OK},
		{impl.KdRack, -9, 0, impl.ErrNone}, {impl.KdHost, -5, 0, impl.ErrNone}, {0, -5, 0, impl.ErrNone}, {0, -1, 0, impl.ErrNone}, {0, 13, 0, impl.ErrNone},
	} {
		domain, code := impl.DomainOf(racksTree(), v.kind, v.node)
		wantNumber(t, "DomainOf", domain, code, v.domain, v.code)
	}
}

// P12: a placement is apart if no device and no domain is there twice.
func TestApart(t *testing.T) {
	apart, near := 0, 0
	r := source(82)
	for _, x := range append(placeTrees(), impl.Tree{}) {
		ids := append(partIds(x), 16, 99, -1, -1, -1)
		for range 300 {
			places := make([]int64, r.IntN(9))
			for i := range places {
				places[i] = ids[r.IntN(len(ids))]
				if r.IntN(8) > 0 {
					places[i] = max(-1, places[i])
				}
			}
			for kind := range int64(3) {
				want := isApart(x, kind, places)
				if impl.Apart(x, kind, places) != want {
					t.Fatalf("Apart of %v in %v for kind %d: %v", places, x, kind, !want)
				}
				if want {
					apart++
				} else {
					near++
				}
			}
			for _, kind := range append(farNumbers(), -1, 3, 4) {
				wantOk(t, "Apart of no kind", impl.Apart(x, kind, places), false)
			}
		}
	}
	if apart < 1000 || near < 1000 {
		t.Errorf("%d of the placements are apart, %d are not", apart, near)
	}
}

// P12: holes count for the limit and for nothing else, also where a bucket has
// the Id -1.
func TestApartOfHoles(t *testing.T) {
	for n := range 10 {
		holes := slices.Repeat([]int64{-1}, n)
		for kind := range int64(3) {
			for _, x := range []impl.Tree{{}, sample(), racksTree()} {
				wantOk(t, "Apart of holes", impl.Apart(x, kind, holes), n <= 7)
			}
		}
	}
	for _, v := range []struct {
		kind   int64
		places []int64
		want   bool
	}{
		{impl.KdHost, []int64{-1, 0, -1}, true}, {impl.KdHost, []int64{0, -1, 1}, false}, {impl.KdHost, []int64{5, 2, 1}, true}, {0, []int64{0, 1, 2, 3, 4, 5, -1}, true}, {0, []int64{0, 1, 2, 3, 4, 5, -1, -1}, false},
		{0, []int64{3, -1, 3}, false}, {0, []int64{-1, -2}, false}, {impl.KdHost, []int64{-1, -4}, false}, {0, []int64{6}, false}, {0, []int64{math.MinInt64}, false}, {0, []int64{math.MaxInt64}, false}, {impl.KdRack, []int64{0}, false},
	} {
		wantOk(t, "Apart", impl.Apart(sample(), v.kind, v.places), v.want)
	}
}

// P12: the document's examples.
func TestPlaceExamples(t *testing.T) {
	places, ok := impl.PlaceWhole(sample(), hostRule(false), 5, 4)
	wantPlaces(t, "PlaceWhole", places, ok, []int64{4, 2, 1, -1}, true)
	for _, v := range []struct {
		indep bool
		seed  int64
		out   []int64
		want  []int64
	}{
		{true, 2, nil, []int64{2, 4, 1}}, {false, 2, nil, []int64{2, 4, 1}}, {true, 2, []int64{4}, []int64{2, -1, 1}}, {false, 2, []int64{4}, []int64{2, 1, -1}},
		{true, 0, []int64{1}, []int64{0, 2, 4}}, {false, 0, []int64{1}, []int64{0, 2, 4}},
	} {
		places, ok := impl.Place(sample(), hostRule(v.indep), v.seed, 3, v.out)
		wantPlaces(t, "Place", places, ok, v.want, true)
	}
	for _, indep := range []bool{true, false} {
		for want, out := range map[int64][]int64{3: nil, 2: {4}} {
			count, ok := impl.CanPlace(sample(), hostRule(indep), out)
			if count != want || !ok {
				t.Errorf("CanPlace without %v: %d, %v; want %d", out, count, ok, want)
			}
		}
	}
}

// P12 and P13: all placements are as the document has them searched.
func TestPlaceIsAsDefined(t *testing.T) {
	for _, x := range placeTrees() {
		for _, r := range rulesOf(x) {
			for _, seed := range []int64{0, 1, 2, 77, 849, -1, 1<<32 + 3, math.MinInt64, math.MaxInt64} {
				wantDefined(t, x, r, seed, (seed&0xff+5)%8, someOuts())
			}
		}
	}
}

// wantDefined holds placements against the searches that the document defines.
func wantDefined(t *testing.T, x impl.Tree, r impl.Rule, seed, n int64, outs [][]int64) {
	t.Helper()
	want := placedWhole(x, r, seed, n)
	whole, ok := impl.PlaceWhole(x, r, seed, n)
	wantPlaces(t, "PlaceWhole", whole, ok, want, true)
	for _, out := range outs {
		places, ok := impl.Place(x, r, seed, n, out)
		wantPlaces(t, "Place", places, ok, placedWithout(x, r, seed, want, out), true)
	}
}

// P12 and P13: the same with many seeds, where tries often end without a device
// and a position is often given up for another one that is excluded as well.
func TestPlaceOfManySeeds(t *testing.T) {
	for _, x := range []impl.Tree{sample(), unevenTree(), racksTree()} {
		for _, r := range rulesOf(x) {
			for seed := range int64(60) {
				wantDefined(t, x, r, seed, 4, [][]int64{{1, 4}, {0, 2, 4}, {6, 7}, {0, 1, 2, 3, 4}})
			}
		}
	}
}

// P12: a placement has only devices under the root, with a weight, which are in
// different domains and not excluded; it never has more than there are domains.
func TestPlacementsAreApart(t *testing.T) {
	for _, x := range placeTrees() {
		for _, r := range rulesOf(x) {
			for seed := range int64(4) {
				for _, n := range []int64{0, 1, 4, 7} {
					places, _ := impl.PlaceWhole(x, r, seed, n)
					wantPlacement(t, x, r, places, n, nil)
					for _, out := range someOuts() {
						places, _ := impl.Place(x, r, seed, n, out)
						wantPlacement(t, x, r, places, n, out)
					}
				}
			}
		}
	}
}

func wantPlacement(t *testing.T, x impl.Tree, r impl.Rule, places []int64, n int64, out []int64) {
	t.Helper()
	taken := int64(0)
	for _, node := range places {
		if node == -1 {
			continue
		}
		taken++
		if slices.Contains(out, node) || weightUnder(x, node) == 0 || !slices.Contains(under(x, r.Root), node) {
			t.Errorf("%v is placed by %v without %v in %v", places, r, out, x)
		}
	}
	count, _ := impl.CanPlace(x, r, out)
	if int64(len(places)) != n || !isApart(x, r.Kind, places) || !impl.Apart(x, r.Kind, places) || taken > count {
		t.Errorf("%v is placed by %v without %v in %v, which has %d domains", places, r, out, x, count)
	}
}

// P13: if devices are excluded, a rule that is Indep keeps all others at their
// positions, and the holes too; one that is not keeps their order.
func TestExcludedDevicesAreReplaced(t *testing.T) {
	replaced, kept := 0, 0
	for _, x := range placeTrees() {
		for _, r := range rulesOf(x) {
			for seed := range int64(8) {
				n := int64(7) - seed%3
				whole, _ := impl.PlaceWhole(x, r, seed, n)
				for _, out := range someOuts() {
					r.Indep = true
					places, _ := impl.Place(x, r, seed, n, out)
					for i, node := range whole {
						if slices.Contains(out, node) {
							replaced++
						} else if kept++; places[i] != node {
							t.Errorf("without %v, %v becomes %v by %v in %v", out, whole, places, r, x)
						}
					}
					r.Indep = false
					first, ok := impl.Place(x, r, seed, n, out)
					wantPlaces(t, "Place by a rule that is not Indep", first, ok, holesLast(places), true)
				}
			}
		}
	}
	if replaced < 1000 || kept < 1000 {
		t.Errorf("%d positions are assigned anew and %d are not", replaced, kept)
	}
}

// P13: excluding what a placement does not have changes nothing but, without
// Indep, the places of the holes.
func TestExcludedDevicesElsewhere(t *testing.T) {
	for _, x := range placeTrees() {
		for _, r := range rulesOf(x) {
			for seed := range int64(6) {
				whole, _ := impl.PlaceWhole(x, r, seed, 3)
				var out []int64
				for id := range int64(impl.MaxNodes) {
					if !slices.Contains(whole, id) {
						out = append(out, id)
					}
				}
				want := whole
				if !r.Indep {
					want = holesLast(whole)
				}
				places, ok := impl.Place(x, r, seed, 3, out)
				wantPlaces(t, "Place", places, ok, want, true)
			}
		}
	}
}

// P12 and P13: with too few hosts there are holes; they are where the tries end
// without a device, which need not be the last positions.
func TestHoles(t *testing.T) {
	middle := 0
	for seed := range int64(200) {
		whole, _ := impl.PlaceWhole(unevenTree(), hostRule(false), seed, 5)
		same, _ := impl.PlaceWhole(unevenTree(), hostRule(true), seed, 5)
		wantPlaces(t, "PlaceWhole by another rule", same, true, whole, true)
		indep, ok := impl.Place(unevenTree(), hostRule(true), seed, 5, nil)
		wantPlaces(t, "Place with holes", indep, ok, whole, true)
		first, ok := impl.Place(unevenTree(), hostRule(false), seed, 5, nil)
		wantPlaces(t, "Place with the holes last", first, ok, holesLast(whole), true)
		if !slices.Equal(first, indep) {
			middle++
		}
	}
	if middle < 20 {
		t.Errorf("only %d placements have a hole ahead of a device", middle)
	}
	for seed := range int64(20) {
		for _, n := range []int64{0, 1, 4, 7} {
			holes := slices.Repeat([]int64{-1}, int(n))
			for _, indep := range []bool{true, false} {
				places, ok := impl.Place(weightlessTree(), hostRule(indep), seed, n, []int64{1})
				wantPlaces(t, "Place without weight", places, ok, holes, true)
				places, ok = impl.Place(sample(), impl.Rule{Id: 1, Root: -4, Kind: impl.KdRack, Indep: indep}, seed, n, nil)
				wantPlaces(t, "Place without racks", places, ok, holes, true)
				places, ok = impl.Place(sample(), hostRule(indep), seed, n, []int64{0, 1, 2, 3, 4, 5})
				wantPlaces(t, "Place without devices", places, ok, holes, true)
			}
		}
	}
}

// P12: each position up to MaxPlaces may be asked for, and no more.
func TestPlaceRefuses(t *testing.T) {
	for _, r := range rulesOf(sample()) {
		for _, n := range append(farNumbers(), -1, 8, 9, 16) {
			places, ok := impl.Place(sample(), r, 0, n, nil)
			wantPlaces(t, "Place of n positions", places, ok, nil, false)
			places, ok = impl.PlaceWhole(sample(), r, 0, n)
			wantPlaces(t, "PlaceWhole of n positions", places, ok, nil, false)
		}
		for n := range int64(8) {
			places, ok := impl.PlaceWhole(sample(), r, 0, n)
			wantPlaces(t, "PlaceWhole of n positions", places, ok, placedWhole(sample(), r, 0, n), true)
		}
		for _, out := range wrongOuts() {
			refusedRule(t, sample(), r, out)
		}
	}
}

// P12: CanPlace counts the domains that have a device to place.
func TestCanPlace(t *testing.T) {
	for _, x := range placeTrees() {
		for _, r := range rulesOf(x) {
			for _, out := range someOuts() {
				domains := map[int64]bool{}
				for _, d := range x.Devices {
					domain, found := domainIn(x, r.Kind, d.Id)
					if found && d.Weight > 0 && !slices.Contains(out, d.Id) && slices.Contains(under(x, r.Root), d.Id) {
						domains[domain] = true
					}
				}
				count, ok := impl.CanPlace(x, r, out)
				if count != int64(len(domains)) || !ok {
					t.Errorf("CanPlace by %v without %v in %v: %d, %v; want %d", r, out, x, count, ok, len(domains))
				}
			}
		}
	}
	for kind, want := range []int64{11, 5, 3} {
		count, ok := impl.CanPlace(racksTree(), impl.Rule{Id: 2, Root: -1, Kind: int64(kind)}, nil)
		if count != want || !ok {
			t.Errorf("CanPlace for kind %d: %d, %v; want %d", kind, count, ok, want)
		}
	}
}
