package tests

import (
	"math"
	"math/rand/v2"
	"regexp"
	"slices"
	"strconv"
	"strings"
	"testing"

	"loop.example/g00849/impl"
)

func host(id int64, items ...int64) impl.Bucket {
	return impl.Bucket{Id: id, Kind: impl.KdHost, Items: items}
}

func rack(id int64, items ...int64) impl.Bucket {
	return impl.Bucket{Id: id, Kind: impl.KdRack, Items: items}
}

func root(id int64, items ...int64) impl.Bucket {
	return impl.Bucket{Id: id, Kind: impl.KdRoot, Items: items}
}

// devices returns devices with the Ids from 0 on.
func devices(weights ...int64) []impl.Device {
	var list []impl.Device
	for i, weight := range weights {
		list = append(list, impl.Device{Id: int64(i), Weight: weight})
	}
	return list
}

func tree(list []impl.Device, buckets ...impl.Bucket) impl.Tree {
	return impl.Tree{Devices: list, Buckets: buckets}
}

// sample is the document's sample topology.
func sample() impl.Tree {
	return tree(devices(1, 2, 1, 1, 3, 0), host(-1, 0, 1), host(-2, 2, 3), host(-3, 4, 5), root(-4, -1, -2, -3))
}

// linesTree is the topology of the document's example of a text.
func linesTree() impl.Tree {
	return tree([]impl.Device{{Id: 2, Weight: 8}, {Id: 7, Weight: 1}, {Id: 15, Weight: 2}}, host(-2, 15, 2), rack(-5, -2), rack(-6), root(-12, -6, -5))
}

const linesText = "node 2 8\nnode 7 1\nnode 15 2\nhost -2 15 2\nrack -5 -2\nrack -6\nroot -12 -6 -5\n"

// fullTree reaches all limits: its root has all devices, with all weights.
func fullTree() impl.Tree {
	all := devices(slices.Repeat([]int64{impl.MaxWeight}, impl.MaxNodes)...)
	return tree(all, root(-1, -2, -3), rack(-2, -4), rack(-3, -5, -6, -7, -8, -9, -10, -11, -12),
		host(-4, 15, 14, 13, 12, 11, 10, 9, 8), host(-5, 0), host(-6, 1), host(-7, 2), host(-8, 3), host(-9, 4), host(-10, 5), host(-11, 6), host(-12, 7))
}

// rightTrees are valid, each in a way of its own.
func rightTrees() []impl.Tree {
	list := []impl.Tree{
		{}, {Devices: []impl.Device{}, Buckets: []impl.Bucket{}}, sample(), linesTree(), fullTree(),
		tree(devices(0)), tree(devices(8, 0, 8)), tree([]impl.Device{{Id: 15, Weight: 8}}),
		tree(nil, host(-1), rack(-2), root(-3)), tree(nil, root(-12)), tree(nil, root(-1), root(-2), rack(-7), rack(-8), host(-9)),
		tree(devices(1, 1), root(-1, -3), rack(-2, -4), host(-3, 1), host(-4, 0)),
		tree(devices(1, 1), root(-1, -3), root(-2, -5), host(-3, 1), host(-4, 0), rack(-5, -4)),
		tree(nil, root(-1, -2, -3, -4, -5, -6, -7, -8, -9), host(-2), host(-3), host(-4), host(-5), host(-6), host(-7), host(-8), host(-9)),
		tree(nil, rack(-1, -2), host(-2), root(-3, -4), rack(-4)),
	}
	r := source(61)
	for range 60 {
		list = append(list, someTree(r))
	}
	return list
}

// chosen returns the numbers of list that a coin picks.
func chosen(r *rand.Rand, list []int64) []int64 {
	var picked []int64
	for _, n := range list {
		if r.IntN(4) > 0 {
			picked = append(picked, n)
		}
	}
	return picked
}

// someTree returns a valid topology. Its Ids have gaps, some of its parts are
// items of no bucket, and no bucket's items are in order.
func someTree(r *rand.Rand) impl.Tree {
	var t impl.Tree
	for _, id := range chosen(r, []int64{0, 1, 2, 3, 4, 5, 6, 7, 8, 9, 10, 11, 12, 13, 14, 15}) {
		t.Devices = append(t.Devices, impl.Device{Id: id, Weight: max(0, r.Int64N(11)-2)})
	}
	below := map[int64]int64{}
	for _, id := range chosen(r, []int64{-1, -2, -3, -4, -5, -6, -7, -8, -9, -10, -11, -12}) {
		kind := 1 + r.Int64N(3)
		t.Buckets = append(t.Buckets, impl.Bucket{Id: id, Kind: kind})
		below[id] = kind - 1
		if kind == impl.KdRoot {
			below[id] = 1 + r.Int64N(2)
		}
	}
	hang := func(id, kind int64) {
		for range 3 {
			if len(t.Buckets) == 0 {
				return
			}
			b := &t.Buckets[r.IntN(len(t.Buckets))]
			if below[b.Id] == kind && len(b.Items) < impl.MaxItems {
				b.Items = slices.Insert(b.Items, r.IntN(len(b.Items)+1), id)
				return
			}
		}
	}
	for _, d := range t.Devices {
		hang(d.Id, 0)
	}
	for _, b := range t.Buckets {
		hang(b.Id, b.Kind)
	}
	return t
}

// wrongTrees are not valid, each for a reason of its own.
func wrongTrees() []impl.Tree {
	seventeen := devices(make([]int64, 17)...)
	return []impl.Tree{
		tree(seventeen), tree([]impl.Device{{Id: 16}}), tree([]impl.Device{{Id: -1}}), tree([]impl.Device{{Id: math.MinInt64}}), tree([]impl.Device{{Id: math.MaxInt64}}),
		tree([]impl.Device{{Id: 1}, {Id: 1}}), tree([]impl.Device{{Id: 1}, {Id: 0}}), tree([]impl.Device{{Id: 0}, {Id: 1}, {Id: 1, Weight: 2}}),
		tree(devices(9)), tree(devices(-1)), tree(devices(1, 9)), tree(devices(1, math.MinInt64)), tree(devices(math.MaxInt64)),
		tree(nil, host(0)), tree(nil, host(1)), tree(nil, host(-13)), tree(nil, host(math.MinInt64)), tree(nil, host(math.MaxInt64)),
		tree(nil, host(-1), host(-1)), tree(nil, host(-2), host(-1)), tree(nil, host(-1), rack(-3), root(-2)), tree(nil, host(-1), rack(-3), root(-3)),
		tree(nil, impl.Bucket{Id: -1}), tree(nil, impl.Bucket{Id: -1, Kind: 4}), tree(nil, impl.Bucket{Id: -1, Kind: -1}), tree(nil, impl.Bucket{Id: -1, Kind: math.MaxInt64}),
		tree(devices(1), impl.Bucket{Id: -1, Items: []int64{0}}), tree(nil, impl.Bucket{Id: -1, Kind: 4, Items: []int64{-2}}, root(-2)),
		tree(devices(1, 1, 1, 1, 1, 1, 1, 1, 1), host(-1, 0, 1, 2, 3, 4, 5, 6, 7, 8)),
		tree(nil, root(-1, -2, -3, -4, -5, -6, -7, -8, -9, -10), host(-2), host(-3), host(-4), host(-5), host(-6), host(-7), host(-8), host(-9), host(-10)),
		// Items that there are not.
		tree(nil, host(-1, 0)), tree(devices(1), host(-1, 1)), tree(devices(1), host(-1, 0, 1)), tree(nil, rack(-1, -2)), tree(nil, root(-1, -2)), tree(nil, root(-1, 0)), tree(nil, rack(-1, 0)),
		// Items of the wrong kind.
		tree(devices(1), rack(-1, 0)), tree(devices(1), root(-1, 0)), tree(nil, host(-1, -2), host(-2)), tree(nil, host(-1, -2), rack(-2)), tree(nil, host(-1, -2), root(-2)),
		tree(nil, rack(-1, -2), rack(-2)), tree(nil, rack(-1, -2), root(-2)), tree(nil, root(-1, -2), root(-2)), tree(devices(1), host(-1), rack(-2, -1, 0)),
		tree(devices(1), host(-1, 0), host(-2, -1)), tree(devices(1), host(-1), host(-2, 0, -1)),
		tree(nil, host(-1, -1)), tree(nil, rack(-1, -1)), tree(nil, root(-1, -1)), tree(nil, root(-1, -2), root(-2, -1)),
		// A root of racks and hosts.
		tree(nil, host(-1), rack(-2), root(-3, -1, -2)), tree(nil, host(-1), rack(-2), root(-3, -2, -1)), tree(nil, host(-1), host(-2), rack(-3), root(-4, -1, -2, -3)),
		tree(devices(1), host(-1), root(-2, -1, 0)),
		// Items that are there twice.
		tree(devices(1), host(-1, 0, 0)), tree(devices(1), host(-1, 0), host(-2, 0)), tree(devices(1, 1, 1), host(-1, 0, 1), host(-2, 2, 1)),
		tree(nil, host(-1), rack(-2, -1), rack(-3, -1)), tree(nil, host(-1), rack(-2, -1), root(-3, -1)), tree(nil, host(-1), root(-2, -1, -1)),
		tree(nil, rack(-1), root(-2, -1), root(-3, -1)),
	}
}

// under returns the devices of a part, as the definition has it.
func under(t impl.Tree, id int64) []int64 {
	if id >= 0 {
		return []int64{id}
	}
	var list []int64
	for _, b := range t.Buckets {
		if b.Id != id {
			continue
		}
		for _, item := range b.Items {
			list = append(list, under(t, item)...)
		}
	}
	slices.Sort(list)
	return list
}

func weightUnder(t impl.Tree, id int64) int64 {
	sum := int64(0)
	for _, d := range t.Devices {
		if slices.Contains(under(t, id), d.Id) {
			sum += d.Weight
		}
	}
	return sum
}

// aboveOf looks for the bucket from the top: does it contain id?
func aboveOf(t impl.Tree, id, kind int64) (int64, bool) {
	for _, b := range t.Buckets {
		if b.Kind == kind && isInside(t, b, id) {
			return b.Id, true
		}
	}
	return 0, false
}

func isInside(t impl.Tree, b impl.Bucket, id int64) bool {
	for _, item := range b.Items {
		if item == id {
			return true
		}
		for _, inner := range t.Buckets {
			if inner.Id == item && isInside(t, inner, id) {
				return true
			}
		}
	}
	return false
}

// partIds returns the Ids of all devices and buckets.
func partIds(t impl.Tree) []int64 {
	var list []int64
	for _, d := range t.Devices {
		list = append(list, d.Id)
	}
	for _, b := range t.Buckets {
		list = append(list, b.Id)
	}
	return list
}

// strangeIds returns the Ids from below to above all limits that are not in t.
func strangeIds(t impl.Tree) []int64 {
	list := []int64{math.MinInt64, -1 << 32, 1 << 32, math.MaxInt64}
	for id := int64(-14); id <= 17; id++ {
		if !slices.Contains(partIds(t), id) {
			list = append(list, id)
		}
	}
	return list
}

// isTree holds t against the document's list, point by point.
func isTree(t impl.Tree) bool {
	kinds, times := map[int64]int64{}, map[int64]int{}
	for i, d := range t.Devices {
		if i >= 16 || d.Id < 0 || d.Id > 15 || d.Weight < 0 || d.Weight > 8 || i > 0 && d.Id <= t.Devices[i-1].Id {
			return false
		}
		kinds[d.Id] = 0
	}
	for i, b := range t.Buckets {
		if i >= 12 || b.Id > -1 || b.Id < -12 || b.Kind < 1 || b.Kind > 3 || len(b.Items) > 8 || i > 0 && b.Id >= t.Buckets[i-1].Id {
			return false
		}
		kinds[b.Id] = b.Kind
	}
	for _, b := range t.Buckets {
		below := map[int64]bool{}
		for _, item := range b.Items {
			kind, known := kinds[item]
			times[item]++
			if !known || times[item] > 1 {
				return false
			}
			below[kind] = true
		}
		allowed := map[int64][]int64{impl.KdHost: {0}, impl.KdRack: {impl.KdHost}, impl.KdRoot: {impl.KdHost, impl.KdRack}}[b.Kind]
		for kind := range below {
			if len(below) > 1 || !slices.Contains(allowed, kind) {
				return false
			}
		}
	}
	return true
}

// copied returns a topology that shares no memory with t.
func copied(t impl.Tree) impl.Tree {
	t.Devices, t.Buckets = slices.Clone(t.Devices), slices.Clone(t.Buckets)
	for i, b := range t.Buckets {
		t.Buckets[i].Items = slices.Clone(b.Items)
	}
	return t
}

// numbersOf points to all numbers of t.
func numbersOf(t impl.Tree) []*int64 {
	var list []*int64
	for i := range t.Devices {
		list = append(list, &t.Devices[i].Id, &t.Devices[i].Weight)
	}
	for i, b := range t.Buckets {
		list = append(list, &t.Buckets[i].Id, &t.Buckets[i].Kind)
		for j := range b.Items {
			list = append(list, &b.Items[j])
		}
	}
	return list
}

// wantTree takes nil and empty lists for the same.
func wantTree(t *testing.T, name string, got impl.Tree, code int64, want impl.Tree, wantCode int64) {
	t.Helper()
	same := slices.Equal(got.Devices, want.Devices) && slices.EqualFunc(got.Buckets, want.Buckets, func(a, b impl.Bucket) bool {
		return a.Id == b.Id && a.Kind == b.Kind && slices.Equal(a.Items, b.Items)
	})
	if !same || code != wantCode {
		t.Errorf("%s: %v, code %d; want %v, code %d", name, got, code, want, wantCode)
	}
}

func wantNumbers(t *testing.T, name string, got []int64, code int64, want []int64, wantCode int64) {
	t.Helper()
	if !slices.Equal(got, want) || code != wantCode {
		t.Errorf("%s: %v, code %d; want %v, code %d", name, got, code, want, wantCode)
	}
}

func wantOk(t *testing.T, name string, got, want bool) {
	t.Helper()
	if got != want {
		t.Errorf("%s: %v; want %v", name, got, want)
	}
}

// P10: what the document allows is valid, and nothing else; a topology that is
// not valid is refused before all else.
func TestTreeOk(t *testing.T) {
	for _, x := range rightTrees() {
		wantOk(t, "TreeOk", impl.TreeOk(x), true)
		wantOk(t, "isTree", isTree(x), true)
	}
	for i, x := range wrongTrees() {
		name := "wrong tree " + strconv.Itoa(i)
		wantOk(t, name, impl.TreeOk(x), false)
		wantOk(t, name+" in isTree", isTree(x), false)
		refused(t, name, x)
	}
}

func refused(t *testing.T, name string, x impl.Tree) {
	t.Helper()
	for _, id := range []int64{0, -1, 99} {
		weight, code := impl.WeightOf(x, id)
		wantNumber(t, name+": WeightOf", weight, code, 0, impl.ErrForm)
		nodes, code := impl.NodesUnder(x, id)
		wantNumbers(t, name+": NodesUnder", nodes, code, nil, impl.ErrForm)
		for _, kind := range []int64{-1, 1, 4} {
			above, code := impl.AboveOf(x, id, kind)
			wantNumber(t, name+": AboveOf", above, code, 0, impl.ErrForm)
			changed, code := impl.SetWeight(x, id, kind)
			wantTree(t, name+": SetWeight", changed, code, impl.Tree{}, impl.ErrForm)
		}
	}
	text, code := impl.TreeText(x)
	wantText(t, name+": TreeText", text, code, "", impl.ErrForm)
	wantOk(t, name+": SameTree", impl.SameTree(x, x) || impl.SameTree(x, sample()) || impl.SameTree(sample(), x), false)
}

// P10: with any one number changed, a topology is valid or not as the document
// says.
func TestTreesWithOneNumberChanged(t *testing.T) {
	valid := 0
	for _, x := range rightTrees() {
		for i := range numbersOf(x) {
			for n := int64(-14); n <= 17; n++ {
				y := copied(x)
				*numbersOf(y)[i] = n
				want := isTree(y)
				if impl.TreeOk(y) != want {
					t.Fatalf("TreeOk of %v: %v", y, !want)
				}
				if want {
					valid++
				}
			}
		}
	}
	if valid < 1000 {
		t.Errorf("only %d of the changed trees are valid", valid)
	}
}

// P10: the weight of a bucket is the sum of those of the devices that it
// contains, which are in order.
func TestWeightOfAndNodesUnder(t *testing.T) {
	for _, x := range rightTrees() {
		for _, id := range partIds(x) {
			weight, code := impl.WeightOf(x, id)
			wantNumber(t, "WeightOf", weight, code, weightUnder(x, id), impl.OK)
			nodes, code := impl.NodesUnder(x, id)
			wantNumbers(t, "NodesUnder", nodes, code, under(x, id), impl.OK)
		}
		for _, id := range strangeIds(x) {
			weight, code := impl.WeightOf(x, id)
			wantNumber(t, "WeightOf none", weight, code, 0, impl.ErrNone)
			nodes, code := impl.NodesUnder(x, id)
			wantNumbers(t, "NodesUnder none", nodes, code, nil, impl.ErrNone)
		}
	}
}

// P10: the document's examples, and the greatest weight.
func TestWeightExamples(t *testing.T) {
	for _, v := range []struct {
		t          impl.Tree
		id, weight int64
	}{{sample(), -1, 3}, {sample(), -4, 8}, {sample(), 5, 0}, {sample(), 4, 3}, {linesTree(), -6, 0}, {linesTree(), -12, 10}, {linesTree(), 7, 1}, {fullTree(), -1, 128}} {
		weight, code := impl.WeightOf(v.t, v.id)
		wantNumber(t, "WeightOf", weight, code, v.weight, impl.OK)
	}
	nodes, code := impl.NodesUnder(sample(), -4)
	wantNumbers(t, "NodesUnder", nodes, code, []int64{0, 1, 2, 3, 4, 5}, impl.OK)
	nodes, code = impl.NodesUnder(linesTree(), -12)
	wantNumbers(t, "NodesUnder", nodes, code, []int64{2, 15}, impl.OK)
	nodes, code = impl.NodesUnder(sample(), 5)
	wantNumbers(t, "NodesUnder", nodes, code, []int64{5}, impl.OK)
	changed, _ := impl.SetWeight(sample(), 5, 8)
	weight, code := impl.WeightOf(changed, -3)
	wantNumber(t, "WeightOf after SetWeight", weight, code, 11, impl.OK)
}

// P10: AboveOf finds the bucket of a kind around each part, which is not the
// part itself.
func TestAboveOf(t *testing.T) {
	for _, x := range rightTrees() {
		for _, id := range append(partIds(x), strangeIds(x)...) {
			for kind := int64(impl.KdHost); kind <= impl.KdRoot; kind++ {
				want, found := aboveOf(x, id, kind)
				wantCode := int64(impl.OK)
				if !found {
					wantCode = impl.ErrNone
				}
				above, code := impl.AboveOf(x, id, kind)
				wantNumber(t, "AboveOf", above, code, want, wantCode)
			}
			for _, kind := range []int64{math.MinInt64, -1, 0, 4, 1 << 32, 1<<32 + 1, math.MaxInt64} {
				above, code := impl.AboveOf(x, id, kind)
				wantNumber(t, "AboveOf of no kind", above, code, 0, impl.ErrRange)
			}
		}
	}
	above, code := impl.AboveOf(linesTree(), 15, impl.KdRoot)
	wantNumber(t, "AboveOf", above, code, -12, impl.OK)
}

// P10: SetWeight changes one weight and nothing else.
func TestSetWeight(t *testing.T) {
	for _, x := range rightTrees() {
		for i, d := range x.Devices {
			for weight := int64(0); weight <= impl.MaxWeight; weight++ {
				want := copied(x)
				want.Devices[i].Weight = weight
				got, code := impl.SetWeight(x, d.Id, weight)
				wantTree(t, "SetWeight", got, code, want, impl.OK)
			}
			for _, weight := range []int64{math.MinInt64, -1, 9, 1 << 32, math.MaxInt64} {
				got, code := impl.SetWeight(x, d.Id, weight)
				wantTree(t, "SetWeight out of range", got, code, impl.Tree{}, impl.ErrRange)
			}
		}
		for _, b := range x.Buckets {
			got, code := impl.SetWeight(x, b.Id, 1)
			wantTree(t, "SetWeight of a bucket", got, code, impl.Tree{}, impl.ErrNone)
		}
		for _, id := range strangeIds(x) {
			got, code := impl.SetWeight(x, id, 8)
			wantTree(t, "SetWeight of none", got, code, impl.Tree{}, impl.ErrNone)
			got, code = impl.SetWeight(x, id, 9)
			wantTree(t, "SetWeight of none out of range", got, code, impl.Tree{}, impl.ErrRange)
		}
	}
}

// textOf writes a topology as the document has it.
func textOf(t impl.Tree) string {
	var lines strings.Builder
	write := func(word string, numbers ...int64) {
		lines.WriteString(word)
		for _, n := range numbers {
			lines.WriteString(" " + strconv.FormatInt(n, 10))
		}
		lines.WriteString("\n")
	}
	for _, d := range t.Devices {
		write("node", d.Id, d.Weight)
	}
	for _, b := range t.Buckets {
		write([]string{"", "host", "rack", "root"}[b.Kind], append([]int64{b.Id}, b.Items...)...)
	}
	return lines.String()
}

var (
	nodeLine   = regexp.MustCompile(`^node (0|[1-9][0-9]?) ([0-9])\n$`)
	bucketLine = regexp.MustCompile(`^(host|rack|root) (-[1-9][0-9]?)((?: (?:0|-?[1-9][0-9]?))*)\n$`)
)

// treeFrom reads a text line by line. Numbers of three digits are in no valid
// topology.
func treeFrom(text string) (impl.Tree, bool) {
	number := func(s string) int64 {
		n, _ := strconv.ParseInt(s, 10, 64)
		return n
	}
	var x impl.Tree
	lines := strings.SplitAfter(text, "\n")
	for _, line := range lines[:len(lines)-1] {
		if parts := nodeLine.FindStringSubmatch(line); parts != nil && len(x.Buckets) == 0 {
			x.Devices = append(x.Devices, impl.Device{Id: number(parts[1]), Weight: number(parts[2])})
			continue
		}
		parts := bucketLine.FindStringSubmatch(line)
		if parts == nil {
			return impl.Tree{}, false
		}
		b := impl.Bucket{Id: number(parts[2]), Kind: map[string]int64{"host": 1, "rack": 2, "root": 3}[parts[1]]}
		for _, item := range strings.Fields(parts[3]) {
			b.Items = append(b.Items, number(item))
		}
		x.Buckets = append(x.Buckets, b)
	}
	if lines[len(lines)-1] != "" || !isTree(x) {
		return impl.Tree{}, false
	}
	return x, true
}

// P10: a topology is recovered from its text, which is as the document has it.
func TestTreeTextAndReadTree(t *testing.T) {
	for _, x := range rightTrees() {
		text, code := impl.TreeText(x)
		wantText(t, "TreeText", text, code, textOf(x), impl.OK)
		again, code := impl.ReadTree(text)
		wantTree(t, "ReadTree", again, code, x, impl.OK)
		wantOk(t, "SameTree of what was read", impl.SameTree(again, x), true)
	}
	text, code := impl.TreeText(linesTree())
	wantText(t, "TreeText", text, code, linesText, impl.OK)
	again, code := impl.ReadTree(linesText)
	wantTree(t, "ReadTree", again, code, linesTree(), impl.OK)
	again, code = impl.ReadTree("")
	wantTree(t, "ReadTree of nothing", again, code, impl.Tree{}, impl.OK)
}

// P10: what is no text of a topology is not read.
func TestReadTreeOfOtherTexts(t *testing.T) {
	texts := []string{
		"\n", " ", "node", "node 2 8", "node\n", "node \n", "node 2\n", "node 2 \n", "node 2 8 1\n", "node 02 8\n", "node 2 08\n", "node +2 8\n", "node 2 +8\n", "node -0 8\n", "node 2 -0\n",
		"node 2 9\n", "node 16 1\n", "node -1 1\n", "node 2  8\n", "node 2 8 \n", " node 2 8\n", "node\t2 8\n", "Node 2 8\n", "nodes 2 8\n", "node 2 8\r\n", "node 2 8\n\n", "\nnode 2 8\n", "node 2 8\n ", "node 2 8\nnode",
		"node 2 8\nnode 2 8\n", "node 2 8\nnode 1 8\n", "node 2 8node 3 8\n", "node 0x2 8\n", "node 2_0 8\n", "node 1_5 8\n", "node 2.0 8\n", "node a 8\n", "node 1e0 8\n", "node 99999999999999999999 8\n", "node 18446744073709551618 8\n",
		"host\n", "host \n", "host -1", "host 1\n", "host 0\n", "host -13\n", "host -01\n", "host -1 \n", "host  -1\n", "host -1 0\n", "rack -1 -1\n", "rack -1 -2\n", "root -1 0\n", "disk -1\n", " -1\n", "-1\n", "host -1\nhost -1\n", "host -2\nhost -1\n",
		"host -1\nnode 2 8\n", "node 2 8\nhost -1 2\nnode 3 8\n", "node 2 8\nhost -1 02\n", "node 2 8\nhost -1 2 2\n", "node 2 8\nhost -1 -2\n", "node 2 8\nhost -1 2", "node 0 1\nhost -1 -0\n", "node 0 1\nhost -1 +0\n", "node 0 1\nhost -1  0\n", "node 0 1\nhost -1 0 \n",
		"\x00", "node 2 8\x00\n", "node 2 8\n\x00", "n\xffde 2 8\n", strings.Repeat("node 2 8\n", 1000), strings.Repeat("node ", 1000), strings.Repeat("\n", 1000), "node " + strings.Repeat("0", 1000) + "2 8\n", "host -1" + strings.Repeat(" 0", 1000) + "\n",
	}
	for _, text := range texts {
		got, code := impl.ReadTree(text)
		wantTree(t, "ReadTree of "+strconv.Quote(text), got, code, impl.Tree{}, impl.ErrRead)
	}
}

// changedTexts calls f with each text that is one byte away from text, or has
// one line less, or one twice, or two in the other order.
func changedTexts(text string, f func(string)) {
	const bytes = " \n-+0123456789nodehstrackNH_\t\x00\xff"
	for i := range len(text) + 1 {
		for j := range len(bytes) {
			f(text[:i] + bytes[j:j+1] + text[i:])
			if i < len(text) {
				f(text[:i] + bytes[j:j+1] + text[i+1:])
			}
		}
		if i < len(text) {
			f(text[:i] + text[i+1:])
		}
	}
	lines := strings.SplitAfter(text, "\n")
	for i, line := range lines[:len(lines)-1] {
		before, behind := strings.Join(lines[:i], ""), strings.Join(lines[i+1:], "")
		f(before + behind)
		f(before + line + line + behind)
		f(before + lines[i+1] + line + strings.Join(lines[min(i+2, len(lines)):], ""))
	}
}

// P10: a text that is nearly one of a topology is read if and only if it is one
// of another.
func TestReadTreeOfChangedTexts(t *testing.T) {
	read, unread := 0, 0
	for _, x := range rightTrees()[:22] {
		changedTexts(textOf(x), func(text string) {
			want, ok := treeFrom(text)
			wantCode := int64(impl.ErrRead)
			if ok {
				wantCode = impl.OK
				read++
			} else {
				unread++
			}
			got, code := impl.ReadTree(text)
			wantTree(t, "ReadTree of "+strconv.Quote(text), got, code, want, wantCode)
		})
	}
	if read < 1000 || unread < 10000 {
		t.Errorf("%d texts are those of a topology, %d are not", read, unread)
	}
}

// P10: SameTree tells apart any two topologies.
func TestSameTree(t *testing.T) {
	all := rightTrees()
	for i, a := range all {
		for j, b := range all {
			want := textOf(a) == textOf(b)
			if i == j && !want {
				t.Fatal("the texts of one topology differ")
			}
			wantOk(t, "SameTree of two", impl.SameTree(a, b), want)
		}
		for k := range numbersOf(a) {
			for n := int64(-13); n <= 16; n++ {
				b := copied(a)
				*numbersOf(b)[k] = n
				wantOk(t, "SameTree of a changed one", impl.SameTree(a, b), *numbersOf(a)[k] == n)
			}
		}
	}
	nothing := tree([]impl.Device{}, impl.Bucket{Id: -1, Kind: 1, Items: []int64{}})
	wantOk(t, "SameTree of nil and empty lists", impl.SameTree(nothing, tree(nil, host(-1))), true)
}
