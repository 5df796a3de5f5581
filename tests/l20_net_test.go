package tests

import (
	"fmt"
	"math/rand/v2"
	"slices"
	"testing"

	"loop.example/g00849/impl"
)

// isNet says what the document says.
func isNet(n impl.Net) bool {
	for i, node := range n.Cut {
		if !isNodeNo(node) || i > 0 && n.Cut[i-1] >= node {
			return false
		}
	}
	isWrong := func(m impl.Msg) bool { return !isMsg(m) }
	return len(n.Flight) <= 200 && !slices.ContainsFunc(n.Flight, isWrong)
}

// passesIn reports whether a message passes a valid net.
func passesIn(n impl.Net, m impl.Msg) bool {
	for _, node := range n.Cut {
		if m.From == node || m.To == node {
			return false
		}
	}
	return isMsg(m)
}

func sameNet(a, b impl.Net) bool {
	return slices.EqualFunc(a.Flight, b.Flight, sameMsg) && slices.Equal(a.Cut, b.Cut)
}

func copiedMsgs(list []impl.Msg) []impl.Msg {
	list = slices.Clone(list)
	for i, m := range list {
		list[i] = copiedMsg(m)
	}
	return list
}

// copiedNet returns a net that shares no memory with n.
func copiedNet(n impl.Net) impl.Net {
	return impl.Net{Flight: copiedMsgs(n.Flight), Cut: slices.Clone(n.Cut)}
}

func wantNet(t *testing.T, name string, got impl.Net, ok bool, want impl.Net, wantOk bool) {
	t.Helper()
	if !sameNet(got, want) || ok != wantOk {
		t.Errorf("%s: %d messages, cut %v, %v; want %d, %v, %v; %.2000s; want %.2000s", name, len(got.Flight), got.Cut, ok, len(want.Flight), want.Cut, wantOk, fmt.Sprintf("%+v", got), fmt.Sprintf("%+v", want))
	}
}

// queries returns n small messages, each of which is another one.
func queries(n int) []impl.Msg {
	var list []impl.Msg
	for i := range int64(n) {
		list = append(list, msgAt(impl.MsQuery, i%16, i/16%16, pg(1, 3), 1+i%60))
	}
	return list
}

// someMsgs returns n valid messages of all kinds, most of them small.
func someMsgs(r *rand.Rand, n int) []impl.Msg {
	var list []impl.Msg
	for range n {
		kind := 1 + r.Int64N(14)
		if (kind == impl.MsNotice || kind == impl.MsStart) && r.IntN(8) > 0 {
			kind = impl.MsReply
		}
		list = append(list, someMsg(r, kind))
	}
	return list
}

func someCut(r *rand.Rand) []int64 {
	var list []int64
	often := 1 + r.IntN(8)
	for node := range int64(16) {
		if r.IntN(often+1) == 0 {
			list = append(list, node)
		}
	}
	return list
}

// sampleNet has messages of all kinds, some of which pass.
func sampleNet() impl.Net {
	n := impl.Net{Flight: sampleMsgs(), Cut: []int64{2, 7}}
	for i := range n.Flight {
		if i%3 == 0 && n.Flight[i].Kind != impl.MsReply {
			n.Flight[i].To = int64(i) % 16
		}
	}
	return n
}

// rightNets are valid, each in a way of its own.
func rightNets() []impl.Net {
	r := source(210)
	all := []int64{0, 1, 2, 3, 4, 5, 6, 7, 8, 9, 10, 11, 12, 13, 14, 15}
	list := []impl.Net{{}, sampleNet(), {Cut: all}, {Cut: []int64{15}}, {Cut: []int64{0}}, {Flight: sampleMsgs()}, {Flight: sampleMsgs(), Cut: all}}
	for _, size := range []int{1, 2, 3, 99, 100, 101, 102, 150, 198, 199, 200} {
		list = append(list, impl.Net{Flight: queries(size), Cut: someCut(r)})
	}
	for _, size := range []int{1, 1, 2, 2, 3, 5, 8, 13, 21, 34, 199, 200} {
		list = append(list, impl.Net{Flight: someMsgs(r, size), Cut: someCut(r)})
	}
	return list
}

// wrongNets are not valid, each for a reason of its own.
func wrongNets() []impl.Net {
	list := []impl.Net{
		{Flight: queries(201)}, {Flight: queries(1000)}, {Flight: []impl.Msg{{}}},
		{Cut: []int64{2, 1}}, {Cut: []int64{1, 1}}, {Cut: []int64{-1}}, {Cut: []int64{16}}, {Cut: []int64{100}}, {Cut: []int64{3, 5, 4}}, {Cut: []int64{0, 15, 16}}, {Cut: []int64{-1, 0}},
	}
	for _, n := range farNumbers() {
		list = append(list, impl.Net{Cut: []int64{n}})
	}
	for i, m := range sampleMsgs() {
		m.Epoch = 61
		list = append(list, impl.Net{Flight: slices.Insert(sampleMsgs(), i, m)})
	}
	for _, cut := range [][]int64{{2, 1}, {16}, {5, 5}} {
		list = append(list, impl.Net{Flight: queries(5), Cut: cut})
	}
	for _, at := range []int{0, 100, 199} {
		flight := queries(200)
		flight[at].Name = "a"
		list = append(list, impl.Net{Flight: flight, Cut: []int64{1}})
	}
	return list
}

// indexesIn are indexes of messages in n, and beyond.
func indexesIn(n impl.Net) []int64 {
	list := append(farNumbers(), -1<<32+1, -201, -200, -2, -1, 200, 201, 400)
	size := int64(len(n.Flight))
	for k := range size + 2 {
		if size < 40 || k < 3 || k > size-3 || k%13 == 0 {
			list = append(list, k)
		}
	}
	return list
}

func isIndex(n impl.Net, k int64) bool {
	return k >= 0 && k < int64(len(n.Flight))
}

// netWithout returns n without the message with index k.
func netWithout(n impl.Net, k int64) impl.Net {
	n = copiedNet(n)
	n.Flight = append(n.Flight[:k:k], n.Flight[k+1:]...)
	return n
}

// sentIn returns n with the valid messages of a list, up to 200.
func sentIn(n impl.Net, list []impl.Msg) impl.Net {
	n = copiedNet(n)
	for _, m := range list {
		if isMsg(m) && len(n.Flight) < 200 {
			n.Flight = append(n.Flight, copiedMsg(m))
		}
	}
	return n
}

// P26: the constant is that of the document.
func TestNetConstant(t *testing.T) {
	wantNumber(t, "MaxFlight", impl.MaxFlight, 0, 200, 0)
}

// P26: what the document allows is valid, and nothing else.
func TestNetOk(t *testing.T) {
	for i, n := range rightNets() {
		wantOk(t, fmt.Sprint("NetOk of the right net ", i), impl.NetOk(n), true)
		wantOk(t, fmt.Sprint("isNet of the right net ", i), isNet(n), true)
	}
	for i, n := range wrongNets() {
		wantOk(t, fmt.Sprint("NetOk of the wrong net ", i), impl.NetOk(n), false)
		wantOk(t, fmt.Sprint("isNet of the wrong net ", i), isNet(n), false)
	}
	wantOk(t, "the cut 2, 1", impl.NetOk(impl.Net{Cut: []int64{2, 1}}), false)
	wantOk(t, "the cut 1, 2", impl.NetOk(impl.Net{Cut: []int64{1, 2}}), true)
	wantOk(t, "empty lists", impl.NetOk(impl.Net{Flight: []impl.Msg{}, Cut: []int64{}}), true)
	for _, a := range append(nearNumbers(), 8) {
		for _, b := range append(nearNumbers(), 8) {
			n := impl.Net{Flight: queries(2), Cut: []int64{a, b}}
			wantOk(t, fmt.Sprint("the cut ", n.Cut), impl.NetOk(n), isNet(n))
		}
	}
}

// P26: a net is valid only if each of its messages is.
func TestNetOkOfMessages(t *testing.T) {
	for i, m := range append(changedMsgs(), sampleMsgs()...) {
		if i%5 != 0 {
			continue
		}
		n := impl.Net{Flight: []impl.Msg{m}, Cut: []int64{1, 2}}
		if i%2 == 0 {
			n.Flight = append(queries(i%4), m)
		}
		wantOk(t, fmt.Sprintf("NetOk with %+v", m), impl.NetOk(n), isMsg(m))
	}
}

// P26: of a list, the valid messages are in flight, in order, as long as there
// is room; whether they pass does not matter.
func TestSendAll(t *testing.T) {
	r := source(211)
	lists := [][]impl.Msg{nil, {}, {{}}, queries(1), queries(199), queries(200), queries(201), queries(500), sampleMsgs(), someMsgs(r, 60), append(wrongMsgs()[:40], sampleMsgs()...)}
	mixed := queries(300)
	for i := range mixed {
		if i%3 == 1 {
			mixed[i].Code = 7
		}
	}
	lists = append(lists, mixed, mixed[:2], mixed[1:], slices.Concat(queries(198), wrongMsgs()[:5], queries(3)))
	full := 0
	for _, n := range rightNets() {
		for _, list := range lists {
			want := sentIn(n, list)
			wantNet(t, "SendAll", impl.SendAll(copiedNet(n), copiedMsgs(list)), true, want, true)
			if len(want.Flight) == 200 {
				full++
			}
		}
	}
	if full < 50 {
		t.Errorf("only %d full nets", full)
	}
	for _, n := range wrongNets() {
		for _, list := range lists[:4] {
			wantNet(t, "SendAll in a wrong net", impl.SendAll(n, list), true, impl.Net{}, true)
		}
	}
}

// P26: a message that is taken is the one that was in flight, and is there no
// more; if it does not pass it is gone all the same.
func TestTakeAt(t *testing.T) {
	passed, stopped, none := 0, 0, 0
	for _, n := range rightNets() {
		for _, k := range indexesIn(n) {
			got, m, ok := impl.TakeAt(copiedNet(n), k)
			want, wantM, pass := n, impl.Msg{}, false
			if isIndex(n, k) {
				want, pass = netWithout(n, k), passesIn(n, n.Flight[k])
			}
			switch {
			case pass:
				wantM = n.Flight[k]
				passed++
			case isIndex(n, k):
				stopped++
			default:
				none++
			}
			wantNet(t, fmt.Sprint("TakeAt ", k), got, ok, want, pass)
			wantMsg(t, fmt.Sprint("TakeAt ", k), m, 0, wantM, 0)
		}
	}
	if passed < 100 || stopped < 100 || none < 100 {
		t.Errorf("only %d passed, %d stopped, %d not there", passed, stopped, none)
	}
	for _, n := range wrongNets() {
		for _, k := range []int64{-1, 0, 1, 4, 200} {
			got, m, ok := impl.TakeAt(n, k)
			wantNet(t, "TakeAt of a wrong net", got, ok, impl.Net{}, false)
			wantMsg(t, "TakeAt of a wrong net", m, 0, impl.Msg{}, 0)
		}
	}
}

// P26: a message that is dropped is there no more, whether it passes or not.
func TestDropAt(t *testing.T) {
	for _, n := range rightNets() {
		for _, k := range indexesIn(n) {
			got, ok := impl.DropAt(copiedNet(n), k)
			want := n
			if isIndex(n, k) {
				want = netWithout(n, k)
			}
			wantNet(t, fmt.Sprint("DropAt ", k), got, ok, want, isIndex(n, k))
		}
	}
	for _, n := range wrongNets() {
		for _, k := range []int64{-1, 0, 1, 4, 200} {
			got, ok := impl.DropAt(n, k)
			wantNet(t, "DropAt of a wrong net", got, ok, impl.Net{}, false)
		}
	}
}

// P26: a message that is doubled is there once more, behind all others, if there
// is room for it.
func TestDoubleAt(t *testing.T) {
	doubled, full := 0, 0
	for _, n := range rightNets() {
		for _, k := range indexesIn(n) {
			got, ok := impl.DoubleAt(copiedNet(n), k)
			want := copiedNet(n)
			can := isIndex(n, k) && len(n.Flight) < 200
			switch {
			case can:
				want.Flight = append(want.Flight, copiedMsg(n.Flight[k]))
				doubled++
			case isIndex(n, k):
				full++
			}
			wantNet(t, fmt.Sprint("DoubleAt ", k), got, ok, want, can)
		}
	}
	if doubled < 100 || full < 30 {
		t.Errorf("only %d doubled, %d in a full net", doubled, full)
	}
	for _, n := range wrongNets() {
		for _, k := range []int64{-1, 0, 1, 4, 200} {
			got, ok := impl.DoubleAt(n, k)
			wantNet(t, "DoubleAt of a wrong net", got, ok, impl.Net{}, false)
		}
	}
}

// manyNodes are all nodes, and numbers that are none.
func manyNodes() []int64 {
	list := append(nearNumbers(), -16, 17, 32)
	for node := range int64(16) {
		list = append(list, node)
	}
	return list
}

// cutIn returns what CutNode should return.
func cutIn(n impl.Net, node int64) (impl.Net, bool) {
	if !isNet(n) {
		return impl.Net{}, false
	}
	n = copiedNet(n)
	if !isNodeNo(node) || slices.Contains(n.Cut, node) {
		return n, false
	}
	n.Cut = append(n.Cut, node)
	slices.Sort(n.Cut)
	return n, true
}

// wantNodes holds a function of a net and a node against what it should return.
func wantNodes(t *testing.T, name string, do, model func(n impl.Net, node int64) (impl.Net, bool)) {
	t.Helper()
	r := source(212)
	wantOne := func(n impl.Net, node int64) {
		got, ok := do(copiedNet(n), node)
		want, can := model(n, node)
		wantNet(t, fmt.Sprint(name, " of ", node), got, ok, want, can)
	}
	for i := range 60 {
		n := impl.Net{Flight: queries(i % 4), Cut: someCut(r)}
		for _, node := range manyNodes() {
			wantOne(n, node)
		}
	}
	for _, n := range append(rightNets(), wrongNets()...) {
		for _, node := range []int64{-1, 0, 1, 5, 15, 16, 100} {
			wantOne(n, node)
		}
	}
}

// P26: a node that is cut stands in the list in order, once.
func TestCutNode(t *testing.T) {
	wantNodes(t, "CutNode", impl.CutNode, cutIn)
	n := impl.Net{}
	for _, node := range []int64{7, 0, 15, 3, 1, 14, 2, 13, 12, 4, 5, 11, 10, 6, 9, 8} {
		n, _ = impl.CutNode(n, node)
	}
	wantNet(t, "all nodes are cut", n, true, impl.Net{Cut: []int64{0, 1, 2, 3, 4, 5, 6, 7, 8, 9, 10, 11, 12, 13, 14, 15}}, true)
}

// healedIn returns what HealNode should return.
func healedIn(n impl.Net, node int64) (impl.Net, bool) {
	if !isNet(n) {
		return impl.Net{}, false
	}
	n = copiedNet(n)
	at := slices.Index(n.Cut, node)
	if at < 0 {
		return n, false
	}
	n.Cut = slices.Delete(n.Cut, at, at+1)
	return n, true
}

// P26: a node that is healed is not in the list any more, and all others are.
func TestHealNode(t *testing.T) {
	wantNodes(t, "HealNode", impl.HealNode, healedIn)
}

// P26: a message passes if it is valid and neither of its ends is cut.
func TestPasses(t *testing.T) {
	passed, stopped := 0, 0
	messages := append(sampleMsgs(), queries(256)...)
	for _, n := range rightNets() {
		for _, m := range messages {
			pass := passesIn(n, m)
			wantOk(t, fmt.Sprintf("Passes %+v, cut %v", m, n.Cut), impl.Passes(n, m), pass)
			if pass {
				passed++
			} else {
				stopped++
			}
		}
	}
	if passed < 1000 || stopped < 1000 {
		t.Errorf("only %d passed, %d stopped", passed, stopped)
	}
	for i, m := range changedMsgs() {
		if i%7 == 0 {
			wantOk(t, fmt.Sprintf("Passes %+v", m), impl.Passes(impl.Net{}, m), isMsg(m))
			wantOk(t, fmt.Sprintf("Passes %+v, cut 3", m), impl.Passes(impl.Net{Cut: []int64{3}}, m), isMsg(m) && m.From != 3 && m.To != 3)
		}
	}
	for _, n := range wrongNets() {
		wantOk(t, "Passes in a wrong net", impl.Passes(n, queries(1)[0]), false)
	}
}

// P26: the examples of the document.
func TestNetExamples(t *testing.T) {
	one, two := queries(40)[19], queries(40)[35]
	n := impl.SendAll(impl.Net{}, []impl.Msg{one, {}, two})
	wantNet(t, "two messages of three", n, true, impl.Net{Flight: []impl.Msg{one, two}}, true)
	n, ok := impl.CutNode(n, 2)
	wantNet(t, "node 2 is cut", n, ok, impl.Net{Flight: []impl.Msg{one, two}, Cut: []int64{2}}, true)
	n, m, ok := impl.TakeAt(n, 1)
	wantNet(t, "the message to node 2", n, ok, impl.Net{Flight: []impl.Msg{one}, Cut: []int64{2}}, false)
	wantMsg(t, "the message to node 2", m, 0, impl.Msg{}, 0)
	n, m, ok = impl.TakeAt(n, 0)
	wantNet(t, "the message to node 1", n, ok, impl.Net{Cut: []int64{2}}, true)
	wantMsg(t, "the message to node 1", m, 0, one, 0)
}

// P26: nothing leaves or reaches a node that is cut, clients or not, till it is
// healed.
func TestCutNodesHearNothing(t *testing.T) {
	for _, m := range sampleMsgs() {
		for node := range int64(16) {
			n := impl.SendAll(impl.Net{}, []impl.Msg{m})
			n, _ = impl.CutNode(n, node)
			cut := m.From == node || m.To == node
			wantOk(t, fmt.Sprint("Passes, cut ", node), impl.Passes(n, m), !cut)
			// What is sent while the node is cut passes once it is healed.
			n = impl.SendAll(n, []impl.Msg{m})
			n, got, ok := impl.TakeAt(n, 0)
			if cut {
				wantMsg(t, "what does not pass", got, 0, impl.Msg{}, 0)
			} else {
				wantMsg(t, "what passes", got, 0, m, 0)
			}
			wantOk(t, fmt.Sprint("TakeAt, cut ", node), ok, !cut)
			n, _ = impl.HealNode(n, node)
			n, got, ok = impl.TakeAt(n, 0)
			wantMsg(t, "what passes when healed", got, 0, m, 0)
			wantNet(t, "when all was taken", n, ok, impl.Net{}, true)
		}
	}
}

// wire is a net, what it should be, and how often each thing happened.
type wire struct {
	net  impl.Net
	want impl.Net
	did  counts
}

// step does one thing to the net at random, and holds it against the document.
func (w *wire) step(t *testing.T, r *rand.Rand) {
	k := r.Int64N(int64(len(w.want.Flight)) + 2)
	there := isIndex(w.want, k)
	node := r.Int64N(17)
	ok, wanted := true, true
	kind := []string{"send", "send", "take", "take", "take", "drop", "double", "cut", "heal", "heal"}[r.IntN(10)]
	switch kind {
	case "send":
		list := someMsgs(r, r.IntN(1+r.IntN(60)))
		if r.IntN(3) == 0 {
			list = append(list, impl.Msg{}, queries(3)[r.IntN(3)])
		}
		w.net, w.want = impl.SendAll(w.net, list), sentIn(w.want, list)
	case "take":
		var m, wantM impl.Msg
		wanted = there && passesIn(w.want, w.want.Flight[k])
		if wanted {
			wantM = w.want.Flight[k]
		} else if there {
			kind = "take what does not pass"
		}
		w.net, m, ok = impl.TakeAt(w.net, k)
		wantMsg(t, "TakeAt", m, 0, wantM, 0)
	case "drop":
		wanted = there
		w.net, ok = impl.DropAt(w.net, k)
	case "double":
		wanted = there && len(w.want.Flight) < 200
		if wanted {
			w.want = sentIn(w.want, w.want.Flight[k:k+1])
		}
		w.net, ok = impl.DoubleAt(w.net, k)
	case "cut":
		w.want, wanted = cutIn(w.want, node)
		w.net, ok = impl.CutNode(w.net, node)
	case "heal":
		w.want, wanted = healedIn(w.want, node)
		w.net, ok = impl.HealNode(w.net, node)
	}
	if there && (kind == "take" || kind == "take what does not pass" || kind == "drop") {
		w.want = netWithout(w.want, k)
	}
	if !wanted {
		kind += ", without effect"
	}
	w.did[kind]++
	wantNet(t, kind, w.net, ok, w.want, wanted)
}

// P26: over long runs of everything that can happen, what comes out went in, as
// it is, and is there no more.
func TestNetsOverLongRuns(t *testing.T) {
	r := source(214)
	did := counts{}
	fullest := 0
	for range 12 {
		w := wire{did: did}
		for range 60 {
			w.step(t, r)
			fullest = max(fullest, len(w.want.Flight))
		}
	}
	for _, kind := range []string{"send", "take", "take what does not pass, without effect", "take, without effect", "drop", "drop, without effect", "double", "cut", "cut, without effect", "heal", "heal, without effect"} {
		if did[kind] < 5 {
			t.Errorf("%s happened %d times: %v", kind, did[kind], did)
		}
	}
	if fullest < 200 {
		t.Errorf("at most %d messages in flight", fullest)
	}
}

// P26: each message that was sent comes out just once, whatever the order.
func TestEachMessageComesOutOnce(t *testing.T) {
	r := source(215)
	for _, size := range []int{1, 2, 17, 120, 200} {
		all := queries(size)
		n := impl.SendAll(impl.Net{}, all)
		seen := map[string]int{}
		for left := size; left > 0; left-- {
			rest, m, ok := impl.TakeAt(n, r.Int64N(int64(left)))
			n = rest
			seen[impl.PutMsg(m)]++
			wantOk(t, "TakeAt", ok, true)
		}
		wantNet(t, "when all was taken", n, true, impl.Net{}, true)
		for _, m := range all {
			wantNumber(t, "how often a message came out", int64(seen[impl.PutMsg(m)]), 0, 1, 0)
		}
	}
}
