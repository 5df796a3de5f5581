package tests

import (
	"math"
	"math/rand/v2"
	"slices"
	"testing"

	"loop.example/g00849/impl"
)

// bestOf looks for the highest ticket of an item of positive weight.
func bestOf(x impl.Item, seed, try int64) int64 {
	var tickets []int64
	for unit := range x.Weight {
		tickets = append(tickets, impl.Mix([]int64{seed, try, x.Id, unit}))
	}
	return slices.Max(tickets)
}

// winnerOf looks for the first item with the highest ticket.
func winnerOf(list []impl.Item, seed, try int64) (int64, int64) {
	winner, highest := -1, int64(-1)
	for i, x := range list {
		if x.Weight == 0 {
			continue
		}
		if best := bestOf(x, seed, try); best > highest {
			winner, highest = i, best
		}
	}
	if winner < 0 {
		return 0, impl.ErrNone
	}
	return list[winner].Id, impl.OK
}

func items(pairs ...int64) []impl.Item {
	var list []impl.Item
	for i := 0; i < len(pairs); i += 2 {
		list = append(list, impl.Item{Id: pairs[i], Weight: pairs[i+1]})
	}
	return list
}

// straws are the items of the document's example.
func straws() []impl.Item {
	return items(1, 2, 2, 1, 3, 0)
}

func someItems(r *rand.Rand, n int) []impl.Item {
	var list []impl.Item
	for _, i := range r.Perm(28)[:n] {
		list = append(list, impl.Item{Id: int64(i) - 12, Weight: max(0, r.Int64N(12)-2)})
	}
	if n > 0 && r.IntN(4) == 0 {
		list[r.IntN(n)].Weight = 128 - r.Int64N(3)
	}
	return list
}

func rightItems() [][]impl.Item {
	list := [][]impl.Item{
		nil, {}, straws(), items(0, 1), items(0, 0), items(15, 128), items(-12, 128), items(-12, 0, 15, 0), items(-1, 3, -2, 3, -3, 3), items(1, 0, 2, 0, 3, 0),
		items(0, 128, 1, 128, 2, 128, 3, 128, 4, 128, 5, 128, 6, 128, 7, 128), items(-1, 1, 0, 1),
	}
	r := source(71)
	for n := range 9 {
		for range 4 {
			list = append(list, someItems(r, n))
		}
	}
	return list
}

func wrongItems() [][]impl.Item {
	return [][]impl.Item{
		items(0, 1, 1, 1, 2, 1, 3, 1, 4, 1, 5, 1, 6, 1, 7, 1, 8, 1), items(16, 1), items(-13, 1), items(math.MinInt64, 1), items(math.MaxInt64, 1), items(1<<32, 1),
		items(1, -1), items(1, 129), items(1, math.MinInt64), items(1, math.MaxInt64), items(1, 1<<32), items(16, 0), items(-13, 0),
		items(1, 1, 1, 1), items(1, 0, 1, 0), items(1, 1, 2, 1, 1, 2), items(-1, 1, 0, 1, -1, 0), items(0, 1, 1, 1, 16, 0), items(0, 1, 1, 129),
	}
}

// someSeeds are the first seeds, and some that are far from them.
func someSeeds(n int64) []int64 {
	list := []int64{math.MinInt64, -1 << 32, -5, -1, 1 << 31, 1<<32 - 1, 1 << 32, 1<<32 + 1, math.MaxInt64}
	for seed := range n {
		list = append(list, seed)
	}
	return list
}

func someTries() []int64 {
	return []int64{0, 1, 2, 29, 30, 31, 239, -1, 1 << 32, math.MinInt64, math.MaxInt64}
}

// P11: a ticket is the hash of its four numbers, whatever these are.
func TestTicketOf(t *testing.T) {
	far := append(someSeeds(3), 15, -12, 127)
	for _, id := range far {
		for _, unit := range far {
			for _, seed := range far {
				for _, try := range someTries() {
					if got, want := impl.TicketOf(id, unit, seed, try), impl.Mix([]int64{seed, try, id, unit}); got != want {
						t.Fatalf("TicketOf(%d, %d, %d, %d): %d; want %d", id, unit, seed, try, got, want)
					}
				}
			}
		}
	}
	for _, v := range [][]int64{{0, 0, 0, 0, 105116999}, {-1, 2, 7, 3, 1697578249}} {
		wantNumber(t, "TicketOf", impl.TicketOf(v[0], v[1], v[2], v[3]), impl.OK, v[4], impl.OK)
	}
}

// P11: the best ticket of an item is the highest of all of its units.
func TestBestTicket(t *testing.T) {
	best, code := impl.BestTicket(impl.Item{Id: 3, Weight: 3}, 5, 1)
	wantNumber(t, "BestTicket", best, code, 3086200173, impl.OK)
	for id := int64(-12); id <= 15; id++ {
		for weight := int64(1); weight <= 128; weight++ {
			for seed := range int64(6) {
				x := impl.Item{Id: id, Weight: weight}
				best, code := impl.BestTicket(x, seed, seed%3)
				wantNumber(t, "BestTicket", best, code, bestOf(x, seed, seed%3), impl.OK)
			}
		}
		best, code := impl.BestTicket(impl.Item{Id: id}, 5, 1)
		wantNumber(t, "BestTicket of weight 0", best, code, 0, impl.ErrNone)
	}
	for _, x := range items(16, 1, -13, 1, 16, 0, -13, 0, 3, -1, 3, 129, 3, math.MinInt64, 3, math.MaxInt64, math.MinInt64, 1, math.MaxInt64, 1, 1<<32, 1, 3, 1<<32) {
		best, code := impl.BestTicket(x, 5, 1)
		wantNumber(t, "BestTicket of a wrong item", best, code, 0, impl.ErrForm)
	}
}

// P11: the items of a list are valid, are not too many and have different Ids.
func TestItemsOk(t *testing.T) {
	for _, list := range rightItems() {
		wantOk(t, "ItemsOk", impl.ItemsOk(list), true)
	}
	for _, list := range wrongItems() {
		wantOk(t, "ItemsOk of a wrong list", impl.ItemsOk(list), false)
		id, code := impl.ChooseOne(list, 0, 0)
		wantNumber(t, "ChooseOne of a wrong list", id, code, 0, impl.ErrForm)
		for _, tries := range []int64{-1, 0, 1, 31} {
			ids, code := impl.Draws(list, 0, tries)
			wantNumbers(t, "Draws of a wrong list", ids, code, nil, impl.ErrForm)
		}
	}
}

// P11: the item with the highest ticket is chosen.
func TestChooseOne(t *testing.T) {
	for _, list := range rightItems() {
		for _, seed := range someSeeds(40) {
			for _, try := range someTries() {
				want, wantCode := winnerOf(list, seed, try)
				id, code := impl.ChooseOne(list, seed, try)
				wantNumber(t, "ChooseOne", id, code, want, wantCode)
			}
		}
	}
}

// tie is two items that draw the same tickets, though not unit by unit, if the
// weight of each is 128.
type tie struct{ a, b, seed, try int64 }

func ties() []tie {
	return []tie{
		{5, -12, 2900283401, 0}, {10, -5, 1918298634, 1}, {12, -1, 3743091097, 7}, {5, -12, 4277826586, 29}, {9, -7, 323277404, 0},
		{3, -11, 1893284856, 2}, {15, -5, 3596239776, -1}, {0, -12, 3733602787, 3}, {7, -10, 3906803832, 5},
	}
}

// P11: of items that share the highest ticket the first in the list is chosen.
func TestEqualDraws(t *testing.T) {
	equal := 0
	for _, v := range ties() {
		for weightA := int64(2); weightA <= 128; weightA += 3 {
			for weightB := int64(3); weightB <= 128; weightB += 5 {
				a, b := impl.Item{Id: v.a, Weight: weightA}, impl.Item{Id: v.b, Weight: weightB}
				if bestOf(a, v.seed, v.try) != bestOf(b, v.seed, v.try) {
					continue
				}
				equal++
				wantFirst(t, v, a, b)
				wantFirst(t, v, b, a)
			}
		}
		a, b := impl.Item{Id: v.a, Weight: 128}, impl.Item{Id: v.b, Weight: 128}
		wantFirst(t, v, a, b)
		wantFirst(t, v, b, a)
		if bestOf(a, v.seed, v.try) != bestOf(b, v.seed, v.try) {
			t.Errorf("%v: no tie", v)
		}
	}
	if equal < 1000 {
		t.Errorf("only %d of the draws are equal", equal)
	}
}

// wantFirst puts others, that never win, between, before and behind a and b,
// which draw the same ticket.
func wantFirst(t *testing.T, v tie, a, b impl.Item) {
	t.Helper()
	none, low := impl.Item{Id: 1}, impl.Item{Id: 2, Weight: 1}
	lists := [][]impl.Item{{a, b}, {a, none, b}, {none, a, b}, {a, b, none}}
	if bestOf(low, v.seed, v.try) < bestOf(a, v.seed, v.try) {
		lists = append(lists, []impl.Item{a, low, b}, []impl.Item{low, a, b}, []impl.Item{a, b, low})
	}
	for _, list := range lists {
		id, code := impl.ChooseOne(list, v.seed, v.try)
		wantNumber(t, "ChooseOne of equal draws", id, code, a.Id, impl.OK)
		if v.try < 0 {
			continue
		}
		ids, code := impl.Draws(list, v.seed, v.try+1)
		wantNumber(t, "Draws of equal draws", ids[v.try], code, a.Id, impl.OK)
	}
}

// P11: an item of weight 0 is never chosen, not even where the only ticket that
// was drawn is 0; the greatest ticket wins against all others.
func TestLowestAndGreatestTickets(t *testing.T) {
	for _, v := range []struct{ id, seed, try int64 }{{3, 3717662579, 0}, {15, 2258152209, 4}} {
		wantNumber(t, "TicketOf", impl.TicketOf(v.id, 0, v.seed, v.try), impl.OK, 0, impl.OK)
		best, code := impl.BestTicket(impl.Item{Id: v.id, Weight: 1}, v.seed, v.try)
		wantNumber(t, "BestTicket", best, code, 0, impl.OK)
		for _, list := range [][]impl.Item{items(v.id, 1), items(1, 0, v.id, 1), items(v.id, 1, 1, 0), items(1, 0, v.id, 1, -2, 0)} {
			id, code := impl.ChooseOne(list, v.seed, v.try)
			wantNumber(t, "ChooseOne of the lowest ticket", id, code, v.id, impl.OK)
		}
		for other := range v.id {
			id, code := impl.ChooseOne(items(v.id, 1, other, 1), v.seed, v.try)
			wantNumber(t, "ChooseOne against the lowest ticket", id, code, other, impl.OK)
		}
	}
	for _, list := range [][]impl.Item{items(3, 1, 4, 128), items(4, 128, 3, 1), items(4, 128, -1, 128, 3, 128)} {
		id, code := impl.ChooseOne(list, 822949177, 0)
		wantNumber(t, "ChooseOne of the greatest ticket", id, code, 3, impl.OK)
	}
	best, code := impl.BestTicket(impl.Item{Id: 3, Weight: 128}, 822949177, 0)
	wantNumber(t, "BestTicket", best, code, math.MaxUint32, impl.OK)
}

// P11: with the weight of one item increased, a selection stays or moves to
// that item; with a greater weight an item is chosen more often.
func TestIncreasedWeights(t *testing.T) {
	for _, list := range rightItems() {
		for i := range list {
			for _, weight := range []int64{list[i].Weight + 1, list[i].Weight + 5, 128} {
				if weight <= 128 {
					compareSelections(t, list, i, weight)
				}
			}
		}
	}
}

func compareSelections(t *testing.T, list []impl.Item, at int, weight int64) {
	t.Helper()
	heavier := slices.Clone(list)
	heavier[at].Weight = weight
	for seed := range int64(60) {
		before, code := impl.ChooseOne(list, seed, 0)
		after, code2 := impl.ChooseOne(heavier, seed, 0)
		if code2 != impl.OK || after != heavier[at].Id && (code != impl.OK || after != before) {
			t.Errorf("seed %d: %v chose %d, code %d, and %v %d, code %d", seed, list, before, code, heavier, after, code2)
		}
	}
}

// P11: items are chosen about as often as their weights are great.
func TestSharesOfSelections(t *testing.T) {
	counts := map[int64]int{}
	for seed := range int64(4000) {
		id, _ := impl.ChooseOne(items(0, 4, -1, 3, 2, 1, 3, 0), seed, 0)
		counts[id]++
	}
	for id, share := range map[int64]int{0: 2000, -1: 1500, 2: 500, 3: 0} {
		if counts[id] < share-150 || counts[id] > share+150 || share == 0 && counts[id] > 0 {
			t.Errorf("%d was chosen %d times; want about %d", id, counts[id], share)
		}
	}
}

// P11: Draws are the selections of the first tries.
func TestDraws(t *testing.T) {
	ids, code := impl.Draws(straws(), 9, 6)
	wantNumbers(t, "Draws", ids, code, []int64{2, 1, 1, 2, 1, 1}, impl.OK)
	for _, list := range rightItems() {
		_, none := winnerOf(list, 0, 0)
		for _, seed := range someSeeds(6) {
			var want []int64
			for tries := range int64(impl.MaxTries + 1) {
				ids, code := impl.Draws(list, seed, tries)
				if none != impl.OK && tries > 0 {
					wantNumbers(t, "Draws of no weight", ids, code, nil, impl.ErrNone)
				} else {
					wantNumbers(t, "Draws", ids, code, want, impl.OK)
				}
				next, _ := winnerOf(list, seed, tries)
				want = append(want, next)
			}
			for _, tries := range []int64{math.MinInt64, -1, 31, 1 << 32, 1<<32 + 1, math.MaxInt64} {
				ids, code := impl.Draws(list, seed, tries)
				wantNumbers(t, "Draws out of range", ids, code, nil, impl.ErrRange)
			}
		}
	}
}

// choiceIn chooses among the items of a bucket, as the definition has it.
func choiceIn(t impl.Tree, bucket, seed, try int64) (int64, int64) {
	for _, b := range t.Buckets {
		if b.Id != bucket {
			continue
		}
		var list []impl.Item
		for _, item := range b.Items {
			list = append(list, impl.Item{Id: item, Weight: weightUnder(t, item)})
		}
		return winnerOf(list, seed, try)
	}
	return 0, impl.ErrNone
}

// descent follows the choices down to a kind, as the definition has it.
func descent(t impl.Tree, id, kind, seed, try int64) (int64, int64) {
	if !slices.Contains(partIds(t), id) {
		return 0, impl.ErrNone
	}
	own := int64(0)
	for _, b := range t.Buckets {
		if b.Id == id {
			own = b.Kind
		}
	}
	if own == kind {
		return id, impl.OK
	}
	next, code := choiceIn(t, id, seed, try)
	if code != impl.OK {
		return 0, code
	}
	return descent(t, next, kind, seed, try)
}

// P11: ChooseIn chooses among the items of a bucket by the weights of all that
// they contain.
func TestChooseIn(t *testing.T) {
	for _, x := range rightTrees() {
		for _, id := range append(partIds(x), strangeIds(x)...) {
			for _, seed := range someSeeds(6) {
				want, wantCode := choiceIn(x, id, seed, seed%4)
				got, code := impl.ChooseIn(x, id, seed, seed%4)
				wantNumber(t, "ChooseIn", got, code, want, wantCode)
			}
		}
	}
	for _, x := range wrongTrees() {
		for _, id := range []int64{0, -1, 99} {
			got, code := impl.ChooseIn(x, id, 0, 0)
			wantNumber(t, "ChooseIn of a wrong tree", got, code, 0, impl.ErrForm)
		}
	}
	for seed, want := range []int64{-1, -1, -2, -1, -2} {
		got, code := impl.ChooseIn(sample(), -4, int64(seed), 0)
		wantNumber(t, "ChooseIn", got, code, want, impl.OK)
	}
}

// P11: Descend follows the choices to the part of a kind, with one seed and one
// try.
func TestDescend(t *testing.T) {
	for _, x := range rightTrees() {
		for _, id := range append(partIds(x), strangeIds(x)...) {
			for kind := int64(0); kind <= impl.KdRoot; kind++ {
				for _, seed := range someSeeds(6) {
					want, wantCode := descent(x, id, kind, seed, seed%4)
					got, code := impl.Descend(x, id, kind, seed, seed%4)
					wantNumber(t, "Descend", got, code, want, wantCode)
				}
			}
			for _, kind := range []int64{math.MinInt64, -1, 4, 1 << 32, math.MaxInt64} {
				got, code := impl.Descend(x, id, kind, 0, 0)
				wantNumber(t, "Descend to no kind", got, code, 0, impl.ErrRange)
			}
		}
	}
	for _, x := range wrongTrees() {
		for _, kind := range []int64{-1, 0, 1, 4} {
			got, code := impl.Descend(x, -1, kind, 0, 0)
			wantNumber(t, "Descend in a wrong tree", got, code, 0, impl.ErrForm)
		}
	}
	for seed, want := range []int64{1, 1, 2, 0, 3} {
		got, code := impl.Descend(sample(), -4, 0, int64(seed), 0)
		wantNumber(t, "Descend", got, code, want, impl.OK)
	}
}

// P11: a device of weight 0 is reached from itself only, and so is a bucket
// that contains no other devices.
func TestDescendWithoutWeight(t *testing.T) {
	x := tree(devices(0, 2, 0, 0), host(-1, 0, 1), host(-2, 2, 3), host(-3), rack(-4, -2, -3), rack(-5, -1), rack(-6, -7), host(-7), root(-8, -4, -5, -6), root(-9))
	for seed := range int64(50) {
		for _, v := range []struct{ from, kind, want, code int64 }{
			{-8, 0, 1, impl.OK}, {-8, impl.KdHost, -1, impl.OK}, {-8, impl.KdRack, -5, impl.OK}, {-8, impl.KdRoot, -8, impl.OK},
			{0, 0, 0, impl.OK}, {2, 0, 2, impl.OK}, {-2, impl.KdHost, -2, impl.OK}, {-3, impl.KdHost, -3, impl.OK}, {-4, impl.KdRack, -4, impl.OK}, {-9, impl.KdRoot, -9, impl.OK},
			{-2, 0, 0, impl.ErrNone}, {-3, 0, 0, impl.ErrNone}, {-4, impl.KdHost, 0, impl.ErrNone}, {-4, 0, 0, impl.ErrNone}, {-6, impl.KdHost, 0, impl.ErrNone}, {-9, impl.KdRack, 0, impl.ErrNone}, {-9, 0, 0, impl.ErrNone},
			{0, impl.KdHost, 0, impl.ErrNone}, {1, impl.KdRoot, 0, impl.ErrNone}, {-1, impl.KdRack, 0, impl.ErrNone}, {-4, impl.KdRoot, 0, impl.ErrNone},
		} {
			got, code := impl.Descend(x, v.from, v.kind, seed, 3)
			wantNumber(t, "Descend", got, code, v.want, v.code)
		}
	}
}

// P11: with the weight of one device increased, a selection in a bucket stays
// or moves to the item that is the device or contains it.
func TestIncreasedWeightsOfDevices(t *testing.T) {
	for _, x := range rightTrees() {
		for _, d := range x.Devices {
			heavier, code := impl.SetWeight(x, d.Id, min(8, d.Weight+3))
			if code != impl.OK {
				t.Fatalf("SetWeight: code %d", code)
			}
			for _, b := range x.Buckets {
				for seed := range int64(12) {
					before, code := impl.ChooseIn(x, b.Id, seed, 0)
					after, code2 := impl.ChooseIn(heavier, b.Id, seed, 0)
					moved := before != after || code != code2
					if moved && (code2 != impl.OK || !slices.Contains(under(x, after), d.Id)) {
						t.Errorf("%v: with more weight of %d the selection in %d went from %d, code %d, to %d, code %d", x, d.Id, b.Id, before, code, after, code2)
					}
				}
			}
		}
	}
}
