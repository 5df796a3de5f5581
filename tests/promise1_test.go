package tests

import (
	"math"
	"reflect"
	"slices"
	"strings"
	"sync"
	"testing"

	"loop.example/g00849/impl"
)

// call is one call of a function of the package, and its results.
type call struct {
	name string
	run  func() []any
}

func anyNumbers() []int64 {
	list := []int64{math.MinInt64, -1 << 32, -256, -9, -2, -1, 0, 1, 2, 3, 7, 8, 9, 10, 127, 128, 254, 255, 256, 285, 300, 1 << 31, 1 << 32, 1<<32 + 1, 1 << 61}
	return append(list, 1<<62-1, 1<<62, 1<<62+1, math.MaxInt64-1, math.MaxInt64)
}

func anyTexts() []string {
	return []string{
		"", "\x00", "\x01", "\x7f", "\x80", "\xff", "\x80\x00", "\x80\x01", "\xac\x02", "\x03ab", "\x03abcd", "FF", "00ff61", "0g", "é", "\xff\xff",
		"\x80\x80\x80\x80\x80\x80\x80\x80\x40", "\x80\x80\x80\x80\x80\x80\x80\x80\x41", "\xff\xff\xff\xff\xff\xff\xff\xff\x7f", strings.Repeat("\xff", 20),
		strings.Repeat("\x80", 20), strings.Repeat("a", 64), strings.Repeat("0", 1000), strings.Repeat("\x00\xfe", 5000),
	}
}

func anyMatrices() []impl.Matrix {
	r := source(20)
	list := wrongMatrices()
	for n := int64(1); n <= 8; n++ {
		list = append(list, unit(n), someMatrix(r, n, n), someMatrix(r, n, 2), someMatrix(r, 2, n))
		list = append(list, impl.Matrix{High: n, Wide: n, Cells: make([]int64, n*n)})
	}
	return list
}

func anyRows() [][]int64 {
	list := [][]int64{nil, {}, {0, 1}, {1, 0, 1}, {0, 0, 0, 0, 0, 0, 0, 0}, make([]int64, 9), make([]int64, 100)}
	for _, n := range anyNumbers() {
		list = append(list, []int64{n}, []int64{0, n})
	}
	return list
}

func anyPieces() [][]string {
	list := [][]string{nil, {}, {""}, {"", ""}, {"ab", "c"}, {"", "c"}, {"ab", "cd"}, {"ab", "cd", "ef"}}
	for n := range 10 {
		list = append(list, slices.Repeat([]string{"pq\xff\x00"}, n))
	}
	return list
}

func anyCodes() []impl.Code {
	return append(wrongCodes(), allCodes()...)
}

// anyHaves returns lists of shards, most of which fit neither the code nor the
// size they are given with.
func anyHaves() [][]impl.Shard {
	all := helloShards()
	list := [][]impl.Shard{nil, {}, {{Pos: -1}}, {{Pos: 0}, {Pos: 1}}, {{Pos: math.MinInt64}, {Pos: math.MaxInt64}}, {{Pos: 0, Bytes: "a"}, {Pos: 0, Bytes: "a"}}}
	for k := range int64(6) {
		for _, positions := range choices(5, k) {
			list = append(list, picked(all, positions...))
		}
	}
	list = append(list, picked(all, 2, 1, 0), picked(all, 0, 1, 2, 2))
	return append(list, []impl.Shard{{Pos: 0, Bytes: "hello world"}, {Pos: 3, Bytes: "jello world"}}, []impl.Shard{{Pos: 0, Bytes: "hello "}, {Pos: 1, Bytes: "worl"}})
}

func anyWides() []impl.Wide {
	list := wrongWides()
	for _, w := range []impl.Wide{example(), wideOf(helloCode, 1, hello), wideOf(impl.Code{K: 4, M: 3}, 8, strings.Repeat("a", 256)), wideOf(impl.Code{K: 1}, 3, "")} {
		list = append(list, w, strange(60, w))
	}
	return list
}

func anyTrees() []impl.Tree {
	return append(wrongTrees(), rightTrees()[:24]...)
}

func anyItems() [][]impl.Item {
	return append(wrongItems(), rightItems()...)
}

// anyRules returns rules, most of which are for none of the topologies.
func anyRules() []impl.Rule {
	list := []impl.Rule{{}, hostRule(true), hostRule(false), {Id: 4, Root: -4}, {Id: 2, Root: -12, Kind: impl.KdRack}, {Id: 1, Root: -1, Kind: impl.KdHost}, {Id: 1, Root: -3, Indep: true}}
	for _, n := range []int64{math.MinInt64, -1, 3, 5, 1 << 32, math.MaxInt64} {
		list = append(list, impl.Rule{Id: n, Root: -4}, impl.Rule{Id: 1, Root: n}, impl.Rule{Id: 1, Root: -4, Kind: n}, impl.Rule{Id: n, Root: n, Kind: n})
	}
	return list
}

func anyOuts() [][]int64 {
	return append(append(someOuts(), wrongOuts()...), anyRows()...)
}

func anyExcepts() [][]impl.Except {
	return append(append(rightExcepts(), wrongExcepts()...), []impl.Except{except(0, 2, 1), except(0, 4, 0), except(1, 2, 4), except(2, 1, 0)})
}

func anyTables() [][][]int64 {
	return append(rightTables(), wrongTables()...)
}

func anyMaps() []impl.Map {
	return append(rightMaps(), wrongMaps()...)
}

func anyIncs() []impl.Inc {
	return slices.Concat(wrongIncs()[:60], incsFor(2)[:30], incsFor(6)[:30])
}

func anyActings() [][]int64 {
	return slices.Concat(rightActings()[:30], wrongActings(), anyRows())
}

func anyIntervals() [][]impl.Interval {
	return append(rightIntervals(), wrongIntervals()...)
}

func anyChains() [][]impl.Map {
	r := source(135)
	list := [][]impl.Map{nil, {}, slices.Repeat([]impl.Map{firstMap()}, 70), busyWalk(r, firstMap(), 12), busyWalk(r, oneNode(), 60), busyWalk(r, someMap(), 3)}
	for _, m := range anyMaps() {
		list = append(list, []impl.Map{m}, []impl.Map{firstMap(), m})
	}
	return list
}

func anyDisks() []impl.Disk {
	return append(wrongDisks(), rightDisks()...)
}

func anyJournals() []impl.Journal {
	return append(wrongJournals(), someJournals()[:60]...)
}

// anyWrites returns lists of what may be written to consecutive sectors.
func anyWrites() [][]string {
	return [][]string{nil, {}, {""}, {"short"}, fullOf('a'), fullOf('a', 'b'), {full('a'), "short"}, slices.Repeat(fullOf('m'), 601)}
}

// anyFrames returns lists of what may be frames of a journal.
func anyFrames() [][]string {
	return [][]string{nil, {}, {""}, {"a", "bc"}, {full('f') + full('g')}, slices.Repeat([]string{""}, 41), {strings.Repeat("l", 16000)}, {strings.Repeat("l", 16001)}}
}

func anyOps() []impl.Op {
	return append(wrongOps(), rightOps()...)
}

// anyOpLists returns lists of operations, some of them too long or with one that
// is not valid.
func anyOpLists() [][]impl.Op {
	r := source(164)
	list := [][]impl.Op{nil, {}, someOps(r, 3), someOps(r, 24), someOps(r, 25), append(someOps(r, 2), impl.Op{}), someOps(r, 1000)}
	for _, o := range anyOps() {
		list = append(list, []impl.Op{o}, []impl.Op{op(impl.OpFull, 0, "ab"), o})
	}
	return list
}

func anyStates() []impl.PgState {
	list := wrongStates()
	return slices.Concat(rightStates()[:40], tooFullStates()[:9], list[len(list)-400:])
}

func anyVers() []impl.Ver {
	list := []impl.Ver{ver(2, 3), ver(4, 2), ver(60, 1000)}
	for _, n := range anyNumbers() {
		list = append(list, ver(n, n), ver(4, n))
	}
	return list
}

// anyStores returns stores of which most are not valid.
func anyStores() []impl.Store {
	list := slices.Concat(wrongStores(), rightStores()[:24])
	for _, x := range anyStates()[:40] {
		list = append(list, impl.Store{Live: []impl.PgState{x}}, impl.Store{Live: []impl.PgState{sampleState()}, Kept: []impl.PgState{x}})
	}
	return list
}

// anyMsgs returns messages of which most are not valid.
func anyMsgs() []impl.Msg {
	list := sampleMsgs()
	for i, m := range changedMsgs() {
		if i%29 == 0 {
			list = append(list, m)
		}
	}
	for _, s := range anyStates()[:60] {
		m := msgAt(impl.MsNotice, 1, 2, s.Pg, s.Seen)
		m.State = s
		list = append(list, m)
	}
	return list
}

// anyNets returns nets of which most are not valid.
func anyNets() []impl.Net {
	list := slices.Concat(wrongNets(), rightNets())
	for _, m := range anyMsgs()[:40] {
		list = append(list, impl.Net{Flight: []impl.Msg{m}, Cut: []int64{1}})
	}
	return list
}

func anyMons() []impl.Mon {
	r := source(226)
	return slices.Concat(sampleMons(), []impl.Mon{fullMon()}, someMons(r, 6), []impl.Mon{{}, {Many: 6}, {Id: -1, Many: 3}, {Many: 3, Slots: []impl.Slot{{Epoch: 61}}}, {Many: 3, Try: impl.Try{Promises: []int64{2, 1}, Accepts: []int64{0}}}})
}

func anyMonMsgs() []impl.MonMsg {
	list := append(sampleMonMsgs(), impl.MonMsg{}, impl.MonMsg{Kind: 9, From: -1, To: 7, Epoch: -3})
	for id := range int64(5) {
		for kind := range int64(5) {
			g := impl.MonMsg{Kind: kind, From: 2, To: id, Epoch: 7, Ballot: ballot(4, 1)}
			list = append(list, g, impl.MonMsg{Kind: kind, From: 0, To: id, Epoch: 6, Ballot: ballot(7, 2), Inc: upAt(6, 1)})
		}
	}
	return list
}

func anyMonLists() [][]impl.Mon {
	r := source(227)
	list := [][]impl.Mon{nil, {}, {{}}, sampleMons(), anyMons()}
	for many := int64(1); many <= 5; many++ {
		list = append(list, allMons(many), mons(r, many), mons(r, many), mons(r, many), mons(r, many)[1:])
	}
	return list
}

func anyPgs() []impl.Pg {
	var list []impl.Pg
	for _, n := range anyNumbers() {
		list = append(list, pg(n, n), pg(n, 3), pg(1, n))
	}
	return list
}

func number1(f func(int64) (int64, int64), n int64) func() []any {
	return func() []any {
		a, b := f(n)
		return []any{a, b}
	}
}

func number2(f func(a, b int64) (int64, int64), m, n int64) func() []any {
	return func() []any {
		a, b := f(m, n)
		return []any{a, b}
	}
}

func callsOfBytes() []call {
	var list []call
	for _, n := range anyNumbers() {
		list = append(list, call{"PutVar", func() []any { return []any{impl.PutVar(n)} }})
		list = append(list, call{"CodeWord", func() []any { return []any{impl.CodeWord(n)} }})
	}
	for _, s := range anyTexts() {
		list = append(list,
			call{"GetVar", func() []any { a, b, ok := impl.GetVar(s); return []any{a, b, ok} }},
			call{"PutText", func() []any { return []any{impl.PutText(s)} }},
			call{"GetText", func() []any { a, b, ok := impl.GetText(s); return []any{a, b, ok} }},
			call{"Crc", func() []any { return []any{impl.Crc(s)} }},
			call{"PutHex", func() []any { return []any{impl.PutHex(s)} }},
			call{"GetHex", func() []any { a, ok := impl.GetHex(s); return []any{a, ok} }})
	}
	for _, words := range anyRows() {
		list = append(list, call{"Mix", func() []any { return []any{impl.Mix(words)} }})
	}
	return list
}

func callsOfField() []call {
	var list []call
	for _, m := range anyNumbers() {
		list = append(list, call{"GfInv", number1(impl.GfInv, m)}, call{"GfLog", number1(impl.GfLog, m)})
		for _, n := range anyNumbers() {
			list = append(list,
				call{"GfAdd", number2(impl.GfAdd, m, n)}, call{"GfMul", number2(impl.GfMul, m, n)},
				call{"GfDiv", number2(impl.GfDiv, m, n)}, call{"GfPow", number2(impl.GfPow, m, n)})
		}
		for _, s := range anyTexts() {
			list = append(list, call{"GfScale", func() []any { a, code := impl.GfScale(m, s); return []any{a, code} }})
		}
	}
	for _, s := range anyTexts() {
		for _, u := range anyTexts() {
			list = append(list, call{"GfSum", func() []any { a, code := impl.GfSum(s, u); return []any{a, code} }})
		}
	}
	return list
}

func callsOfMatrices() []call {
	var list []call
	for _, m := range anyNumbers() {
		list = append(list, call{"MatUnit", func() []any { a, code := impl.MatUnit(m); return []any{a, code} }})
		for _, n := range anyNumbers() {
			list = append(list, call{"CodeMatrix", func() []any { a, code := impl.CodeMatrix(m, n); return []any{a, code} }})
		}
	}
	for _, a := range anyMatrices() {
		list = append(list,
			call{"MatrixOk", func() []any { return []any{impl.MatrixOk(a)} }},
			call{"MatInv", func() []any { m, code := impl.MatInv(a); return []any{m, code} }})
		for _, b := range anyMatrices() {
			list = append(list,
				call{"SameMatrix", func() []any { return []any{impl.SameMatrix(a, b)} }},
				call{"MatMul", func() []any { m, code := impl.MatMul(a, b); return []any{m, code} }})
		}
		for _, rows := range anyRows() {
			list = append(list, call{"MatRows", func() []any { m, code := impl.MatRows(a, rows); return []any{m, code} }})
		}
		for _, pieces := range anyPieces() {
			list = append(list, call{"MatPieces", func() []any { m, code := impl.MatPieces(a, pieces); return []any{m, code} }})
		}
	}
	return list
}

func callsOfShards() []call {
	var list []call
	for _, c := range anyCodes() {
		list = append(list, call{"CodeOk", func() []any { return []any{impl.CodeOk(c)} }})
		for _, n := range anyNumbers() {
			list = append(list, call{"PieceSize", func() []any { a, code := impl.PieceSize(c, n); return []any{a, code} }})
		}
		for _, body := range anyTexts() {
			list = append(list,
				call{"ShardsOf", func() []any { a, ok := impl.ShardsOf(c, body); return []any{a, ok} }},
				call{"ShardAt", func() []any { a, code := impl.ShardAt(c, body, 0); return []any{a, code} }})
		}
		for _, have := range anyHaves() {
			list = append(list, callsOfHave(c, have)...)
		}
	}
	for _, n := range anyNumbers() {
		list = append(list,
			call{"ShardAt", func() []any { a, code := impl.ShardAt(helloCode, hello, n); return []any{a, code} }},
			call{"Rebuild", func() []any {
				a, code := impl.Rebuild(helloCode, 11, picked(helloShards(), 1, 3, 4), n)
				return []any{a, code}
			}})
		for _, have := range anyHaves() {
			list = append(list, call{"HaveOk", func() []any { return []any{impl.HaveOk(helloCode, n, have)} }})
		}
	}
	return list
}

func callsOfHave(c impl.Code, have []impl.Shard) []call {
	var list []call
	for _, size := range []int64{math.MinInt64, -1, 0, 1, 11, 12, 64, 65, math.MaxInt64} {
		list = append(list,
			call{"HaveOk", func() []any { return []any{impl.HaveOk(c, size, have)} }},
			call{"BodyOf", func() []any { a, code := impl.BodyOf(c, size, have); return []any{a, code} }},
			call{"Rebuild", func() []any { a, code := impl.Rebuild(c, size, have, 1); return []any{a, code} }},
			call{"OddShards", func() []any { a, code := impl.OddShards(c, size, have); return []any{a, code} }})
	}
	return list
}

func callsOfStripes() []call {
	var list []call
	for _, c := range anyCodes() {
		for _, unit := range anyNumbers() {
			for _, body := range anyTexts() {
				list = append(list, call{"WideOf", func() []any { a, code := impl.WideOf(c, unit, body); return []any{a, code} }})
			}
		}
	}
	for _, w := range anyWides() {
		list = append(list, callsOfWide(w)...)
	}
	return list
}

func callsOfWide(w impl.Wide) []call {
	list := []call{
		{"WideOk", func() []any { return []any{impl.WideOk(w)} }},
		{"WideWhole", func() []any { return []any{impl.WideWhole(w)} }},
		{"WideBody", func() []any { a, code := impl.WideBody(w); return []any{a, code} }},
	}
	for _, at := range anyNumbers() {
		list = append(list, call{"CellOf", func() []any { a, b, code := impl.CellOf(w, at); return []any{a, b, code} }})
		for _, n := range anyNumbers() {
			list = append(list,
				call{"ReadWide", func() []any { a, code := impl.ReadWide(w, at, n); return []any{a, code} }},
				call{"ReadLost", func() []any { a, code := impl.ReadLost(w, []int64{0}, at, n); return []any{a, code} }},
				call{"TakeDelta", func() []any { a, code := impl.TakeDelta(w, impl.Delta{Pos: at, At: n}); return []any{a, code} }})
		}
		for _, bytes := range anyTexts() {
			list = append(list,
				call{"DeltasOf", func() []any { a, code := impl.DeltasOf(w, at, bytes); return []any{a, code} }},
				call{"WriteWide", func() []any { a, code := impl.WriteWide(w, at, bytes); return []any{a, code} }},
				call{"TakeDelta", func() []any { a, code := impl.TakeDelta(w, impl.Delta{At: at, Bytes: bytes}); return []any{a, code} }})
		}
	}
	for _, lost := range anyRows() {
		list = append(list, call{"ReadLost", func() []any { a, code := impl.ReadLost(w, lost, 0, 9); return []any{a, code} }})
	}
	return list
}

func callsOfTrees() []call {
	var list []call
	for _, x := range anyTrees() {
		list = append(list, callsOfTree(x)...)
	}
	for _, text := range append(anyTexts(), linesText, linesText+linesText, textOf(fullTree()), "node 1 1\nhost -1 1 1\n", strings.Repeat("root -1 -2\n", 2000)) {
		list = append(list, call{"ReadTree", func() []any { a, code := impl.ReadTree(text); return []any{a, code} }})
	}
	return list
}

func callsOfTree(x impl.Tree) []call {
	list := []call{
		{"TreeOk", func() []any { return []any{impl.TreeOk(x)} }},
		{"SameTree", func() []any { return []any{impl.SameTree(x, x)} }},
		{"SameTree", func() []any { return []any{impl.SameTree(x, sample()), impl.SameTree(sample(), x)} }},
		{"TreeText", func() []any { a, code := impl.TreeText(x); return []any{a, code} }},
	}
	for _, m := range append(anyNumbers(), -4, -12, 5) {
		list = append(list,
			call{"WeightOf", func() []any { a, code := impl.WeightOf(x, m); return []any{a, code} }},
			call{"NodesUnder", func() []any { a, code := impl.NodesUnder(x, m); return []any{a, code} }},
			call{"ChooseIn", func() []any { a, code := impl.ChooseIn(x, m, m, m); return []any{a, code} }})
		for _, n := range anyNumbers() {
			list = append(list,
				call{"AboveOf", func() []any { a, code := impl.AboveOf(x, m, n); return []any{a, code} }},
				call{"SetWeight", func() []any { a, code := impl.SetWeight(x, m, n); return []any{a, code} }},
				call{"Descend", func() []any { a, code := impl.Descend(x, m, n, m, n); return []any{a, code} }})
		}
	}
	return list
}

func callsOfStraws() []call {
	var list []call
	for _, straws := range anyItems() {
		list = append(list, callsOfItems(straws)...)
	}
	for _, m := range anyNumbers() {
		for _, n := range anyNumbers() {
			list = append(list,
				call{"TicketOf", func() []any { return []any{impl.TicketOf(m, n, n, m)} }},
				call{"BestTicket", func() []any { a, code := impl.BestTicket(impl.Item{Id: m, Weight: n}, n, m); return []any{a, code} }})
		}
	}
	return list
}

func callsOfItems(straws []impl.Item) []call {
	list := []call{{"ItemsOk", func() []any { return []any{impl.ItemsOk(straws)} }}}
	for _, m := range anyNumbers() {
		list = append(list,
			call{"ChooseOne", func() []any { a, code := impl.ChooseOne(straws, m, -m); return []any{a, code} }},
			call{"Draws", func() []any { a, code := impl.Draws(straws, 9, m); return []any{a, code} }})
	}
	return list
}

func callsOfRules() []call {
	var list []call
	for _, x := range anyTrees() {
		list = append(list, callsOfRulesIn(x)...)
	}
	for _, out := range anyOuts() {
		list = append(list, callsOfOut(out)...)
	}
	return list
}

func callsOfRulesIn(x impl.Tree) []call {
	var list []call
	for _, r := range anyRules() {
		list = append(list,
			call{"RuleOk", func() []any { return []any{impl.RuleOk(x, r)} }},
			call{"Place", func() []any { a, ok := impl.Place(x, r, 5, 4, []int64{1, 4}); return []any{a, ok} }},
			call{"PlaceWhole", func() []any { a, ok := impl.PlaceWhole(x, r, 5, 4); return []any{a, ok} }},
			call{"CanPlace", func() []any { a, ok := impl.CanPlace(x, r, []int64{0}); return []any{a, ok} }},
			call{"PlacePg", func() []any {
				a, code := impl.PlacePg(x, r, somePool(), impl.Pg{Pool: 2, No: 3}, []int64{4})
				return []any{a, code}
			}})
	}
	for _, m := range anyNumbers() {
		list = append(list,
			call{"Place", func() []any { a, ok := impl.Place(x, hostRule(false), m, 7, []int64{4}); return []any{a, ok} }},
			call{"Place", func() []any { a, ok := impl.Place(x, hostRule(true), 5, m, nil); return []any{a, ok} }},
			call{"PlaceWhole", func() []any { a, ok := impl.PlaceWhole(x, hostRule(true), m, m); return []any{a, ok} }},
			call{"Apart", func() []any { return []any{impl.Apart(x, m, []int64{-1, 0})} }},
			call{"Apart", func() []any { return []any{impl.Apart(x, impl.KdHost, []int64{m, -1})} }},
			call{"DomainOf", func() []any { a, code := impl.DomainOf(x, m, 4); return []any{a, code} }},
			call{"DomainOf", func() []any { a, code := impl.DomainOf(x, 1, m); return []any{a, code} }})
	}
	return list
}

// callsOfOut returns calls that take a list of devices.
func callsOfOut(out []int64) []call {
	var list []call
	for _, r := range anyRules() {
		list = append(list,
			call{"Place", func() []any { a, ok := impl.Place(sample(), r, 2, 3, out); return []any{a, ok} }},
			call{"CanPlace", func() []any { a, ok := impl.CanPlace(sample(), r, out); return []any{a, ok} }},
			call{"Apart", func() []any { return []any{impl.Apart(sample(), r.Kind, out)} }},
			call{"PlacePg", func() []any {
				a, code := impl.PlacePg(sample(), r, somePool(), impl.Pg{Pool: 2}, out)
				return []any{a, code}
			}},
			call{"Excepted", func() []any {
				a, code := impl.Excepted(sample(), r, out, impl.Pg{Pool: 2}, []impl.Except{except(0, 4, 0)})
				return []any{a, code}
			}})
	}
	return append(list, callsOfBalance(scene{sample(), hostRule(false), twoCopies(), []impl.Except{except(0, 2, 1)}, out})...)
}

func callsOfPools() []call {
	var list []call
	for _, p := range append(wrongPools(), rightPools()...) {
		list = append(list,
			call{"PoolOk", func() []any { return []any{impl.PoolOk(p)} }},
			call{"PgOf", func() []any { a, ok := impl.PgOf(p, "obj1"); return []any{a, ok} }},
			call{"PgsIn", func() []any { a, ok := impl.PgsIn(p); return []any{a, ok} }},
			call{"Split", func() []any { a, code := impl.Split(p); return []any{a, code} }},
			call{"PlacePg", func() []any {
				a, code := impl.PlacePg(sample(), hostRule(true), p, impl.Pg{Pool: p.Id}, nil)
				return []any{a, code}
			}})
	}
	for _, name := range append(anyTexts(), wrongNames()...) {
		list = append(list,
			call{"NameOk", func() []any { return []any{impl.NameOk(name)} }},
			call{"PgOf", func() []any { a, ok := impl.PgOf(somePool(), name); return []any{a, ok} }})
	}
	for _, m := range anyNumbers() {
		for _, n := range anyNumbers() {
			g := impl.Pg{Pool: m, No: n}
			list = append(list,
				call{"SeedOf", func() []any { return []any{impl.SeedOf(g)} }},
				call{"PlacePg", func() []any {
					a, code := impl.PlacePg(sample(), hostRule(false), somePool(), g, nil)
					return []any{a, code}
				}})
		}
	}
	return list
}

func callsOfBalances() []call {
	var list []call
	for _, x := range anyTrees() {
		list = append(list, callsOfBalancesIn(x)...)
	}
	for _, excepts := range anyExcepts() {
		list = append(list, callsOfExcepts(excepts)...)
	}
	for _, rows := range anyTables() {
		list = append(list, callsOfTable(rows)...)
	}
	for _, r := range anyRules() {
		list = append(list, callsOfBalance(scene{sample(), r, twoCopies(), nil, []int64{4}})...)
	}
	for i, p := range append(wrongPools(), rightPools()...) {
		if i%50 == 0 {
			list = append(list, callsOfBalance(scene{sample(), hostRule(true), p, nil, nil})...)
		}
	}
	for _, m := range anyNumbers() {
		list = append(list, call{"Balance", func() []any {
			a, code := impl.Balance(sample(), hostRule(true), twoCopies(), []impl.Except{except(1, 0, 4)}, nil, m)
			return []any{a, code}
		}})
		for _, n := range anyNumbers() {
			list = append(list, call{"Excepted", func() []any {
				a, code := impl.Excepted(sample(), hostRule(true), []int64{1, 2}, impl.Pg{Pool: m, No: n}, []impl.Except{except(1, 1, 4)})
				return []any{a, code}
			}})
		}
	}
	return list
}

// callsOfBalance returns calls that place and balance a pool.
func callsOfBalance(s scene) []call {
	return []call{
		{"PlaceAll", func() []any { a, code := impl.PlaceAll(s.x, s.r, s.p, s.list, s.out); return []any{a, code} }},
		{"BalanceStep", func() []any { a, code := impl.BalanceStep(s.x, s.r, s.p, s.list, s.out); return []any{a, code} }},
		{"Balance", func() []any { a, code := impl.Balance(s.x, s.r, s.p, s.list, s.out, 3); return []any{a, code} }},
	}
}

func callsOfBalancesIn(x impl.Tree) []call {
	list := callsOfBalance(scene{x, hostRule(true), twoCopies(), []impl.Except{except(0, 2, 1)}, nil})
	for _, rows := range rightTables() {
		list = append(list,
			call{"Loads", func() []any { a, code := impl.Loads(x, rows); return []any{a, code} }},
			call{"Spread", func() []any { a, code := impl.Spread(x, rows); return []any{a, code} }})
	}
	return append(list, call{"Excepted", func() []any {
		a, code := impl.Excepted(x, hostRule(true), []int64{1, 2}, impl.Pg{Pool: 2}, []impl.Except{except(0, 1, 4)})
		return []any{a, code}
	}})
}

func callsOfExcepts(excepts []impl.Except) []call {
	list := []call{{"ExceptsOk", func() []any { return []any{impl.ExceptsOk(excepts)} }}}
	for _, out := range [][]int64{nil, {4}, {4, 4}} {
		list = append(list, callsOfBalance(scene{sample(), hostRule(true), twoCopies(), excepts, out})...)
	}
	for _, places := range [][]int64{nil, {1, 2}, {4, -1, 0}, {0, 1}} {
		list = append(list, call{"Excepted", func() []any {
			a, code := impl.Excepted(sample(), hostRule(true), places, impl.Pg{Pool: 2}, excepts)
			return []any{a, code}
		}})
	}
	return list
}

func callsOfTable(rows [][]int64) []call {
	list := []call{
		{"Loads", func() []any { a, code := impl.Loads(sample(), rows); return []any{a, code} }},
		{"Spread", func() []any { a, code := impl.Spread(sample(), rows); return []any{a, code} }},
	}
	for _, other := range append(anyTables(), rows) {
		list = append(list,
			call{"Moves", func() []any { a, code := impl.Moves(rows, other); return []any{a, code} }},
			call{"Moves", func() []any { a, code := impl.Moves(other, rows); return []any{a, code} }})
	}
	return list
}

func callsOfMaps() []call {
	var list []call
	for _, m := range anyMaps() {
		list = append(list, callsOfMap(m)...)
	}
	for _, i := range append(wrongIncs(), incsFor(60)...) {
		list = append(list,
			call{"IncOk", func() []any { return []any{impl.IncOk(i)} }},
			call{"ShowInc", func() []any { return []any{impl.ShowInc(i)} }},
			call{"ApplyInc", func() []any { a, code := impl.ApplyInc(someMap(), i); return []any{a, code} }})
	}
	for _, text := range append(anyTexts(), "2 up 1", "60 term", "3 weight 4 5", "3 weight 4 9", "2 up", "2 term 0", strings.Repeat("2 up ", 2000)) {
		list = append(list, call{"ReadInc", func() []any { a, ok := impl.ReadInc(text); return []any{a, ok} }})
	}
	return list
}

func callsOfMap(m impl.Map) []call {
	list := []call{
		{"MapOk", func() []any { return []any{impl.MapOk(m)} }},
		{"SameMap", func() []any { return []any{impl.SameMap(m, someMap())} }},
		{"SameMap", func() []any { return []any{impl.SameMap(someMap(), m)} }},
		{"PgsOf", func() []any { return []any{impl.PgsOf(m)} }},
		{"ChainOk", func() []any { return []any{impl.ChainOk([]impl.Map{m})} }},
		{"ChainOk", func() []any { return []any{impl.ChainOk([]impl.Map{m, m})} }},
		{"ChainOk", func() []any { return []any{impl.ChainOk([]impl.Map{firstMap(), m})} }},
		{"PlayIncs", func() []any { a, code := impl.PlayIncs(m, nil); return []any{a, code} }},
	}
	for _, n := range anyNumbers() {
		list = append(list, call{"PoolIn", func() []any { a, ok := impl.PoolIn(m, n); return []any{a, ok} }})
	}
	for _, i := range anyIncs() {
		list = append(list,
			call{"ApplyInc", func() []any { a, code := impl.ApplyInc(m, i); return []any{a, code} }},
			call{"PlayIncs", func() []any { a, code := impl.PlayIncs(m, []impl.Inc{i, i}); return []any{a, code} }})
	}
	for _, other := range rightMaps() {
		list = append(list,
			call{"IncOf", func() []any { a, code := impl.IncOf(m, other); return []any{a, code} }},
			call{"IncOf", func() []any { a, code := impl.IncOf(other, m); return []any{a, code} }})
	}
	return list
}

func callsOfActings() []call {
	var list []call
	for _, acting := range anyActings() {
		list = append(list, callsOfActing(acting)...)
	}
	for _, m := range anyMaps() {
		list = append(list, callsOfActingIn(m)...)
	}
	return list
}

func callsOfActing(acting []int64) []call {
	list := []call{
		{"ActingOk", func() []any { return []any{impl.ActingOk(acting)} }},
		{"TakenOf", func() []any { return []any{impl.TakenOf(acting)} }},
		{"LeaderOf", func() []any { return []any{impl.LeaderOf(acting)} }},
		{"MembersOf", func() []any { return []any{impl.MembersOf(acting)} }},
	}
	for _, n := range anyNumbers() {
		list = append(list, call{"PlaceOf", func() []any { return []any{impl.PlaceOf(acting, n)} }})
	}
	for _, heard := range anyOuts() {
		list = append(list, call{"HeardOf", func() []any { return []any{impl.HeardOf(impl.Interval{Acting: acting}, heard)} }})
	}
	return list
}

func callsOfActingIn(m impl.Map) []call {
	var list []call
	for _, n := range anyNumbers() {
		list = append(list, call{"PgsAt", func() []any { return []any{impl.PgsAt(m, n)} }})
		for _, g := range []impl.Pg{{Pool: n}, {Pool: 1, No: n}, {Pool: n, No: n}} {
			list = append(list,
				call{"ActingOf", func() []any { a, ok := impl.ActingOf(m, g); return []any{a, ok} }},
				call{"MayServe", func() []any { return []any{impl.MayServe(m, g)} }})
		}
	}
	return list
}

func callsOfIntervals() []call {
	var list []call
	for _, ivs := range anyIntervals() {
		list = append(list, callsOfIntervalList(ivs)...)
	}
	for _, chain := range anyChains() {
		list = append(list, callsOfChain(chain)...)
	}
	for _, heard := range anyOuts() {
		list = append(list, callsOfHeard(heard)...)
	}
	return list
}

func callsOfIntervalList(ivs []impl.Interval) []call {
	list := []call{
		{"IntervalsOk", func() []any { return []any{impl.IntervalsOk(ivs)} }},
		{"AskOf", func() []any { return []any{impl.AskOf(ivs)} }},
	}
	for _, n := range anyNumbers() {
		list = append(list,
			call{"IntervalAt", func() []any { a, ok := impl.IntervalAt(ivs, n); return []any{a, ok} }},
			call{"AheadOf", func() []any { return []any{impl.AheadOf(ivs, n)} }},
			call{"NeedOf", func() []any { return []any{impl.NeedOf(ivs, n)} }},
			call{"HeardEnough", func() []any { return []any{impl.HeardEnough(ivs, n, 0, []int64{1, 2})} }},
			call{"HeardEnough", func() []any { return []any{impl.HeardEnough(ivs, 1, n, []int64{1, 2})} }})
	}
	for _, v := range ivs {
		list = append(list, call{"HeardOf", func() []any { return []any{impl.HeardOf(v, []int64{1, 2, 3})} }})
	}
	return list
}

func callsOfChain(chain []impl.Map) []call {
	var list []call
	for _, g := range []impl.Pg{{}, {Pool: 1}, {Pool: 3, No: 2}, {Pool: 1, No: math.MaxInt64}, {Pool: math.MinInt64}} {
		list = append(list, call{"IntervalsOf", func() []any { a, ok := impl.IntervalsOf(chain, g); return []any{a, ok} }})
	}
	return list
}

func callsOfHeard(heard []int64) []call {
	list := []call{{"HeardOf", func() []any { return []any{impl.HeardOf(interval(4, 6, true, 2, -1, 1), heard)} }}}
	for _, s := range []int64{-1, 0, 3, 5} {
		list = append(list, call{"HeardEnough", func() []any { return []any{impl.HeardEnough(sampleIntervals(), 1, s, heard)} }})
	}
	return list
}

func callsOfDisks() []call {
	var list []call
	for _, d := range anyDisks() {
		list = append(list, callsOfDisk(d)...)
	}
	for _, n := range anyNumbers() {
		list = append(list, call{"NewDisk", func() []any { a, code := impl.NewDisk(n); return []any{a, code} }})
	}
	for _, keep := range anyRows() {
		list = append(list, callsOfKeep(keep)...)
	}
	for _, writes := range anyWrites() {
		list = append(list, callsOfWrites(writes)...)
	}
	return list
}

func callsOfDisk(d impl.Disk) []call {
	list := []call{
		{"DiskOk", func() []any { return []any{impl.DiskOk(d)} }},
		{"FlushDisk", func() []any { return []any{impl.FlushDisk(d)} }},
		{"WriteAll", func() []any { a, code := impl.WriteAll(d, 0, nil); return []any{a, code} }},
		{"WriteAll", func() []any { a, code := impl.WriteAll(d, 0, fullOf('a', 'b')); return []any{a, code} }},
		{"PowerLoss", func() []any { a, code := impl.PowerLoss(d, nil, 5); return []any{a, code} }},
		{"PowerLoss", func() []any { a, code := impl.PowerLoss(d, []int64{0}, -1); return []any{a, code} }},
		{"PowerLoss", func() []any { a, code := impl.PowerLoss(d, []int64{0, 1}, 5); return []any{a, code} }},
		{"OpenJournal", func() []any { a, b, code := impl.OpenJournal(d); return []any{a, b, code} }},
	}
	for _, n := range anyNumbers() {
		list = append(list,
			call{"ReadSector", func() []any { a, code := impl.ReadSector(d, n); return []any{a, code} }},
			call{"WriteSector", func() []any { a, code := impl.WriteSector(d, n, full('a')); return []any{a, code} }},
			call{"WriteAll", func() []any { a, code := impl.WriteAll(d, n, fullOf('a', 'b')); return []any{a, code} }},
			call{"PowerLoss", func() []any { a, code := impl.PowerLoss(d, []int64{n}, n); return []any{a, code} }},
			call{"RotSector", func() []any { a, code := impl.RotSector(d, n, 63, 1); return []any{a, code} }},
			call{"RotSector", func() []any { a, code := impl.RotSector(d, 0, n, n); return []any{a, code} }})
	}
	return list
}

// callsOfKeep returns calls that take a list of writes to be kept.
func callsOfKeep(keep []int64) []call {
	var list []call
	for _, torn := range []int64{math.MinInt64, -1, 0, 5, 64, 65} {
		list = append(list, call{"PowerLoss", func() []any { a, code := impl.PowerLoss(sampleDisk(), keep, torn); return []any{a, code} }})
	}
	return list
}

// callsOfWrites returns calls that take a list of sectors to be written.
func callsOfWrites(writes []string) []call {
	var list []call
	for _, n := range anyNumbers() {
		list = append(list, call{"WriteAll", func() []any { a, code := impl.WriteAll(sampleDisk(), n, writes); return []any{a, code} }})
	}
	return list
}

func callsOfJournals() []call {
	var list []call
	for _, j := range anyJournals() {
		list = append(list, callsOfJournal(j)...)
	}
	for _, d := range someDisks() {
		list = append(list, call{"OpenJournal", func() []any { a, b, code := impl.OpenJournal(d); return []any{a, b, code} }})
	}
	for _, n := range anyNumbers() {
		list = append(list, call{"NewJournal", func() []any { a, code := impl.NewJournal(n); return []any{a, code} }})
	}
	for _, m := range anyNumbers() {
		for _, bytes := range anyTexts() {
			list = append(list, call{"PutCell", func() []any {
				return []any{impl.PutCell(part(m, 1, true, bytes)), impl.PutCell(part(1, m, false, bytes))}
			}})
		}
	}
	for _, sector := range append(anyTexts(), full(0), formatOf(part(1, 2, true, "abc")), rawCell(1, 2, 1, 255, 0, 0, "abc")) {
		list = append(list, call{"GetCell", func() []any { a, ok := impl.GetCell(sector); return []any{a, ok} }})
	}
	return list
}

func callsOfJournal(j impl.Journal) []call {
	list := []call{
		{"JournalOk", func() []any { return []any{impl.JournalOk(j)} }},
		{"OpenJournal", func() []any { a, b, code := impl.OpenJournal(j.Disk); return []any{a, b, code} }},
		{"StageJournal", func() []any { a, code := impl.StageJournal(j); return []any{a, code} }},
		{"SyncJournal", func() []any { a, code := impl.SyncJournal(j); return []any{a, code} }},
		{"OpenStore", func() []any { a, code := impl.OpenStore(j); return []any{a, code} }},
	}
	for _, frames := range anyFrames() {
		list = append(list, callsOfFrames(j, frames)...)
	}
	for _, s := range []impl.Store{{}, sampleStore(), impl.FlushStore(sampleStore()), wrongStores()[0]} {
		list = append(list, call{"SaveStore", func() []any { a, code := impl.SaveStore(j, s); return []any{a, code} }})
	}
	return list
}

// callsOfFrames returns calls that take a list of frames.
func callsOfFrames(j impl.Journal, frames []string) []call {
	return []call{
		{"AddFrames", func() []any { a, code := impl.AddFrames(j, frames); return []any{a, code} }},
		{"Compact", func() []any { a, code := impl.Compact(j, frames); return []any{a, code} }},
	}
}

func callsOfOps() []call {
	var list []call
	for _, c := range anyCodes() {
		for _, o := range anyOps() {
			list = append(list, call{"OpOk", func() []any { return []any{impl.OpOk(c, o)} }})
		}
	}
	for _, o := range anyOps() {
		list = append(list,
			call{"Reads", func() []any { return []any{impl.Reads(o)} }},
			call{"PutOp", func() []any { return []any{impl.PutOp(o)} }})
		for _, body := range anyTexts() {
			list = append(list, call{"ApplyOp", func() []any { a, ok := impl.ApplyOp(body, true, o); return []any{a, ok} }})
		}
	}
	for _, ops := range anyOpLists() {
		list = append(list, callsOfOpList(ops)...)
	}
	for _, s := range append(anyTexts(), "\x02\x00\x02ab", "\x03\x01\x00", "\x01\x00\x00") {
		list = append(list,
			call{"GetOp", func() []any { a, b, ok := impl.GetOp(s); return []any{a, b, ok} }},
			call{"GetPgState", func() []any { a, b, ok := impl.GetPgState(s); return []any{a, b, ok} }})
	}
	return list
}

func callsOfOpList(ops []impl.Op) []call {
	var list []call
	for _, body := range []string{"", "abc", strings.Repeat("a", 65)} {
		for _, there := range []bool{true, false} {
			list = append(list, call{"ApplyOps", func() []any { a, ok := impl.ApplyOps(body, there, ops); return []any{a, ok} }})
		}
	}
	return list
}

func callsOfLogs() []call {
	var list []call
	for _, s := range anyStates() {
		list = append(list, callsOfState(s)...)
	}
	for _, v := range anyVers() {
		list = append(list,
			call{"VerLess", func() []any { return []any{impl.VerLess(v, ver(2, 4))} }},
			call{"VerLess", func() []any { return []any{impl.VerLess(ver(2, 4), v)} }})
	}
	for _, e := range someEntries() {
		list = append(list, call{"EntryOk", func() []any { return []any{impl.EntryOk(e)} }})
	}
	for _, c := range manyChunks() {
		list = append(list,
			call{"ChunkOk", func() []any { return []any{impl.ChunkOk(c)} }},
			call{"SoundChunk", func() []any { return []any{impl.SoundChunk(c)} }})
	}
	for _, m := range anyNumbers() {
		for _, n := range anyNumbers() {
			list = append(list, call{"NewState", func() []any { return []any{impl.NewState(impl.Pg{Pool: m, No: n})} }})
		}
	}
	return list
}

func callsOfState(s impl.PgState) []call {
	list := []call{
		{"StateOk", func() []any { return []any{impl.StateOk(s)} }},
		{"LastOf", func() []any { return []any{impl.LastOf(s)} }},
		{"TrimLog", func() []any { return []any{impl.TrimLog(s)} }},
		{"NoticeOf", func() []any { return []any{impl.NoticeOf(s)} }},
		{"TakeLog", func() []any { return []any{impl.TakeLog(s, sampleState())} }},
		{"TakeLog", func() []any { return []any{impl.TakeLog(sampleState(), s)} }},
		{"TakeLog", func() []any { return []any{impl.TakeLog(s, s)} }},
		{"PutPgState", func() []any { return []any{impl.PutPgState(s)} }},
		{"GetPgState", func() []any { a, b, ok := impl.GetPgState(impl.PutPgState(s) + "!"); return []any{a, b, ok} }},
	}
	for _, v := range append(anyVers(), s.Tail, impl.LastOf(s)) {
		list = append(list,
			call{"HeadsAt", func() []any { a, code := impl.HeadsAt(s, v); return []any{a, code} }},
			call{"ClientsAt", func() []any { a, code := impl.ClientsAt(s, v); return []any{a, code} }},
			call{"CutLog", func() []any { a, code := impl.CutLog(s, v); return []any{a, code} }},
			call{"LacksAt", func() []any { a, code := impl.LacksAt(s, v, v.Epoch); return []any{a, code} }},
			call{"ChunkOf", func() []any { a, ok := impl.ChunkOf(s, "a", v, v.Seq); return []any{a, ok} }})
	}
	for _, n := range anyNumbers() {
		list = append(list,
			call{"DropChunks", func() []any { return []any{impl.DropChunks(s, n)} }},
			call{"ChunkOf", func() []any { a, ok := impl.ChunkOf(s, "a", ver(1, 2), n); return []any{a, ok} }})
	}
	for _, name := range []string{"", "a", "b", "longname", "longname9", "\xff"} {
		e := impl.Entry{Ver: ver(60, 1000), Prior: impl.LastOf(s), Name: name}
		list = append(list,
			call{"AddEntry", func() []any { a, code := impl.AddEntry(s, e); return []any{a, code} }},
			call{"PutChunk", func() []any { a, code := impl.PutChunk(s, chunk(name, ver(1, 2), 1, "new")); return []any{a, code} }},
			call{"PutChunk", func() []any { a, code := impl.PutChunk(s, chunk(name, ver(1, 2), 7, "new")); return []any{a, code} }})
	}
	return list
}

func callsOfStores() []call {
	var list []call
	for _, s := range anyStores() {
		list = append(list, callsOfStore(s)...)
	}
	for _, frames := range [][]string{{}, {formOfState(sampleState())}, formsOf(sampleStore().Live, nil), {formOfState(sampleState()), "junk"}} {
		j := journalOf(laid(60, 1, 0, partsOf(1, 1, frames...)...), "waits")
		list = append(list, call{"OpenStore", func() []any { a, code := impl.OpenStore(j); return []any{a, code} }})
	}
	return list
}

func callsOfStore(s impl.Store) []call {
	list := []call{
		{"StoreOk", func() []any { return []any{impl.StoreOk(s)} }},
		{"SameStore", func() []any { return []any{impl.SameStore(s, sampleStore())} }},
		{"SameStore", func() []any { return []any{impl.SameStore(sampleStore(), s)} }},
		{"SameStore", func() []any { return []any{impl.SameStore(s, s)} }},
		{"FlushStore", func() []any { return []any{impl.FlushStore(s)} }},
		{"CrashStore", func() []any { return []any{impl.CrashStore(s)} }},
	}
	for _, g := range anyPgs() {
		list = append(list, call{"StateIn", func() []any { return []any{impl.StateIn(s, g)} }})
	}
	for _, x := range slices.Concat(s.Live, s.Kept, []impl.PgState{sampleState(), fullState(), impl.NewState(pg(4, 3)), {}, {Pg: pg(5, 0)}, {Pg: pg(1, 0), Started: 1}}) {
		list = append(list,
			call{"StateIn", func() []any { return []any{impl.StateIn(s, x.Pg)} }},
			call{"PutIn", func() []any { a, code := impl.PutIn(s, x); return []any{a, code} }})
	}
	for _, n := range anyNumbers() {
		list = append(list, callsOfRot(s, ver(1, 2), 0, n, 1), callsOfRot(s, ver(1, 2), 0, 0, n), callsOfRot(s, ver(1, 2), n, 0, 1), callsOfRot(s, ver(n, n), 0, 0, 1))
	}
	for _, j := range []impl.Journal{{}, {Gen: 1}, journalOf(laid(8, 1, 0)), journalOf(laid(60, 2, 1, partsOf(2, 1, "a")...), "waits"), journalOf(laid(1200, 1, 0), slices.Repeat([]string{""}, 40)...)} {
		list = append(list, call{"SaveStore", func() []any { a, code := impl.SaveStore(j, s); return []any{a, code} }})
	}
	return list
}

// callsOfRot tells first whether a byte rotted, since the store beside false need
// not be zero.
func callsOfRot(s impl.Store, v impl.Ver, pos, at, by int64) call {
	return call{"RotIn", func() []any {
		a, ok := impl.RotIn(s, sampleState().Pg, "a", v, pos, at, by)
		return []any{ok, a}
	}}
}

func callsOfMsgs() []call {
	var list []call
	for _, m := range anyMsgs() {
		list = append(list, callsOfMsg(m)...)
	}
	for _, n := range anyNumbers() {
		list = append(list,
			call{"NodeOk", func() []any { return []any{impl.NodeOk(n)} }},
			call{"ClientOk", func() []any { return []any{impl.ClientOk(n)} }})
	}
	for _, s := range anyTexts() {
		list = append(list,
			call{"GetMsg", func() []any { a, code := impl.GetMsg(s); return []any{a, code} }},
			call{"GetMsg", func() []any { a, code := impl.GetMsg(framed(s)); return []any{a, code} }})
	}
	return list
}

func callsOfMsg(m impl.Msg) []call {
	return []call{
		{"MsgOk", func() []any { return []any{impl.MsgOk(m)} }},
		{"MsgSame", func() []any { return []any{impl.MsgSame(m, sampleMsgs()[2])} }},
		{"MsgSame", func() []any { return []any{impl.MsgSame(sampleMsgs()[2], m)} }},
		{"MsgSame", func() []any { return []any{impl.MsgSame(m, m)} }},
		{"PutMsg", func() []any { return []any{impl.PutMsg(m)} }},
		{"GetMsg", func() []any { a, code := impl.GetMsg(impl.PutMsg(m)); return []any{a, code} }},
		{"GetMsg", func() []any { a, code := impl.GetMsg(framed(bodyOfMsg(m))); return []any{a, code} }},
	}
}

func callsOfNets() []call {
	var list []call
	for _, n := range anyNets() {
		list = append(list, callsOfNet(n)...)
	}
	return list
}

// callsOfNet tells first whether something was done, since the net beside false
// need not be zero.
func callsOfNet(n impl.Net) []call {
	list := []call{
		{"NetOk", func() []any { return []any{impl.NetOk(n)} }},
		{"SendAll", func() []any { return []any{impl.SendAll(n, n.Flight)} }},
		{"SendAll", func() []any { return []any{impl.SendAll(impl.Net{}, n.Flight)} }},
		{"SendAll", func() []any { return []any{impl.SendAll(n, sampleMsgs())} }},
	}
	for _, k := range append(anyNumbers(), 4, 5, 199, 200) {
		list = append(list,
			call{"TakeAt", func() []any { a, m, ok := impl.TakeAt(n, k); return []any{ok, m, a} }},
			call{"DropAt", func() []any { a, ok := impl.DropAt(n, k); return []any{ok, a} }},
			call{"DoubleAt", func() []any { a, ok := impl.DoubleAt(n, k); return []any{ok, a} }},
			call{"CutNode", func() []any { a, ok := impl.CutNode(n, k); return []any{ok, a} }},
			call{"HealNode", func() []any { a, ok := impl.HealNode(n, k); return []any{ok, a} }})
	}
	for _, m := range append(sampleMsgs(), impl.Msg{}) {
		list = append(list, call{"Passes", func() []any { return []any{impl.Passes(n, m)} }})
	}
	return list
}

func callsOfMons() []call {
	var list []call
	for _, m := range anyMons() {
		list = append(list, callsOfMon(m)...)
	}
	for _, g := range anyMonMsgs() {
		list = append(list, call{"MonMsgOk", func() []any { return []any{impl.MonMsgOk(g)} }})
	}
	for _, id := range anyNumbers() {
		for _, many := range anyNumbers() {
			list = append(list, call{"NewMon", func() []any { m, code := impl.NewMon(id, many); return []any{m, code} }})
		}
	}
	for _, mons := range anyMonLists() {
		list = append(list, callsOfMonList(mons)...)
	}
	return list
}

func callsOfMon(m impl.Mon) []call {
	list := []call{
		{"MonOk", func() []any { return []any{impl.MonOk(m)} }},
		{"MonCrash", func() []any { return []any{impl.MonCrash(m)} }},
		{"Decided", func() []any { i, ok := impl.Decided(m); return []any{i, ok} }},
	}
	for _, g := range anyMonMsgs() {
		list = append(list, call{"MonHear", func() []any { a, sent, code := impl.MonHear(m, g); return []any{a, sent, code} }})
	}
	for _, i := range []impl.Inc{{}, upAt(7, 3), upAt(2, 3), upAt(61, 3), upAt(2, 16), {Epoch: 7, Kind: 7}, {Epoch: math.MinInt64, Kind: math.MaxInt64}} {
		for _, no := range []int64{math.MinInt64, -1, 0, 1, 2, 6, 999, 1000, math.MaxInt64} {
			list = append(list, call{"Propose", func() []any { a, sent, code := impl.Propose(m, i, no); return []any{a, sent, code} }})
		}
	}
	return list
}

func callsOfMonList(mons []impl.Mon) []call {
	var list []call
	for _, epoch := range append(anyNumbers(), 2, 3, 4, 5, 30, 60) {
		list = append(list, call{"Chosen", func() []any { incs, ok := impl.Chosen(mons, epoch); return []any{incs, ok} }})
	}
	return list
}

func allCalls() []call {
	return slices.Concat(callsOfBytes(), callsOfField(), callsOfMatrices(), callsOfShards(), callsOfStripes(), callsOfTrees(), callsOfStraws(), callsOfRules(), callsOfPools(), callsOfBalances(), callsOfMaps(), callsOfActings(), callsOfIntervals(), callsOfDisks(), callsOfJournals(), callsOfOps(), callsOfLogs(), callsOfStores(), callsOfMsgs(), callsOfNets(), callsOfMons())
}

// failed reports whether results end with an error code or with false. A
// function of one result has no such end.
func failed(results []any) bool {
	if len(results) < 2 {
		return false
	}
	switch last := results[len(results)-1].(type) {
	case int64:
		return last != impl.OK
	case bool:
		return !last
	}
	return false
}

// filled puts mark everywhere in list and in what lies behind it.
func filled[T any](list []T, mark T) {
	list = list[:cap(list)]
	for i := range list {
		list[i] = mark
	}
}

// emptied forgets a result, so that memory that is shared shows.
func emptied(result any) {
	switch x := result.(type) {
	case impl.Matrix:
		filled(x.Cells, 99)
	case impl.Wide:
		filled(x.Columns, "spoilt")
	case impl.Tree:
		for _, b := range x.Buckets {
			filled(b.Items, 99)
		}
		filled(x.Buckets, impl.Bucket{Id: 99})
		filled(x.Devices, impl.Device{Id: 99})
	case []int64:
		filled(x, 99)
	case []string:
		filled(x, "spoilt")
	case []impl.Delta:
		filled(x, impl.Delta{Pos: 99, At: 99, Bytes: "spoilt"})
	case []impl.Pg:
		filled(x, impl.Pg{Pool: 99, No: 99})
	case [][]int64:
		for _, row := range x {
			filled(row, 99)
		}
		filled(x, []int64{99})
	case []impl.Load:
		filled(x, impl.Load{Node: 99, Count: 99})
	case []impl.Except:
		filled(x, impl.Except{From: 99, To: 99})
	case impl.Map:
		emptied(x.Tree)
		filled(x.Rules, impl.Rule{Id: 99})
		filled(x.Pools, impl.Pool{Id: 99})
		filled(x.Up, 99)
		filled(x.Out, 99)
	case []impl.Map:
		for _, m := range x {
			emptied(m)
		}
		filled(x, impl.Map{Epoch: 99})
	case impl.Interval:
		filled(x.Acting, 99)
	case []impl.Interval:
		for _, v := range x {
			filled(v.Acting, 99)
		}
		filled(x, impl.Interval{First: 99})
	default:
		emptiedOfStores(result)
	}
}

// emptiedOfStores is emptied for the types of chapter 14 and later ones.
func emptiedOfStores(result any) {
	switch x := result.(type) {
	case impl.Disk:
		filled(x.Sectors, "spoilt")
		filled(x.Waits, write(99, "spoilt"))
	case impl.Journal:
		emptied(x.Disk)
		filled(x.Frames, "spoilt")
	case []impl.Op:
		filled(x, op(99, 99, "spoilt"))
	case []impl.Head:
		filled(x, head("spoilt", ver(99, 99), 99, 99))
	case []impl.Last:
		filled(x, last(99, 99, ver(99, 99)))
	case impl.PgState:
		emptied(x.Base)
		emptied(x.Clients)
		filled(x.Log, impl.Entry{Name: "spoilt"})
		filled(x.Chunks, impl.Chunk{Name: "spoilt"})
	case []impl.PgState:
		for _, s := range x {
			emptied(s)
		}
		filled(x, impl.PgState{Seen: 99})
	case impl.Store:
		emptied(x.Live)
		emptied(x.Kept)
	case impl.Msg:
		emptied(x.State)
	case []impl.Msg:
		for _, m := range x {
			emptied(m)
		}
		filled(x, impl.Msg{Kind: 99})
	case impl.Net:
		emptied(x.Flight)
		filled(x.Cut, 99)
	case []impl.Inc:
		filled(x, impl.Inc{Epoch: 99})
	case []impl.MonMsg:
		filled(x, impl.MonMsg{Kind: 99})
	case impl.Mon:
		filled(x.Slots, impl.Slot{Epoch: 99})
		filled(x.Try.Promises, 99)
		filled(x.Try.Accepts, 99)
	}
}

func deepCopy(results []any) []any {
	list := slices.Clone(results)
	for i, result := range list {
		list[i] = copiedResult(result)
	}
	return list
}

func copiedResult(result any) any {
	switch x := result.(type) {
	case impl.Matrix:
		x.Cells = slices.Clone(x.Cells)
		return x
	case impl.Wide:
		x.Columns = slices.Clone(x.Columns)
		return x
	case impl.Tree:
		return copied(x)
	case []int64:
		return slices.Clone(x)
	case []string:
		return slices.Clone(x)
	case []impl.Delta:
		return slices.Clone(x)
	case []impl.Pg:
		return slices.Clone(x)
	case [][]int64:
		return copiedRows(x)
	case []impl.Load:
		return slices.Clone(x)
	case []impl.Except:
		return slices.Clone(x)
	case impl.Map:
		return copiedMap(x)
	case []impl.Map:
		x = slices.Clone(x)
		for k, m := range x {
			x[k] = copiedMap(m)
		}
		return x
	case impl.Interval:
		x.Acting = slices.Clone(x.Acting)
		return x
	case []impl.Interval:
		return copiedIntervals(x)
	}
	return copiedStored(result)
}

// copiedStored is copiedResult for the types of chapter 14 and later ones.
func copiedStored(result any) any {
	switch x := result.(type) {
	case impl.Disk:
		return copiedDisk(x)
	case impl.Journal:
		return copiedJournal(x)
	case []impl.Head:
		return slices.Clone(x)
	case []impl.Last:
		return slices.Clone(x)
	case impl.PgState:
		return copiedState(x)
	case impl.Store:
		return copiedStore(x)
	case impl.Msg:
		return copiedMsg(x)
	case impl.Net:
		return copiedNet(x)
	case []impl.Inc:
		return slices.Clone(x)
	case []impl.MonMsg:
		return slices.Clone(x)
	case impl.Mon:
		return copiedMon(x)
	}
	return result
}

func copiedRows(rows [][]int64) [][]int64 {
	rows = slices.Clone(rows)
	for i, row := range rows {
		rows[i] = slices.Clone(row)
	}
	return rows
}

// P1: every function returns for every argument, with the same results each
// time, though the ones it gave out before were overwritten; what stands beside
// an error is zero.
func TestCallsReturnTheSame(t *testing.T) {
	for _, c := range allCalls() {
		first := c.run()
		kept := deepCopy(first)
		for _, result := range first {
			emptied(result)
		}
		if again := c.run(); !reflect.DeepEqual(again, kept) {
			t.Fatalf("%s: %v, then %v", c.name, kept, again)
		}
		if !failed(kept) {
			continue
		}
		for _, result := range kept[:len(kept)-1] {
			if !reflect.ValueOf(result).IsZero() {
				t.Fatalf("%s: %v beside an error", c.name, kept)
			}
		}
	}
}

// P1: calls at the same time have the results that they have one by one.
func TestCallsAtTheSameTime(t *testing.T) {
	calls := append(callsOfBytes(), callsOfMons()...)
	results := make([][][]any, 8)
	var group sync.WaitGroup
	for i := range results {
		group.Go(func() {
			for _, c := range calls {
				results[i] = append(results[i], c.run())
			}
		})
	}
	group.Wait()
	for i, c := range calls {
		for _, list := range results {
			wantSame(t, c.name, list[i], c.run())
		}
	}
}

// P1: words and rows stay as they are, and so does what lies behind them.
func TestListsStayAsTheyAre(t *testing.T) {
	for _, rows := range anyRows() {
		list := spare(rows, 7)
		before := whole(list)
		impl.Mix(list)
		for _, m := range anyMatrices() {
			result, _ := impl.MatRows(m, list)
			emptied(result)
		}
		wantSame(t, "the list", whole(list), before)
	}
	for _, pieces := range anyPieces() {
		list := spare(pieces, "behind")
		before := whole(list)
		for _, m := range anyMatrices() {
			result, _ := impl.MatPieces(m, list)
			emptied(result)
		}
		wantSame(t, "the pieces", whole(list), before)
	}
}

// P1: matrices stay as they are, also when a result is overwritten.
func TestMatricesStayAsTheyAre(t *testing.T) {
	for _, m := range anyMatrices() {
		m.Cells = spare(m.Cells, 7)
		before := whole(m.Cells)
		impl.MatrixOk(m)
		impl.SameMatrix(m, m)
		results := []impl.Matrix{}
		take := func(result impl.Matrix, _ int64) { results = append(results, result) }
		take(impl.MatMul(m, m))
		take(impl.MatInv(m))
		for n := int64(1); n <= 8; n++ {
			take(impl.MatMul(m, unit(n)))
			take(impl.MatMul(unit(n), m))
		}
		for _, rows := range anyRows() {
			take(impl.MatRows(m, rows))
		}
		for _, pieces := range anyPieces() {
			impl.MatPieces(m, pieces)
		}
		for _, result := range results {
			emptied(result)
		}
		wantSame(t, "the cells", whole(m.Cells), before)
	}
}

// P1: no two results share memory.
func TestResultsAreTheirOwn(t *testing.T) {
	for n := int64(1); n <= 8; n++ {
		a, _ := impl.MatUnit(n)
		b, _ := impl.MatUnit(n)
		c, _ := impl.MatInv(b)
		d, _ := impl.CodeMatrix(n, 0)
		e, _ := impl.CodeMatrix(n, 0)
		all := []impl.Matrix{a, b, c, d, e}
		for i, m := range all {
			emptied(m)
			for _, other := range all[i+1:] {
				wantMatrix(t, "another result", other, impl.OK, unit(n), impl.OK)
			}
		}
	}
}

// P1: shards stay as they are, and so does what lies behind them.
func TestHavesStayAsTheyAre(t *testing.T) {
	for _, shards := range anyHaves() {
		have := spare(shards, impl.Shard{Pos: 1, Bytes: "behind"})
		before := whole(have)
		for _, c := range anyCodes() {
			for _, called := range callsOfHave(c, have) {
				for _, result := range called.run() {
					emptied(result)
				}
			}
		}
		wantSame(t, "the shards", whole(have), before)
	}
}

// P1: columns and lists of lost ones stay as they are, also when the results
// are overwritten.
func TestColumnsStayAsTheyAre(t *testing.T) {
	for _, w := range anyWides() {
		w.Columns = spare(w.Columns, "behind")
		before := whole(w.Columns)
		for _, called := range callsOfWide(w) {
			for _, result := range called.run() {
				emptied(result)
			}
		}
		wantSame(t, "the columns", whole(w.Columns), before)
	}
	w := wideOf(helloCode, 2, hello)
	for _, lost := range append(anyRows(), []int64{0, 4}, []int64{1, 2}) {
		list := spare(lost, 7)
		before := whole(list)
		impl.ReadLost(w, list, 0, 11)
		wantSame(t, "the lost columns", whole(list), before)
	}
}

// P1: what is written has columns of its own, also if nothing was written, and
// does not change with what it was made of.
func TestWrittenObjectsAreTheirOwn(t *testing.T) {
	for _, bytes := range []string{"", "B"} {
		w := example()
		next, _ := impl.WriteWide(w, 1, bytes)
		other, _ := impl.TakeDelta(w, impl.Delta{Pos: 2})
		emptied(w)
		wantWide(t, "WriteWide", next, impl.OK, wideOf(w.Code, 2, "a"+bytes+"bcdefghi"[len(bytes):]), impl.OK)
		wantWide(t, "TakeDelta", other, impl.OK, example(), impl.OK)
	}
}

// P1: topologies stay as they are, and so does what lies behind their lists,
// also when the results are overwritten.
func TestTreesStayAsTheyAre(t *testing.T) {
	for _, x := range anyTrees() {
		x.Devices = spare(x.Devices, impl.Device{Id: 7})
		x.Buckets = spare(x.Buckets, impl.Bucket{Id: 7})
		for i, b := range x.Buckets {
			x.Buckets[i].Items = spare(b.Items, 7)
		}
		before := wholeTree(x)
		for _, called := range slices.Concat(callsOfTree(x), callsOfRulesIn(x), callsOfBalancesIn(x)) {
			for _, result := range called.run() {
				emptied(result)
			}
		}
		wantSame(t, "the topology", wholeTree(x), before)
	}
}

// wholeTree returns a copy of x and of the unused capacity of its lists.
func wholeTree(x impl.Tree) impl.Tree {
	x.Devices, x.Buckets = whole(x.Devices), whole(x.Buckets)
	for i, b := range x.Buckets {
		x.Buckets[i].Items = whole(b.Items)
	}
	return x
}

// P1: items stay as they are, and so does what lies behind them.
func TestItemsStayAsTheyAre(t *testing.T) {
	for _, straws := range anyItems() {
		list := spare(straws, impl.Item{Id: 2, Weight: 1})
		before := whole(list)
		for _, called := range callsOfItems(list) {
			for _, result := range called.run() {
				emptied(result)
			}
		}
		wantSame(t, "the items", whole(list), before)
	}
}

// P1: lists of devices stay as they are, and so does what lies behind them.
func TestOutsStayAsTheyAre(t *testing.T) {
	for _, out := range anyOuts() {
		list := spare(out, 3)
		before := whole(list)
		for _, called := range callsOfOut(list) {
			for _, result := range called.run() {
				emptied(result)
			}
		}
		wantSame(t, "the devices", whole(list), before)
	}
}

// P1: placements do not share memory, nor do lists of placement groups.
func TestPlacementsAreTheirOwn(t *testing.T) {
	for _, indep := range []bool{true, false} {
		for seed := range int64(20) {
			first, _ := impl.Place(sample(), hostRule(indep), seed, 4, nil)
			want := slices.Clone(first)
			second, ok := impl.Place(sample(), hostRule(indep), seed, 4, nil)
			emptied(first)
			wantPlaces(t, "another placement", second, ok, want, true)
		}
	}
	first, _ := impl.PgsIn(somePool())
	want := slices.Clone(first)
	second, _ := impl.PgsIn(somePool())
	emptied(first)
	wantSame(t, "another list", second, want)
}

// P1: no two lists of a topology share memory.
func TestListsOfTreesAreTheirOwn(t *testing.T) {
	for _, x := range rightTrees() {
		for i := range x.Buckets {
			read, _ := impl.ReadTree(textOf(x))
			wantOthers(t, "ReadTree", read, x, i)
			for _, d := range x.Devices {
				changed, _ := impl.SetWeight(x, d.Id, d.Weight)
				wantOthers(t, "SetWeight", changed, x, i)
			}
		}
	}
}

// wantOthers overwrites the items of one bucket of got, and wants all others
// to be those of want.
func wantOthers(t *testing.T, name string, got, want impl.Tree, at int) {
	t.Helper()
	filled(got.Buckets[at].Items, 99)
	got.Buckets[at].Items = want.Buckets[at].Items
	wantTree(t, name, got, impl.OK, want, impl.OK)
}

// P1: exceptions stay as they are, and so does what lies behind them, also when
// the results are overwritten.
func TestExceptsStayAsTheyAre(t *testing.T) {
	for _, excepts := range anyExcepts() {
		list := spare(excepts, except(15, 9, 8))
		before := whole(list)
		for _, called := range callsOfExcepts(list) {
			for _, result := range called.run() {
				emptied(result)
			}
		}
		wantSame(t, "the exceptions", whole(list), before)
	}
}

// P1: tables stay as they are, and so does what lies behind them and their rows.
func TestTablesStayAsTheyAre(t *testing.T) {
	for _, rows := range anyTables() {
		table := spare(copiedRows(rows), []int64{7})
		for i, row := range table {
			table[i] = spare(row, 7)
		}
		before := wholeRows(table)
		for _, called := range callsOfTable(table) {
			for _, result := range called.run() {
				emptied(result)
			}
		}
		wantSame(t, "the table", wholeRows(table), before)
	}
}

// wholeRows returns a copy of rows and of all unused capacity.
func wholeRows(rows [][]int64) [][]int64 {
	rows = whole(rows)
	for i, row := range rows {
		rows[i] = whole(row)
	}
	return rows
}

// P1: maps stay as they are, and so does what lies behind their lists, also when
// the results are overwritten.
func TestMapsStayAsTheyAre(t *testing.T) {
	for _, m := range anyMaps() {
		m = spareMap(m)
		before := wholeMap(m)
		for _, called := range slices.Concat(callsOfMap(m), callsOfActingIn(m)) {
			for _, result := range called.run() {
				emptied(result)
			}
		}
		wantSame(t, "the map", wholeMap(m), before)
	}
}

// spareMap returns m with unused capacity in all its lists.
func spareMap(m impl.Map) impl.Map {
	m.Tree.Devices = spare(m.Tree.Devices, impl.Device{Id: 7})
	m.Tree.Buckets = spare(m.Tree.Buckets, impl.Bucket{Id: 7})
	for i, b := range m.Tree.Buckets {
		m.Tree.Buckets[i].Items = spare(b.Items, 7)
	}
	m.Rules, m.Pools = spare(m.Rules, impl.Rule{Id: 7}), spare(m.Pools, impl.Pool{Id: 7})
	m.Up, m.Out = spare(m.Up, 7), spare(m.Out, 7)
	return m
}

// wholeMap returns a copy of m and of the unused capacity of its lists.
func wholeMap(m impl.Map) impl.Map {
	m.Tree, m.Rules, m.Pools = wholeTree(m.Tree), whole(m.Rules), whole(m.Pools)
	m.Up, m.Out = whole(m.Up), whole(m.Out)
	return m
}

// P1: increments and chains stay as they are, and so does what lies behind them.
func TestIncsAndChainsStayAsTheyAre(t *testing.T) {
	steps := someWalk(source(12), firstMap())
	list := spare(steps, impl.Inc{Epoch: 2, Kind: impl.IcTerm})
	before := whole(list)
	chain, _ := impl.PlayIncs(firstMap(), list)
	maps := spare(chain, impl.Map{Epoch: 61})
	for i, m := range maps {
		maps[i] = spareMap(m)
	}
	kept := make([]impl.Map, len(maps))
	for i, m := range maps {
		kept[i] = wholeMap(m)
	}
	impl.ChainOk(maps)
	for i, m := range maps {
		wantSame(t, "a map of the chain", wholeMap(m), kept[i])
	}
	wantSame(t, "what lies behind the chain", maps[:cap(maps)][len(maps)], impl.Map{Epoch: 61})
	wantSame(t, "the increments", whole(list), before)
}

// P1: neither the rows of a table nor the maps of a chain share memory, with
// each other or with what they were made of.
func TestRowsAndMapsAreTheirOwn(t *testing.T) {
	rows, _ := impl.PlaceAll(sample(), hostRule(true), twoCopies(), nil, nil)
	for i, row := range rows {
		filled(row, 99)
		rows[i] = []int64{0, 0}
		for k, other := range rows[i+1:] {
			wantNumbers(t, "another row", other, impl.OK, [][]int64{{2, 4}, {2, 0}, {4, 1}, {0, 3}}[i+1+k], impl.OK)
		}
	}
	steps := someWalk(source(13), firstMap())
	want := walked(firstMap(), steps)
	first := firstMap()
	chain, _ := impl.PlayIncs(first, steps)
	emptied(first)
	for i, m := range chain {
		emptied(m)
		for k, other := range chain[i+1:] {
			wantMap(t, "another map", other, impl.OK, want[i+1+k], impl.OK)
		}
	}
	for _, i := range incsFor(2) {
		if want, code := applied(firstMap(), i); code == impl.OK {
			before := firstMap()
			next, code := impl.ApplyInc(before, i)
			emptied(before)
			wantMap(t, "ApplyInc", next, code, want, impl.OK)
		}
	}
}

// P1: acting sets stay as they are, and so does what lies behind them, also when
// the results are overwritten.
func TestActingsStayAsTheyAre(t *testing.T) {
	for _, acting := range anyActings() {
		list := spare(acting, 3)
		before := whole(list)
		for _, called := range callsOfActing(list) {
			for _, result := range called.run() {
				emptied(result)
			}
		}
		wantSame(t, "the acting set", whole(list), before)
	}
}

// P1: intervals and heard nodes stay as they are, and so does what lies behind
// them, also when the results are overwritten.
func TestIntervalsStayAsTheyAre(t *testing.T) {
	for _, ivs := range anyIntervals() {
		list := spare(copiedIntervals(ivs), interval(9, 9, true, 9))
		for i, v := range ivs {
			list[i].Acting = spare(v.Acting, 3)
		}
		before := wholeIntervals(list)
		for _, called := range callsOfIntervalList(list) {
			for _, result := range called.run() {
				emptied(result)
			}
		}
		wantSame(t, "the intervals", wholeIntervals(list), before)
	}
	for _, heard := range anyOuts() {
		list := spare(heard, 3)
		before := whole(list)
		for _, called := range callsOfHeard(list) {
			for _, result := range called.run() {
				emptied(result)
			}
		}
		wantSame(t, "the heard nodes", whole(list), before)
	}
}

// wholeIntervals returns a copy of ivs and of all unused capacity.
func wholeIntervals(ivs []impl.Interval) []impl.Interval {
	ivs = whole(ivs)
	for i, v := range ivs {
		ivs[i].Acting = whole(v.Acting)
	}
	return ivs
}

// P1: chains stay as they are when intervals are made of them, and so does what
// lies behind their lists.
func TestChainsStayAsTheyAre(t *testing.T) {
	for _, chain := range anyChains() {
		maps := spare(chain, impl.Map{Epoch: 61})
		for i, m := range maps {
			maps[i] = spareMap(m)
		}
		before := wholeMaps(maps)
		for _, called := range callsOfChain(maps) {
			for _, result := range called.run() {
				emptied(result)
			}
		}
		wantSame(t, "the chain", wholeMaps(maps), before)
	}
}

// wholeMaps returns a copy of a chain and of all unused capacity.
func wholeMaps(chain []impl.Map) []impl.Map {
	chain = whole(chain)
	for i, m := range chain {
		chain[i] = wholeMap(m)
	}
	return chain
}

// P1: no two intervals share memory, with each other or with what they were made
// of.
func TestIntervalsAreTheirOwn(t *testing.T) {
	chain := busyWalk(source(136), oneNode(), 30)
	made, _ := impl.IntervalsOf(chain, impl.Pg{Pool: 1})
	same := []impl.Interval{interval(1, 2, true, 4, 5), interval(3, 3, true, 4, 5), interval(4, 9, true, 4, 5)}
	for _, list := range [][]impl.Interval{made, impl.AheadOf(same, 9), impl.NeedOf(same, 1)} {
		if len(list) < 3 {
			t.Fatalf("only %d intervals", len(list))
		}
		want := copiedIntervals(list)
		for i, v := range list {
			emptied(v)
			wantIntervals(t, "the others", list[i+1:], true, want[i+1:], true)
		}
	}
	at, _ := impl.IntervalAt(same, 3)
	for _, v := range same {
		emptied(v)
	}
	wantInterval(t, "IntervalAt", at, true, interval(3, 3, true, 4, 5), true)
	acting := []int64{2, -1, 1}
	members := impl.MembersOf(acting)
	emptied(acting)
	wantNumbers(t, "MembersOf", members, 0, []int64{1, 2}, 0)
}

// spareDisk returns d with unused capacity in its lists.
func spareDisk(d impl.Disk) impl.Disk {
	return impl.Disk{Sectors: spare(d.Sectors, "behind"), Waits: spare(d.Waits, write(0, "behind"))}
}

// wholeDisk returns a copy of d and of the unused capacity of its lists.
func wholeDisk(d impl.Disk) impl.Disk {
	return impl.Disk{Sectors: whole(d.Sectors), Waits: whole(d.Waits)}
}

// P1: disks stay as they are, and so does what lies behind their lists, also when
// the results are overwritten.
func TestDisksStayAsTheyAre(t *testing.T) {
	for _, d := range slices.Concat(anyDisks(), someDisks()) {
		d = spareDisk(d)
		before := wholeDisk(d)
		for _, called := range callsOfDisk(d) {
			for _, result := range called.run() {
				emptied(result)
			}
		}
		wantSame(t, "the disk", wholeDisk(d), before)
	}
	for _, keep := range append(anyRows(), []int64{0, 2}, []int64{0, 1, 2}) {
		list := spare(keep, 1)
		before := whole(list)
		for _, called := range callsOfKeep(list) {
			for _, result := range called.run() {
				emptied(result)
			}
		}
		wantSame(t, "the writes that are kept", whole(list), before)
	}
	for _, writes := range anyWrites() {
		list := spare(writes, "behind")
		before := whole(list)
		for _, called := range callsOfWrites(list) {
			for _, result := range called.run() {
				emptied(result)
			}
		}
		wantSame(t, "what is written", whole(list), before)
	}
}

// P1: journals and frames stay as they are, and so does what lies behind their
// lists, also when the results are overwritten.
func TestJournalsStayAsTheyAre(t *testing.T) {
	for _, j := range anyJournals() {
		j.Disk, j.Frames = spareDisk(j.Disk), spare(j.Frames, "behind")
		disk, frames := wholeDisk(j.Disk), whole(j.Frames)
		for _, called := range callsOfJournal(j) {
			for _, result := range called.run() {
				emptied(result)
			}
		}
		wantSame(t, "the disk", wholeDisk(j.Disk), disk)
		wantSame(t, "the frames that wait", whole(j.Frames), frames)
	}
	for _, frames := range anyFrames() {
		list := spare(frames, "behind")
		before := whole(list)
		for _, j := range someJournals()[:20] {
			for _, called := range callsOfFrames(j, list) {
				for _, result := range called.run() {
					emptied(result)
				}
			}
		}
		wantSame(t, "the frames", whole(list), before)
	}
}

// P1: disks and journals do not share memory with what they were made of, nor
// with each other.
func TestDisksAndJournalsAreTheirOwn(t *testing.T) {
	d, list := sampleDisk(), fullOf('p', 'q')
	flushed := impl.FlushDisk(d)
	written, _ := impl.WriteAll(d, 1, list)
	unwritten, _ := impl.WriteAll(d, 1, nil)
	lost, _ := impl.PowerLoss(d, nil, -1)
	rotten, _ := impl.RotSector(d, 0, 0, 1)
	emptied(d)
	emptied(list)
	want, _ := bufferedIn(sampleDisk(), 1, fullOf('p', 'q')...)
	wantDisk(t, "WriteAll", written, impl.OK, want, impl.OK)
	wantDisk(t, "WriteAll of nothing", unwritten, impl.OK, sampleDisk(), impl.OK)
	wantDisk(t, "FlushDisk", flushed, impl.OK, flushedFrom(sampleDisk()), impl.OK)
	wantDisk(t, "PowerLoss", lost, impl.OK, disk(sampleDisk().Sectors), impl.OK)
	want, _ = rottenFrom(sampleDisk(), 0, 0, 1)
	wantDisk(t, "RotSector", rotten, impl.OK, want, impl.OK)

	made := laid(16, 1, 0, slices.Concat(partsOf(1, 1, "hello", ""), partsOf(1, 3, full('a')))...)
	opened, frames, _ := impl.OpenJournal(made)
	more := []string{"more"}
	longer, _ := impl.AddFrames(opened, more)
	synced, _ := impl.SyncJournal(longer)
	unsynced, _ := impl.SyncJournal(opened)
	staged, _ := impl.StageJournal(opened)
	kept := copiedJournal(opened)
	for _, x := range []any{made, frames, opened, more} {
		emptied(x)
	}
	wantJournal(t, "SyncJournal of nothing", unsynced, impl.OK, kept, impl.OK)
	wantDisk(t, "StageJournal of nothing", staged, impl.OK, kept.Disk, impl.OK)
	kept.Frames = []string{"more"}
	wantJournal(t, "AddFrames", longer, impl.OK, kept, impl.OK)
	emptied(longer)
	after, _ := syncedFrom(kept)
	wantJournal(t, "SyncJournal", synced, impl.OK, after, impl.OK)
}

// P1: lists of operations stay as they are, and so does what lies behind them.
func TestOpsStayAsTheyAre(t *testing.T) {
	for _, ops := range anyOpLists() {
		list := spare(ops, op(impl.OpDelete, 0, ""))
		before := whole(list)
		for _, called := range callsOfOpList(list) {
			called.run()
		}
		wantSame(t, "the operations", whole(list), before)
	}
}

// spareState returns s with unused capacity in all its lists.
func spareState(s impl.PgState) impl.PgState {
	s.Base, s.Clients = spare(s.Base, head("behind", ver(7, 7), 7, 7)), spare(s.Clients, last(107, 7, ver(7, 7)))
	s.Log, s.Chunks = spare(s.Log, impl.Entry{Name: "behind"}), spare(s.Chunks, impl.Chunk{Name: "behind"})
	return s
}

// wholeState returns a copy of s and of the unused capacity of its lists.
func wholeState(s impl.PgState) impl.PgState {
	s.Base, s.Clients, s.Log, s.Chunks = whole(s.Base), whole(s.Clients), whole(s.Log), whole(s.Chunks)
	return s
}

// P1: states stay as they are, and so does what lies behind their lists, also
// when the results are overwritten.
func TestStatesStayAsTheyAre(t *testing.T) {
	for _, s := range anyStates() {
		s = spareState(s)
		before := wholeState(s)
		for _, called := range callsOfState(s) {
			for _, result := range called.run() {
				emptied(result)
			}
		}
		wantSame(t, "the state", wholeState(s), before)
	}
}

// P1: a state does not share memory with what it was made of.
func TestStatesAreTheirOwn(t *testing.T) {
	e := impl.Entry{Ver: ver(5, 1), Prior: ver(4, 3), Name: "a"}
	for _, x := range []struct {
		name string
		make func(s impl.PgState) impl.PgState
	}{
		{"CutLog", func(s impl.PgState) impl.PgState { cut, _ := impl.CutLog(s, ver(4, 1)); return cut }},
		{"CutLog of nothing", func(s impl.PgState) impl.PgState { cut, _ := impl.CutLog(s, ver(4, 3)); return cut }},
		{"AddEntry", func(s impl.PgState) impl.PgState { added, _ := impl.AddEntry(s, e); return added }},
		{"TrimLog", impl.TrimLog},
		{"PutChunk", func(s impl.PgState) impl.PgState {
			put, _ := impl.PutChunk(s, chunk("e", ver(1, 1), 0, ""))
			return put
		}},
		{"PutChunk again", func(s impl.PgState) impl.PgState { put, _ := impl.PutChunk(s, s.Chunks[1]); return put }},
		{"DropChunks", func(s impl.PgState) impl.PgState { return impl.DropChunks(s, 0) }},
		{"NoticeOf", impl.NoticeOf},
		{"TakeLog", func(s impl.PgState) impl.PgState { return impl.TakeLog(s, sampleState()) }},
		{"TakeLog of it", func(s impl.PgState) impl.PgState { return impl.TakeLog(sampleState(), s) }},
		{"TakeLog of its own", func(s impl.PgState) impl.PgState { return impl.TakeLog(s, s) }},
	} {
		s := spareState(sampleState())
		want := copiedState(x.make(s))
		got := x.make(s)
		emptied(s)
		wantState(t, x.name, got, 0, want, 0)
		emptied(got)
		wantState(t, x.name+" of another", x.make(sampleState()), 0, want, 0)
	}
	s := sampleState()
	heads, _ := impl.HeadsAt(s, s.Tail)
	lasts, _ := impl.ClientsAt(s, s.Tail)
	lacks, _ := impl.LacksAt(s, s.Tail, 9)
	emptied(s)
	wantList(t, "HeadsAt", heads, 0, sampleState().Base, 0)
	wantList(t, "ClientsAt", lasts, 0, sampleState().Clients, 0)
	wantList(t, "LacksAt", lacks, 0, sampleState().Base, 0)
	emptied(heads)
	wantList(t, "LacksAt beside HeadsAt", lacks, 0, sampleState().Base, 0)
}

// spareStates returns states with unused capacity in all their lists, and behind
// them.
func spareStates(list []impl.PgState) []impl.PgState {
	list = spare(list, impl.PgState{Seen: 7})
	for i, x := range list {
		list[i] = spareState(x)
	}
	return list
}

// wholeStates returns a copy of states and of all unused capacity.
func wholeStates(list []impl.PgState) []impl.PgState {
	list = whole(list)
	for i, x := range list {
		list[i] = wholeState(x)
	}
	return list
}

// P1: stores and journals stay as they are, and so does what lies behind their
// lists, also when the results are overwritten.
func TestStoresStayAsTheyAre(t *testing.T) {
	for _, s := range anyStores() {
		s = impl.Store{Live: spareStates(s.Live), Kept: spareStates(s.Kept)}
		live, kept := wholeStates(s.Live), wholeStates(s.Kept)
		for _, called := range callsOfStore(s) {
			for _, result := range called.run() {
				emptied(result)
			}
		}
		wantSame(t, "the live states", wholeStates(s.Live), live)
		wantSame(t, "the kept states", wholeStates(s.Kept), kept)
	}
	for _, x := range rightStates()[:30] {
		x = spareState(x)
		before := wholeState(x)
		for _, s := range []impl.Store{{}, sampleStore(), {Live: []impl.PgState{{Pg: x.Pg}}}} {
			put, _ := impl.PutIn(s, x)
			emptied(put)
		}
		wantSame(t, "the state that was put", wholeState(x), before)
	}
}

// P1: no store shares memory with what it was made of, nor its live states with
// those that are kept.
func TestStoresAreTheirOwn(t *testing.T) {
	place := sampleState().Pg
	added := smallState(source(200), pg(2, 4))
	for _, x := range []struct {
		name string
		make func(s impl.Store, x impl.PgState) impl.Store
	}{
		{"FlushStore", func(s impl.Store, _ impl.PgState) impl.Store { return impl.FlushStore(s) }},
		{"CrashStore", func(s impl.Store, _ impl.PgState) impl.Store { return impl.CrashStore(s) }},
		{"PutIn", func(s impl.Store, x impl.PgState) impl.Store { put, _ := impl.PutIn(s, x); return put }},
		{"PutIn again", func(s impl.Store, _ impl.PgState) impl.Store { put, _ := impl.PutIn(s, s.Live[1]); return put }},
		{"PutIn of what is kept", func(s impl.Store, _ impl.PgState) impl.Store { put, _ := impl.PutIn(s, s.Kept[2]); return put }},
		{"RotIn", func(s impl.Store, _ impl.PgState) impl.Store {
			rotten, _ := impl.RotIn(s, place, "a", ver(1, 2), 0, 0, 1)
			return rotten
		}},
		{"RotIn of nothing", func(s impl.Store, _ impl.PgState) impl.Store {
			same, _ := impl.RotIn(s, place, "a", ver(1, 2), 0, 0, 0)
			return same
		}},
	} {
		want := copiedStore(x.make(sampleStore(), copiedState(added)))
		s, put := sampleStore(), spareState(added)
		s.Live, s.Kept = spareStates(s.Live), spareStates(s.Kept)
		got := x.make(s, put)
		emptied(s)
		emptied(put)
		wantStore(t, x.name, got, 0, want, 0)
		wantSame(t, x.name+" has states of its own", isEachItsOwn(got, want), true)
	}
	s := sampleStore()
	x := impl.StateIn(s, place)
	emptied(s)
	wantState(t, "StateIn", x, 0, sampleState(), 0)
	opened, _ := impl.OpenStore(journalOf(laid(60, 1, 0, partsOf(1, 1, formsOf(sampleStore().Live, nil)...)...)))
	wantSame(t, "OpenStore has states of its own", isEachItsOwn(opened, impl.FlushStore(sampleStore())), true)
}

// isEachItsOwn forgets the states of a store one by one, and reports whether the
// others stay what they should be.
func isEachItsOwn(s, want impl.Store) bool {
	for i, x := range s.Live {
		emptied(x)
		s.Live[i], want.Live[i] = impl.PgState{}, impl.PgState{}
		if !sameStore(s, want) {
			return false
		}
	}
	emptied(s.Live)
	return slices.EqualFunc(s.Kept, want.Kept, sameState)
}

// P1: what is saved does not share memory with the journal it was saved to.
func TestSavedJournalsAreTheirOwn(t *testing.T) {
	for _, s := range []impl.Store{{}, sampleStore(), {Live: sampleStore().Live}} {
		for _, waits := range [][]string{nil, {"waits"}, slices.Repeat([]string{"waits"}, 40)} {
			j := journalOf(laid(60, 1, 0, partsOf(1, 1, "old")...), waits...)
			want, _, _ := savedFrom(copiedJournal(j), s)
			got, code := impl.SaveStore(j, s)
			emptied(j)
			wantJournal(t, "SaveStore", got, code, want, impl.OK)
		}
	}
}

// P1: messages stay as they are, and so does what lies behind their lists, also
// when the results are overwritten.
func TestMessagesStayAsTheyAre(t *testing.T) {
	for _, m := range anyMsgs() {
		m.State = spareState(m.State)
		before := wholeState(m.State)
		for _, called := range callsOfMsg(m) {
			for _, result := range called.run() {
				emptied(result)
			}
		}
		wantSame(t, "the state", wholeState(m.State), before)
	}
}

// spareMsgs returns messages with unused capacity in all their lists, and behind
// them.
func spareMsgs(list []impl.Msg) []impl.Msg {
	list = spare(list, impl.Msg{Kind: 7})
	for i, m := range list {
		list[i].State = spareState(m.State)
	}
	return list
}

// wholeMsgs returns a copy of messages and of all unused capacity.
func wholeMsgs(list []impl.Msg) []impl.Msg {
	list = whole(list)
	for i, m := range list {
		list[i].State = wholeState(m.State)
	}
	return list
}

// P1: nets and lists of messages stay as they are, and so does what lies behind
// their lists, also when the results are overwritten.
func TestNetsStayAsTheyAre(t *testing.T) {
	for _, n := range anyNets() {
		n = impl.Net{Flight: spareMsgs(n.Flight), Cut: spare(n.Cut, 7)}
		flight, cut := wholeMsgs(n.Flight), whole(n.Cut)
		for _, called := range callsOfNet(n) {
			for _, result := range called.run() {
				emptied(result)
			}
		}
		wantSame(t, "the messages", wholeMsgs(n.Flight), flight)
		wantSame(t, "the nodes that are cut", whole(n.Cut), cut)
	}
}

// noticesIn returns a net with some messages that have states.
func noticesIn() impl.Net {
	n := impl.Net{Cut: []int64{1, 5, 9}}
	for i, s := range rightStates()[3:9] {
		m := msgAt(impl.MsNotice, 2, 3, s.Pg, s.Seen)
		m.State = s
		if i%3 == 2 {
			m.To = 5
		}
		n.Flight = append(n.Flight, m)
	}
	return n
}

// P1: no net shares memory with what it was made of, nor one of its messages
// with another, or with the one that was taken.
func TestNetsAreTheirOwn(t *testing.T) {
	for _, x := range []struct {
		name string
		make func(n impl.Net) (impl.Net, impl.Msg)
	}{
		{"SendAll", func(n impl.Net) (impl.Net, impl.Msg) { return impl.SendAll(impl.Net{}, n.Flight), impl.Msg{} }},
		{"SendAll of its own", func(n impl.Net) (impl.Net, impl.Msg) { return impl.SendAll(n, n.Flight), impl.Msg{} }},
		{"SendAll of one thing twice", func(n impl.Net) (impl.Net, impl.Msg) {
			return impl.SendAll(n, []impl.Msg{n.Flight[0], n.Flight[0]}), impl.Msg{}
		}},
		{"SendAll of nothing", func(n impl.Net) (impl.Net, impl.Msg) { return impl.SendAll(n, nil), impl.Msg{} }},
		{"TakeAt", func(n impl.Net) (impl.Net, impl.Msg) { rest, m, _ := impl.TakeAt(n, 1); return rest, m }},
		{"TakeAt of what does not pass", func(n impl.Net) (impl.Net, impl.Msg) { rest, m, _ := impl.TakeAt(n, 2); return rest, m }},
		{"TakeAt of nothing", func(n impl.Net) (impl.Net, impl.Msg) { rest, m, _ := impl.TakeAt(n, 6); return rest, m }},
		{"DropAt", func(n impl.Net) (impl.Net, impl.Msg) { rest, _ := impl.DropAt(n, 0); return rest, impl.Msg{} }},
		{"DropAt of nothing", func(n impl.Net) (impl.Net, impl.Msg) { rest, _ := impl.DropAt(n, -1); return rest, impl.Msg{} }},
		{"DoubleAt", func(n impl.Net) (impl.Net, impl.Msg) { more, _ := impl.DoubleAt(n, 3); return more, impl.Msg{} }},
		{"DoubleAt of nothing", func(n impl.Net) (impl.Net, impl.Msg) { more, _ := impl.DoubleAt(n, 6); return more, impl.Msg{} }},
		{"CutNode", func(n impl.Net) (impl.Net, impl.Msg) { cut, _ := impl.CutNode(n, 3); return cut, impl.Msg{} }},
		{"CutNode of nothing", func(n impl.Net) (impl.Net, impl.Msg) { cut, _ := impl.CutNode(n, 5); return cut, impl.Msg{} }},
		{"HealNode", func(n impl.Net) (impl.Net, impl.Msg) { healed, _ := impl.HealNode(n, 5); return healed, impl.Msg{} }},
		{"HealNode of nothing", func(n impl.Net) (impl.Net, impl.Msg) { healed, _ := impl.HealNode(n, 3); return healed, impl.Msg{} }},
	} {
		want, wantM := x.make(noticesIn())
		want, wantM = copiedNet(want), copiedMsg(wantM)
		n := noticesIn()
		n = impl.Net{Flight: spareMsgs(n.Flight), Cut: spare(n.Cut, 7)}
		got, m := x.make(n)
		emptied(n)
		wantNet(t, x.name, got, true, want, true)
		wantMsg(t, x.name, m, 0, wantM, 0)
		emptied(got.Cut)
		want.Cut = slices.Clone(got.Cut)
		// Each message is forgotten in turn, and the others are looked at.
		for i := range got.Flight {
			emptied(got.Flight[i])
			got.Flight[i], want.Flight[i] = impl.Msg{}, impl.Msg{}
			wantNet(t, x.name+", of each message", got, true, want, true)
			wantMsg(t, x.name+", of the one that was taken", m, 0, wantM, 0)
		}
	}
	m, _ := impl.GetMsg(framed(bodyOfMsg(sampleMsgs()[2])))
	again, _ := impl.GetMsg(framed(bodyOfMsg(sampleMsgs()[2])))
	emptied(m)
	wantMsg(t, "GetMsg", again, 0, sampleMsgs()[2], 0)
}

// spareMon returns m with unused capacity in all its lists.
func spareMon(m impl.Mon) impl.Mon {
	m.Slots = spare(m.Slots, impl.Slot{Epoch: 7})
	m.Try.Promises, m.Try.Accepts = spare(m.Try.Promises, 7), spare(m.Try.Accepts, 7)
	return m
}

// wholeMon returns a copy of m and of all unused capacity.
func wholeMon(m impl.Mon) impl.Mon {
	m.Slots = whole(m.Slots)
	m.Try.Promises, m.Try.Accepts = whole(m.Try.Promises), whole(m.Try.Accepts)
	return m
}

// P1: monitors stay as they are, and so does what lies behind their lists, also
// when the results are overwritten.
func TestMonsStayAsTheyAre(t *testing.T) {
	for _, m := range anyMons() {
		m = spareMon(m)
		before := wholeMon(m)
		for _, called := range callsOfMon(m) {
			for _, result := range called.run() {
				emptied(result)
			}
		}
		wantSame(t, "the monitor", wholeMon(m), before)
	}
	for _, list := range anyMonLists() {
		list = spare(list, impl.Mon{Id: 7})
		for i, m := range list {
			list[i] = spareMon(m)
		}
		before := whole(list)
		for i, m := range list {
			before[i] = wholeMon(m)
		}
		for _, called := range callsOfMonList(list) {
			for _, result := range called.run() {
				emptied(result)
			}
		}
		after := whole(list)
		for i, m := range list {
			after[i] = wholeMon(m)
		}
		wantSame(t, "the monitors", after, before)
	}
}

// P1: no monitor shares memory with what it was made of, nor one of its lists
// with another.
func TestMonsAreTheirOwn(t *testing.T) {
	hear := func(g impl.MonMsg) func(m impl.Mon) impl.Mon {
		return func(m impl.Mon) impl.Mon { m, _, _ = impl.MonHear(m, g); return m }
	}
	propose := func(i impl.Inc) func(m impl.Mon) impl.Mon {
		return func(m impl.Mon) impl.Mon { m, _, _ = impl.Propose(m, i, 999); return m }
	}
	does := []func(m impl.Mon) impl.Mon{impl.MonCrash, propose(upAt(7, 3)), propose(upAt(9, 3)), propose(upAt(60, 3))}
	for _, g := range anyMonMsgs() {
		does = append(does, hear(g))
	}
	for _, m := range anyMons() {
		for _, do := range does {
			want := copiedMon(do(copiedMon(m)))
			from := spareMon(m)
			got := do(from)
			emptied(from)
			wantMon(t, "with the argument overwritten", got, nil, 0, want, nil, 0)
			filled(got.Try.Promises, 99)
			wantList(t, "Accepts", got.Try.Accepts, 0, want.Try.Accepts, 0)
			filled(got.Try.Accepts, 99)
			wantList(t, "Slots", got.Slots, 0, want.Slots, 0)
		}
	}
}
