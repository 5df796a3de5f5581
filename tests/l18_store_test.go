package tests

import (
	"fmt"
	"math/rand/v2"
	"slices"
	"strings"
	"testing"

	"loop.example/g00849/impl"
)

func pg(pool, no int64) impl.Pg {
	return impl.Pg{Pool: pool, No: no}
}

func isPgBelow(a, b impl.Pg) bool {
	return a.Pool < b.Pool || a.Pool == b.Pool && a.No < b.No
}

func isStates(list []impl.PgState) bool {
	for i, x := range list {
		if !isState(x) || i > 0 && !isPgBelow(list[i-1].Pg, x.Pg) {
			return false
		}
	}
	return len(list) <= 8
}

func isStore(s impl.Store) bool {
	return isStates(s.Live) && isStates(s.Kept)
}

func sameStore(a, b impl.Store) bool {
	return slices.EqualFunc(a.Live, b.Live, sameState) && slices.EqualFunc(a.Kept, b.Kept, sameState)
}

func copiedStates(list []impl.PgState) []impl.PgState {
	list = slices.Clone(list)
	for i, x := range list {
		list[i] = copiedState(x)
	}
	return list
}

// copiedStore returns a store that shares no memory with s.
func copiedStore(s impl.Store) impl.Store {
	return impl.Store{Live: copiedStates(s.Live), Kept: copiedStates(s.Kept)}
}

func wantStore(t *testing.T, name string, got impl.Store, code int64, want impl.Store, wantCode int64) {
	t.Helper()
	if !sameStore(got, want) || code != wantCode {
		t.Errorf("%s: %.4000s, code %d; want %.4000s, code %d", name, fmt.Sprintf("%+v", got), code, fmt.Sprintf("%+v", want), wantCode)
	}
}

// smallState returns a valid state whose form is short.
func smallState(r *rand.Rand, g impl.Pg) impl.PgState {
	n := r.IntN(3)
	s := stateOf(history(r, n, 2), r.IntN(n+1), n)
	s.Pg, s.Seen = g, r.Int64N(61)
	s.Started = r.Int64N(s.Seen + 1)
	if r.IntN(2) == 0 {
		s.Chunks = []impl.Chunk{chunk("a", ver(1, 1), r.Int64N(7), someBytes(r, r.IntN(9)))}
	}
	return s
}

// otherState returns a valid state of the same placement group, most often
// another one.
func otherState(r *rand.Rand, s impl.PgState) impl.PgState {
	s = copiedState(s)
	switch r.IntN(5) {
	case 0:
		s.Seen = s.Started + r.Int64N(61-s.Started)
	case 1:
		s.Firm = impl.LastOf(s)
	case 2:
		s.Chunks = nil
	case 3:
		if len(s.Chunks) < 160 {
			s.Chunks = chunkPut(s.Chunks, chunk("a", ver(1, 1), r.Int64N(7), someBytes(r, r.IntN(20))))
		}
	case 4:
		s = smallState(r, s.Pg)
	}
	return s
}

// somePgs returns n placement groups in order.
func somePgs(r *rand.Rand, n int) []impl.Pg {
	var list []impl.Pg
	for _, i := range r.Perm(64)[:n] {
		list = append(list, pg(int64(1+i/16), int64(i%16)))
	}
	slices.SortFunc(list, func(a, b impl.Pg) int { return int((a.Pool-b.Pool)*16 + a.No - b.No) })
	return list
}

// someStates returns n valid states in order, small or of all sizes.
func someStates(r *rand.Rand, n int, small bool) []impl.PgState {
	var list []impl.PgState
	for _, g := range somePgs(r, n) {
		x := smallState(r, g)
		if !small {
			x = someState(r)
			x.Pg = g
		}
		list = append(list, x)
	}
	return list
}

// someStore returns a valid store. Some of its states are kept as they are,
// some otherwise, some not at all, and some are kept only.
func someStore(r *rand.Rand, small bool) impl.Store {
	all := someStates(r, r.IntN(11), small)
	var s impl.Store
	for _, x := range all {
		where := r.IntN(6)
		if where != 0 && len(s.Live) < 8 {
			s.Live = append(s.Live, x)
		}
		if where > 1 && r.IntN(2) == 0 {
			x = otherState(r, x)
		}
		if where != 1 && len(s.Kept) < 8 {
			s.Kept = append(s.Kept, copiedState(x))
		}
	}
	return s
}

// sampleStore has a state that is kept as it is, one that has changed, one that
// is new, and one that is kept only.
func sampleStore() impl.Store {
	r := source(180)
	one, two, three, four := sampleState(), smallState(r, pg(2, 0)), smallState(r, pg(2, 7)), smallState(r, pg(4, 15))
	changed := copiedState(one)
	changed.Chunks[3].Bytes, changed.Seen = "other", 60
	return impl.Store{Live: []impl.PgState{one, two, three}, Kept: []impl.PgState{changed, copiedState(two), four}}
}

// rightStores are valid, each in a way of its own.
func rightStores() []impl.Store {
	r := source(181)
	eight := someStates(r, 8, true)
	fullOnes := []impl.PgState{}
	for no := range int64(8) {
		x := fullState()
		x.Pg.No = no
		fullOnes = append(fullOnes, x)
	}
	list := []impl.Store{{}, sampleStore(), {Live: eight}, {Kept: eight}, {Live: eight, Kept: someStates(r, 8, true)}, {Live: fullOnes, Kept: fullOnes[2:4]}, {Live: fullOnes[:2], Kept: fullOnes}}
	for _, x := range rightStates()[:10] {
		list = append(list, impl.Store{Live: []impl.PgState{x}}, impl.Store{Kept: []impl.PgState{x}}, impl.Store{Live: []impl.PgState{x}, Kept: []impl.PgState{x}})
	}
	for i := range 60 {
		list = append(list, someStore(r, i%3 > 0))
	}
	for i := range list {
		list[i] = copiedStore(list[i])
	}
	return list
}

// wrongLists are lists of states that are not valid, each for a reason of its
// own.
func wrongLists() [][]impl.PgState {
	r := source(182)
	eight, nine := someStates(r, 8, true), someStates(r, 9, true)
	list := [][]impl.PgState{nine, append(slices.Clone(eight), eight[7]), {impl.NewState(pg(1, 0)), impl.NewState(pg(1, 0))}, {impl.NewState(pg(2, 0)), impl.NewState(pg(1, 1))}, {impl.NewState(pg(1, 1)), impl.NewState(pg(1, 0))}, append(slices.Clone(nine), someStates(r, 60, true)...)}
	for i := range 7 {
		swapped, twice := slices.Clone(eight), slices.Clone(eight)
		swapped[i], swapped[i+1] = swapped[i+1], swapped[i]
		twice[i] = otherState(r, twice[i+1])
		list = append(list, swapped, twice)
	}
	for i := range 8 {
		spoilt := slices.Clone(eight)
		spoilt[i].Started = spoilt[i].Seen + 1
		list = append(list, spoilt)
	}
	return list
}

// wrongStores are not valid, each for a reason of its own.
func wrongStores() []impl.Store {
	var list []impl.Store
	for _, states := range wrongLists() {
		list = append(list, impl.Store{Live: states}, impl.Store{Kept: states}, impl.Store{Live: sampleStore().Live, Kept: states}, impl.Store{Live: states, Kept: sampleStore().Kept})
	}
	return list
}

// P24: the constant is that of the document.
func TestStoreConstant(t *testing.T) {
	wantNumber(t, "MaxStates", impl.MaxStates, 0, 8, 0)
}

// P24: what the document allows is valid, and nothing else.
func TestStoreOk(t *testing.T) {
	for i, s := range rightStores() {
		wantOk(t, fmt.Sprint("StoreOk of the right store ", i), impl.StoreOk(s), true)
		wantOk(t, fmt.Sprint("isStore of the right store ", i), isStore(s), true)
	}
	for i, s := range wrongStores() {
		wantOk(t, fmt.Sprint("StoreOk of the wrong store ", i), impl.StoreOk(s), false)
		wantOk(t, fmt.Sprint("isStore of the wrong store ", i), isStore(s), false)
	}
	x := sampleState()
	wantOk(t, "two states of one placement group", impl.StoreOk(impl.Store{Live: []impl.PgState{x, x}}), false)
}

// P24: a store is valid only if each of its states is.
func TestStoreOkOfStates(t *testing.T) {
	ahead, behind := impl.NewState(pg(1, 0)), impl.NewState(pg(4, 15))
	for i, x := range append(wrongStates(), changedStates()...) {
		list := []impl.PgState{x}
		if x.Pg != ahead.Pg {
			list = slices.Insert(list, 0, ahead)
		}
		if i%2 == 0 && x.Pg != behind.Pg {
			list = append(list, behind)
		}
		wantOk(t, fmt.Sprintf("StoreOk, live: %+v", x), impl.StoreOk(impl.Store{Live: list, Kept: sampleStore().Kept}), isState(x))
		wantOk(t, fmt.Sprintf("StoreOk, kept: %+v", x), impl.StoreOk(impl.Store{Live: sampleStore().Live, Kept: list}), isState(x))
	}
}

// P24: states stand in the order of their pools, then of their numbers.
func TestStoreOkOfOrders(t *testing.T) {
	groups := []impl.Pg{pg(1, 0), pg(1, 1), pg(1, 2), pg(1, 15), pg(2, 0), pg(2, 1), pg(2, 15), pg(3, 0), pg(4, 0), pg(4, 15)}
	for _, a := range groups {
		for _, b := range groups {
			list := []impl.PgState{impl.NewState(a), impl.NewState(b)}
			wantOk(t, fmt.Sprint("live: ", a, b), impl.StoreOk(impl.Store{Live: list}), isPgBelow(a, b))
			wantOk(t, fmt.Sprint("kept: ", a, b), impl.StoreOk(impl.Store{Kept: list}), isPgBelow(a, b))
		}
	}
}

// P24: stores are the same if all of their states are, valid or not; no list is
// the same as an empty one.
func TestSameStore(t *testing.T) {
	list := append(rightStores(), wrongStores()...)
	same := 0
	for i, a := range list {
		for k, b := range list {
			want := sameStore(a, b)
			if got := impl.SameStore(copiedStore(a), b); got != want {
				t.Errorf("SameStore of the stores %d and %d: %v; want %v", i, k, got, want)
			}
			if want && i != k {
				same++
			}
		}
	}
	if same == 0 || same > len(list) {
		t.Errorf("of %d stores %d pairs are the same", len(list), same)
	}
	empty := impl.Store{Live: []impl.PgState{}, Kept: []impl.PgState{}}
	wantOk(t, "empty lists", impl.SameStore(empty, impl.Store{}), true)
	x, y := impl.NewState(pg(1, 0)), impl.NewState(pg(1, 1))
	for i, v := range []struct{ a, b []impl.PgState }{{nil, []impl.PgState{{}}}, {[]impl.PgState{x}, nil}, {[]impl.PgState{x}, []impl.PgState{x, y}}, {[]impl.PgState{x, y}, []impl.PgState{y, x}}, {[]impl.PgState{x, x}, []impl.PgState{x}}} {
		wantOk(t, fmt.Sprint("other live states ", i), impl.SameStore(impl.Store{Live: v.a, Kept: v.a}, impl.Store{Live: v.b, Kept: v.a}), false)
		wantOk(t, fmt.Sprint("other kept states ", i), impl.SameStore(impl.Store{Live: v.a, Kept: v.a}, impl.Store{Live: v.a, Kept: v.b}), false)
		wantOk(t, fmt.Sprint("the lists exchanged ", i), impl.SameStore(impl.Store{Live: v.a, Kept: v.b}, impl.Store{Live: v.b, Kept: v.a}), false)
	}
}

// changedFrom returns the sample state with one thing changed at a time, and as it
// is but for lists that are nil or empty.
func changedFrom() []impl.PgState {
	list := slices.DeleteFunc(changedStates(), func(x impl.PgState) bool { return len(x.Log) == 0 })
	s := sampleState()
	for i := range s.Chunks {
		for _, bytes := range []string{"", "hi", "old", "rotten", "rotten\x00", "ho"} {
			x := copiedState(s)
			x.Chunks[i].Bytes = bytes
			list = append(list, x)
		}
	}
	for _, turn := range []func(x *impl.PgState){func(x *impl.PgState) { x.Base = nil }, func(x *impl.PgState) { x.Clients = x.Clients[:1] }, func(x *impl.PgState) { x.Log = x.Log[:3] }, func(x *impl.PgState) { x.Chunks = x.Chunks[1:] }, func(x *impl.PgState) { x.Chunks = nil }, func(x *impl.PgState) { x.Clients = nil }} {
		list = append(list, spoiltState(turn))
	}
	return list
}

// P24: two states are the same if nothing in them differs.
func TestSameStoreOfStates(t *testing.T) {
	s := sampleState()
	differ := 0
	for _, x := range changedFrom() {
		want := sameState(x, s)
		for i, pair := range [][2]impl.Store{{{Live: []impl.PgState{x}}, {Live: []impl.PgState{s}}}, {{Kept: []impl.PgState{s}}, {Kept: []impl.PgState{x}}}, {{Live: []impl.PgState{s, x}, Kept: []impl.PgState{s}}, {Live: []impl.PgState{s, s}, Kept: []impl.PgState{s}}}} {
			wantOk(t, fmt.Sprintf("%d: %+v", i, x), impl.SameStore(pair[0], pair[1]), want)
			wantOk(t, fmt.Sprintf("%d, exchanged: %+v", i, x), impl.SameStore(pair[1], pair[0]), want)
		}
		if !want {
			differ++
		}
	}
	if differ < 1000 {
		t.Errorf("only %d states differ from the sample", differ)
	}
	empty := impl.PgState{Pg: pg(1, 0), Base: []impl.Head{}, Clients: []impl.Last{}, Log: []impl.Entry{}, Chunks: []impl.Chunk{}}
	wantOk(t, "empty lists in a state", impl.SameStore(impl.Store{Live: []impl.PgState{empty}}, impl.Store{Live: []impl.PgState{impl.NewState(pg(1, 0))}}), true)
}

// manyPgs returns all placement groups there may be, and some there may not.
func manyPgs() []impl.Pg {
	var list []impl.Pg
	for pool := int64(-1); pool <= 5; pool++ {
		for no := int64(-1); no <= 16; no++ {
			list = append(list, pg(pool, no))
		}
	}
	for _, n := range farNumbers() {
		list = append(list, pg(n, 0), pg(1, n), pg(n+1, n+1))
	}
	return list
}

// stateAt returns the state of g in a list, or the zero state, and whether there
// is one.
func stateAt(list []impl.PgState, g impl.Pg) (impl.PgState, bool) {
	for _, x := range list {
		if x.Pg == g {
			return x, true
		}
	}
	return impl.PgState{}, false
}

// P24: the live state of a placement group, or an empty one; that which is kept
// does not matter.
func TestStateIn(t *testing.T) {
	there := 0
	for i, s := range rightStores() {
		for _, g := range manyPgs() {
			want, found := stateAt(s.Live, g)
			if found {
				there++
			} else if isState(impl.PgState{Pg: g}) {
				want = impl.PgState{Pg: g}
			}
			wantState(t, fmt.Sprint("StateIn of the store ", i, " for ", g), impl.StateIn(s, g), 0, want, 0)
		}
	}
	if there < 200 {
		t.Errorf("only %d states were there", there)
	}
	for i, s := range wrongStores() {
		for _, x := range append(s.Live, impl.NewState(pg(3, 3))) {
			wantState(t, fmt.Sprint("StateIn of the wrong store ", i), impl.StateIn(s, x.Pg), 0, impl.PgState{}, 0)
		}
	}
}

// statePut returns a list with x among its states.
func statePut(list []impl.PgState, x impl.PgState) []impl.PgState {
	list = slices.DeleteFunc(slices.Clone(list), func(y impl.PgState) bool { return y.Pg == x.Pg })
	at := 0
	for at < len(list) && isPgBelow(list[at].Pg, x.Pg) {
		at++
	}
	return slices.Insert(list, at, x)
}

// P24: a state that is put is there, in place of that of its placement group, and
// nothing else changes.
func TestPutIn(t *testing.T) {
	r := source(183)
	replaced, added, many := 0, 0, 0
	for _, s := range rightStores() {
		groups := somePgs(r, 8)
		for _, x := range slices.Concat(s.Live, s.Kept) {
			groups = append(groups, x.Pg)
		}
		for _, g := range groups {
			for _, x := range []impl.PgState{smallState(r, g), impl.NewState(g), otherState(r, impl.StateIn(s, g))} {
				want, wantCode := impl.Store{Live: statePut(s.Live, x), Kept: s.Kept}, int64(impl.OK)
				switch len(want.Live) {
				case 9:
					want, wantCode = impl.Store{}, impl.ErrMany
					many++
				case len(s.Live):
					replaced++
				default:
					added++
				}
				got, code := impl.PutIn(s, x)
				wantStore(t, "PutIn", got, code, want, wantCode)
				wantOk(t, "StoreOk", impl.StoreOk(got), true)
				if code == impl.OK {
					wantState(t, "StateIn after PutIn", impl.StateIn(got, g), 0, x, 0)
				}
			}
		}
	}
	if replaced < 100 || added < 500 || many < 100 {
		t.Errorf("%d states were replaced, %d added, %d too many", replaced, added, many)
	}
}

// P24: states come in order, in whatever order they are put, and each of eight
// may be replaced, but no ninth put.
func TestPutInOrder(t *testing.T) {
	r := source(184)
	for range 30 {
		nine := someStates(r, 9, true)
		out := r.IntN(9)
		eight := slices.Delete(slices.Clone(nine), out, out+1)
		var s impl.Store
		for _, i := range r.Perm(8) {
			s, _ = impl.PutIn(s, eight[i])
		}
		wantStore(t, "eight states", s, 0, impl.Store{Live: eight}, 0)
		got, code := impl.PutIn(s, nine[out])
		wantStore(t, "the ninth", got, code, impl.Store{}, impl.ErrMany)
		for i, x := range eight {
			x = otherState(r, x)
			want := slices.Clone(eight)
			want[i] = x
			got, code = impl.PutIn(s, x)
			wantStore(t, "one of eight", got, code, impl.Store{Live: want}, impl.OK)
		}
		// What is kept may be another eight.
		s = impl.Store{Live: eight[:7], Kept: eight}
		got, code = impl.PutIn(s, nine[out])
		wantStore(t, "the eighth", got, code, impl.Store{Live: statePut(eight[:7], nine[out]), Kept: eight}, impl.OK)
	}
}

// P24: neither a store nor a state that is not valid is put, though there is no
// room either.
func TestPutInErrors(t *testing.T) {
	eight := impl.Store{Live: someStates(source(185), 8, true)}
	for _, x := range wrongStates() {
		for _, s := range []impl.Store{{}, sampleStore(), eight} {
			got, code := impl.PutIn(s, x)
			wantStore(t, fmt.Sprintf("PutIn of %+v", x), got, code, impl.Store{}, impl.ErrForm)
		}
	}
	for i, s := range wrongStores() {
		for _, x := range append(s.Live, sampleState(), impl.PgState{}) {
			got, code := impl.PutIn(s, x)
			wantStore(t, fmt.Sprint("PutIn of the wrong store ", i), got, code, impl.Store{}, impl.ErrForm)
		}
	}
}

// P24: a flush keeps what is live, a crash leaves what is kept, and that is all.
func TestFlushAndCrashStore(t *testing.T) {
	for i, s := range rightStores() {
		flushed, crashed := impl.FlushStore(s), impl.CrashStore(s)
		wantStore(t, fmt.Sprint("FlushStore of the store ", i), flushed, 0, impl.Store{Live: s.Live, Kept: s.Live}, 0)
		wantStore(t, fmt.Sprint("CrashStore of the store ", i), crashed, 0, impl.Store{Live: s.Kept, Kept: s.Kept}, 0)
		wantStore(t, "flushed again", impl.FlushStore(flushed), 0, flushed, 0)
		wantStore(t, "crashed after a flush", impl.CrashStore(flushed), 0, flushed, 0)
		wantStore(t, "flushed after a crash", impl.FlushStore(crashed), 0, crashed, 0)
		wantOk(t, "StoreOk", impl.StoreOk(flushed) && impl.StoreOk(crashed), true)
	}
	for i, s := range wrongStores() {
		wantStore(t, fmt.Sprint("FlushStore of the wrong store ", i), impl.FlushStore(s), 0, impl.Store{}, 0)
		wantStore(t, fmt.Sprint("CrashStore of the wrong store ", i), impl.CrashStore(s), 0, impl.Store{}, 0)
	}
}

// P24: the document's example of a crash: whatever is put after a flush is lost.
func TestCrashLeavesTheFlush(t *testing.T) {
	r := source(186)
	lost := 0
	for _, s := range rightStores() {
		flushed := impl.FlushStore(s)
		now := flushed
		for range 4 {
			for _, x := range someStates(r, 1, true) {
				if next, code := impl.PutIn(now, x); code == impl.OK {
					now = next
				}
			}
			for _, x := range now.Live[:min(len(now.Live), 1)] {
				now, _ = impl.PutIn(now, otherState(r, x))
			}
			if !sameStore(now, flushed) {
				lost++
			}
			wantStore(t, "crashed", impl.CrashStore(now), 0, flushed, 0)
		}
	}
	if lost < 100 {
		t.Errorf("only %d changes were lost", lost)
	}
}

// rotOf names a byte of a chunk, and what it is changed by.
type rotOf struct {
	g      impl.Pg
	c      impl.Chunk
	at, by int64
}

func (x rotOf) in(s impl.Store) (impl.Store, bool) {
	return impl.RotIn(s, x.g, x.c.Name, x.c.Ver, x.c.Pos, x.at, x.by)
}

// rottenIn returns a list of states with the byte changed, and whether there is
// such a byte.
func (x rotOf) rottenIn(list []impl.PgState) ([]impl.PgState, bool) {
	list = copiedStates(list)
	for i := range list {
		for k, c := range list[i].Chunks {
			if list[i].Pg != x.g || c.Name != x.c.Name || c.Ver != x.c.Ver || c.Pos != x.c.Pos || x.at < 0 || x.at >= int64(len(c.Bytes)) {
				continue
			}
			bytes := []byte(c.Bytes)
			bytes[x.at] ^= byte(x.by)
			list[i].Chunks[k].Bytes = string(bytes)
			return list, true
		}
	}
	return list, false
}

// wanted returns a valid store after the rot, and in how many of its lists there
// is such a byte.
func (x rotOf) wanted(s impl.Store) (impl.Store, int) {
	live, inLive := x.rottenIn(s.Live)
	kept, inKept := x.rottenIn(s.Kept)
	if x.by < 1 || x.by > 255 || !inLive && !inKept {
		return s, 0
	}
	if inLive && inKept {
		return impl.Store{Live: live, Kept: kept}, 2
	}
	return impl.Store{Live: live, Kept: kept}, 1
}

// rotsIn returns changes of bytes that a store has, and of those that it does
// not have.
func rotsIn(r *rand.Rand, s impl.Store) []rotOf {
	var list []rotOf
	for _, x := range slices.Concat(s.Live, s.Kept) {
		for range min(len(x.Chunks), 4) {
			c := x.Chunks[r.IntN(len(x.Chunks))]
			for _, at := range []int64{-1, 0, 1, r.Int64N(64), int64(len(c.Bytes)) - 1, int64(len(c.Bytes)), farNumbers()[r.IntN(8)]} {
				list = append(list, rotOf{x.Pg, c, at, 1 + r.Int64N(255)})
			}
			for _, by := range []int64{0, 1, 255, 256, -1, 257, 256 + r.Int64N(256), farNumbers()[r.IntN(8)]} {
				list = append(list, rotOf{x.Pg, c, 0, by})
			}
			other := c
			switch r.IntN(4) {
			case 0:
				other.Name += "0"
			case 1:
				other.Ver.Seq++
			case 2:
				other.Pos = []int64{-1, c.Pos + 1, c.Pos - 1, c.Pos + 1<<32}[r.IntN(4)]
			case 3:
				other.Ver.Epoch--
			}
			list = append(list, rotOf{x.Pg, other, 0, 3}, rotOf{pg(x.Pg.Pool, x.Pg.No+1), c, 0, 3}, rotOf{pg(x.Pg.Pool-1, x.Pg.No), c, 0, 3}, rotOf{pg(0, 0), c, 0, 3})
		}
	}
	return append(list, rotOf{pg(1, 0), chunk("a", ver(1, 1), 0, ""), 0, 1}, rotOf{at: 0, by: 1})
}

// P24: rot changes the one byte that is named, in the live chunk and in the kept
// one, wherever there is one; where there is none, or by is no such change, the
// store is as it was.
func TestRotIn(t *testing.T) {
	r := source(187)
	counts := [3]int{}
	for _, s := range rightStores() {
		for _, x := range rotsIn(r, s) {
			want, where := x.wanted(s)
			got, ok := x.in(s)
			wantStore(t, fmt.Sprintf("RotIn of %+v", x), got, 0, want, 0)
			wantOk(t, fmt.Sprintf("RotIn of %+v", x), ok, where > 0)
			wantOk(t, "StoreOk of a rotten store", impl.StoreOk(got), true)
			counts[where]++
			if ok {
				back, ok := x.in(got)
				wantStore(t, "the same byte again", back, 0, s, 0)
				wantOk(t, "the same byte again", ok, true)
			}
		}
	}
	if counts[0] < 1000 || counts[1] < 1000 || counts[2] < 1000 {
		t.Errorf("the bytes were nowhere, in one list, and in both: %v", counts)
	}
	for i, s := range wrongStores() {
		for _, x := range []rotOf{{pg(1, 0), chunk("a", ver(1, 1), 0, ""), 0, 1}, {sampleState().Pg, sampleState().Chunks[0], 0, 1}} {
			got, ok := x.in(s)
			wantStore(t, fmt.Sprint("RotIn of the wrong store ", i), got, 0, impl.Store{}, 0)
			wantOk(t, fmt.Sprint("RotIn of the wrong store ", i), ok, false)
		}
	}
}

// P24: the document's example: "hi" becomes "ho", also if it is live only, or
// kept only, or one of the two is too short.
func TestRotInExample(t *testing.T) {
	with := func(bytes ...string) []impl.PgState {
		x := impl.NewState(pg(1, 0))
		for _, text := range bytes {
			x.Chunks = append(x.Chunks, impl.Chunk{Name: "a", Ver: ver(1, 1), Sum: crcOf("hi"), Bytes: text})
		}
		return []impl.PgState{x}
	}
	for i, v := range []struct{ live, kept, liveAfter, keptAfter []impl.PgState }{
		{with("hi"), with("hi"), with("ho"), with("ho")},
		{with("hi"), nil, with("ho"), nil},
		{nil, with("hi"), nil, with("ho")},
		{with("hi"), with(), with("ho"), with()},
		{with(), with("hi"), with(), with("ho")},
		{with("hi"), with("h"), with("ho"), with("h")},
		{with("h"), with("hi"), with("h"), with("ho")},
		{with("ho"), with("hi"), with("hi"), with("ho")},
		{with("his"), with("\x00\x06"), with("hos"), with("\x00\x00")},
	} {
		got, ok := impl.RotIn(impl.Store{Live: v.live, Kept: v.kept}, pg(1, 0), "a", ver(1, 1), 0, 1, 6)
		wantStore(t, fmt.Sprint("the example ", i), got, 0, impl.Store{Live: v.liveAfter, Kept: v.keptAfter}, 0)
		wantOk(t, fmt.Sprint("the example ", i), ok, true)
	}
	s := impl.Store{Live: with("h"), Kept: with("")}
	got, ok := impl.RotIn(s, pg(1, 0), "a", ver(1, 1), 0, 1, 6)
	wantStore(t, "no such byte", got, 0, s, 0)
	wantOk(t, "no such byte", ok, false)
}

// P24: a sound chunk that rots in one byte is not sound, live or kept, whatever
// the byte is changed by.
func TestRottenChunksAreNotSound(t *testing.T) {
	r := source(188)
	for n := 1; n <= 64; n++ {
		x := impl.NewState(pg(3, 9))
		c := chunk("a", ver(1, 1), 2, someBytes(r, n))
		x.Chunks = []impl.Chunk{c, chunk("b", ver(1, 1), 2, "sound")}
		s := impl.Store{Live: []impl.PgState{x}, Kept: []impl.PgState{x}}
		for at := range int64(n) {
			for by := int64(1); by < 256; by += 1 + r.Int64N(40) {
				rotten, ok := impl.RotIn(s, x.Pg, "a", c.Ver, 2, at, by)
				for _, y := range append(rotten.Live, rotten.Kept...) {
					got := []bool{ok, impl.SoundChunk(c), impl.SoundChunk(y.Chunks[0]), impl.SoundChunk(y.Chunks[1])}
					wantSame(t, fmt.Sprint(n, " bytes, at ", at, " by ", by), got, []bool{true, true, false, true})
				}
			}
		}
	}
}

// formsOf returns the forms of states, but for those that are in a list as they
// are.
func formsOf(list, but []impl.PgState) []string {
	var forms []string
	for _, x := range list {
		if !slices.ContainsFunc(but, func(y impl.PgState) bool { return sameState(x, y) }) {
			forms = append(forms, formOfState(x))
		}
	}
	return forms
}

// savedFrom returns a valid journal after a flush of a valid store, and whether
// it was compacted.
func savedFrom(j impl.Journal, s impl.Store) (impl.Journal, int64, bool) {
	frames := formsOf(s.Live, s.Kept)
	if len(frames) == 0 {
		return j, impl.OK, false
	}
	if len(j.Frames)+len(frames) <= 40 {
		longer := copiedJournal(j)
		longer.Frames = slices.Concat(j.Frames, frames)
		if synced, code := syncedFrom(longer); code == impl.OK {
			return synced, code, false
		}
	}
	next, code := compactedFrom(j, formsOf(s.Live, nil))
	return next, code, true
}

// smallStores are valid, and their states are small.
func smallStores() []impl.Store {
	r := source(189)
	list := []impl.Store{{}, sampleStore(), impl.FlushStore(sampleStore())}
	for range 30 {
		list = append(list, someStore(r, true))
	}
	return list
}

// P24: a flush is written as one batch of the states that changed, behind the
// frames that wait; if there is no room for that, all live states are written
// instead of what there was.
func TestSaveStore(t *testing.T) {
	synced, same, compacted, many := 0, 0, 0, 0
	for i, j := range someJournals() {
		for k, s := range smallStores() {
			want, wantCode, isCompacted := savedFrom(j, s)
			got, code := impl.SaveStore(j, s)
			wantJournal(t, fmt.Sprint("the store ", k, " in the journal ", i), got, code, want, wantCode)
			wantOk(t, "JournalOk", impl.JournalOk(got), code == impl.OK)
			switch {
			case code == impl.ErrMany:
				many++
			case isCompacted:
				compacted++
			case sameJournal(j, want):
				same++
			default:
				synced++
			}
		}
	}
	if synced < 500 || same < 500 || compacted < 200 || many < 100 {
		t.Errorf("of the flushes %d were synced, %d compacted, %d had no room, and %d had nothing to write", synced, compacted, many, same)
	}
}

// P24: that holds for large states too.
func TestSaveStoreOfLargeStates(t *testing.T) {
	synced, compacted, many := 0, 0, 0
	for i, s := range rightStores() {
		j, _ := impl.NewJournal(1200)
		for step := range 6 {
			want, wantCode, isCompacted := savedFrom(j, s)
			got, code := impl.SaveStore(j, s)
			wantJournal(t, fmt.Sprint("the store ", i), got, code, want, wantCode)
			switch {
			case code == impl.ErrMany:
				many++
			case isCompacted:
				compacted++
			default:
				synced++
			}
			if code == impl.OK {
				j = got
				opened, code := impl.OpenStore(j)
				if step > 0 || len(s.Live) > 0 && len(s.Kept) == 0 {
					wantStore(t, "what is opened again", opened, code, impl.Store{Live: s.Live, Kept: s.Live}, impl.OK)
				}
			}
			// All states count as changed from now on.
			s.Kept = nil
		}
	}
	if synced < 100 || compacted < 10 || many < 5 {
		t.Errorf("of the flushes %d were synced, %d compacted, and %d had no room", synced, compacted, many)
	}
}

// P24: a state is written if anything in it has changed, and not if nothing has.
func TestSaveStoreOfEachChange(t *testing.T) {
	j, _ := impl.NewJournal(60)
	old := sampleState()
	changed, same := 0, 0
	for _, x := range changedFrom() {
		if !isState(x) {
			continue
		}
		s := impl.Store{Live: []impl.PgState{x}, Kept: []impl.PgState{old}}
		want := j
		if !sameState(x, old) {
			changed++
			want.Frames = []string{formOfState(x)}
			want, _ = syncedFrom(want)
		} else {
			same++
		}
		got, code := impl.SaveStore(j, s)
		wantJournal(t, fmt.Sprintf("SaveStore of %+v", x), got, code, want, impl.OK)
	}
	if changed < 300 || same < 5 {
		t.Errorf("%d states had changed, %d had not", changed, same)
	}
}

// P24: if no state has changed, nothing is written: not even the frames that
// wait, though there may be no room for them.
func TestSaveStoreOfNothing(t *testing.T) {
	waiting := 0
	for i, j := range someJournals() {
		for _, s := range []impl.Store{{}, impl.FlushStore(sampleStore()), {Live: sampleStore().Live[:1], Kept: sampleStore().Live}, {Kept: sampleStore().Live}} {
			got, code := impl.SaveStore(j, s)
			wantJournal(t, fmt.Sprint("nothing in the journal ", i), got, code, j, impl.OK)
		}
		waiting += len(j.Frames)
	}
	if waiting < 100 {
		t.Errorf("only %d frames wait", waiting)
	}
}

// P24: frames that wait are written ahead of the states, if there are not too
// many; otherwise they are dropped with all the journal had.
func TestSaveStoreBehindFrames(t *testing.T) {
	old := formOfState(impl.NewState(pg(1, 0)))
	s := impl.Store{Live: sampleStore().Live[1:]}
	forms := formsOf(s.Live, nil)
	wantNumber(t, "the states", int64(len(forms)), 0, 2, 0)
	for n := range 41 {
		j := journalOf(laid(80, 1, 0, partsOf(1, 4, old)...), slices.Repeat([]string{old}, n)...)
		wantFrames := append(slices.Repeat([]string{old}, n+1), forms...)
		wantGen, wantHalf, wantBatch := int64(1), int64(0), int64(5)
		if n > 38 {
			wantFrames, wantGen, wantHalf, wantBatch = forms, 2, 1, 1
		}
		got, code := impl.SaveStore(j, s)
		wantSame(t, fmt.Sprint("behind ", n, " frames"), []int64{code, got.Gen, got.Half, got.Batch, int64(len(got.Frames))}, []int64{impl.OK, wantGen, wantHalf, wantBatch, 0})
		wantOpened(t, fmt.Sprint("behind ", n, " frames"), got.Disk, wantFrames, impl.OK)
	}
}

// P24: a batch is written if it fills the half, and no more; and so it is with
// that of a compacted journal.
func TestRoomForStores(t *testing.T) {
	x := impl.NewState(pg(1, 0))
	x.Chunks = []impl.Chunk{chunk("a", ver(1, 1), 0, full('x'))}
	size := len(putText(formOfState(x)))
	if size <= 48 || size > 96 {
		t.Fatalf("the state has %d bytes", size)
	}
	for n, v := range map[int64][5]int64{
		// Halves of 3, 4, 5, 6 and 7 cells: how often a state of two cells is
		// written till it is compacted.
		8: {1, 2, 3, 4, 5}, 10: {1, 1, 2, 2, 3}, 13: {1, 1, 2, 2, 3}, 14: {1, 1, 1, 2, 2}, 17: {1, 1, 1, 2, 2},
	} {
		j, _ := impl.NewJournal(n)
		for i, gen := range v {
			s := impl.Store{Live: []impl.PgState{x}}
			s.Live[0].Seen = int64(i) + 1
			next, code := impl.SaveStore(j, s)
			wantNumber(t, fmt.Sprint(n, " sectors, flush ", i), next.Gen, code, gen, impl.OK)
			j = next
			opened, code := impl.OpenStore(j)
			wantStore(t, "what is opened", opened, code, impl.FlushStore(s), impl.OK)
		}
	}
	small, _ := impl.NewJournal(8)
	for k, want := range []int64{impl.OK, impl.ErrMany} {
		// Two such states have no room in three cells.
		s := impl.Store{Live: []impl.PgState{x, x}[:k+1]}
		s.Live = copiedStates(s.Live)
		s.Live[k].Pg.No = 3
		got, code := impl.SaveStore(small, s)
		wantNumber(t, "the code of a flush", 0, code, 0, want)
		wantOk(t, "JournalOk", impl.JournalOk(got), want == impl.OK)
		// Nor if but one of them has changed, and there is no room for that.
		s.Kept = s.Live[:k]
		full, _ := impl.SaveStore(small, impl.Store{Live: s.Live[:1]})
		got, code = impl.SaveStore(full, s)
		wantNumber(t, "the code of a second flush", 0, code, 0, want)
		wantOk(t, "JournalOk", impl.JournalOk(got), want == impl.OK)
	}
}

// P24: the last batch and the last generation: what can be neither synced nor
// compacted is not written.
func TestSaveStoreAtTheEnd(t *testing.T) {
	s := impl.Store{Live: []impl.PgState{impl.NewState(pg(2, 2))}}
	lastBatch := journalOf(laid(12, 1, 0, part(1, 2147483647, true, "\x01a")), "waits")
	got, code := impl.SaveStore(lastBatch, s)
	wantJournal(t, "the last batch", got, code, impl.Journal{Disk: got.Disk, Gen: 2, Half: 1, Batch: 1, At: 1}, impl.OK)
	wantOpened(t, "the last batch", got.Disk, formsOf(s.Live, nil), impl.OK)
	lastGen := journalOf(laid(12, 2147483647, 1))
	got, code = impl.SaveStore(lastGen, s)
	wantJournal(t, "the last generation", got, code, impl.Journal{Disk: got.Disk, Gen: 2147483647, Half: 1, Batch: 1, At: 1}, impl.OK)
	both := journalOf(laid(12, 2147483647, 1, part(2147483647, 2147483647, true, "\x01a")))
	got, code = impl.SaveStore(both, s)
	wantJournal(t, "both", got, code, impl.Journal{}, impl.ErrMany)
}

// P24: neither a journal nor a store that is not valid is saved.
func TestSaveStoreErrors(t *testing.T) {
	right, _ := impl.NewJournal(60)
	for _, s := range wrongStores() {
		for _, j := range []impl.Journal{right, {}, journalOf(laid(8, 1, 0), "waits")} {
			got, code := impl.SaveStore(j, s)
			wantJournal(t, "SaveStore of a wrong store", got, code, impl.Journal{}, impl.ErrForm)
		}
	}
	for _, j := range wrongJournals() {
		for _, s := range []impl.Store{{}, sampleStore(), impl.FlushStore(sampleStore())} {
			got, code := impl.SaveStore(j, s)
			wantJournal(t, "SaveStore in a wrong journal", got, code, impl.Journal{}, impl.ErrForm)
		}
		got, code := impl.OpenStore(j)
		wantStore(t, "OpenStore of a wrong journal", got, code, impl.Store{}, impl.ErrForm)
	}
}

// framedIn returns a journal with frames in several batches.
func framedIn(r *rand.Rand, frames []string) impl.Journal {
	var cells []impl.Cell
	for batch := int64(1); len(frames) > 0; batch++ {
		n := min(len(frames), 1+r.IntN(5))
		cells = append(cells, partsOf(1, batch, frames[:n]...)...)
		frames = frames[n:]
	}
	return journalOf(laid(8+2*len(cells), 1, r.Int64N(2), cells...))
}

// P24: of each placement group the last state in the journal is opened, in the
// order of the groups, whatever the order of the frames is.
func TestOpenStore(t *testing.T) {
	r := source(190)
	again, many := 0, 0
	for range 200 {
		groups := somePgs(r, 1+r.IntN(12))
		var want, all []impl.PgState
		for range r.IntN(40) {
			x := smallState(r, groups[r.IntN(len(groups))])
			before := len(want)
			want = statePut(want, x)
			if len(want) == before {
				again++
			}
			all = append(all, x)
		}
		j := framedIn(r, formsOf(all, nil))
		got, code := impl.OpenStore(j)
		if len(want) > 8 {
			wantStore(t, "more than eight groups", got, code, impl.Store{}, impl.ErrRead)
			many++
			continue
		}
		wantStore(t, "OpenStore", got, code, impl.Store{Live: want, Kept: want}, impl.OK)
		wantOk(t, "StoreOk of an opened store", impl.StoreOk(got), true)
	}
	if again < 500 || many < 20 {
		t.Errorf("states were replaced %d times, and there were too many %d times", again, many)
	}
}

// P24: each of eight groups may be there, and a ninth may not, wherever its state
// stands.
func TestOpenStoreOfManyGroups(t *testing.T) {
	r := source(191)
	for at := range 9 {
		nine := someStates(r, 9, true)
		r.Shuffle(9, func(i, k int) { nine[i], nine[k] = nine[k], nine[i] })
		got, code := impl.OpenStore(framedIn(r, formsOf(nine, nil)))
		wantStore(t, "nine groups", got, code, impl.Store{}, impl.ErrRead)
		eight := slices.Delete(slices.Clone(nine), at, at+1)
		var want []impl.PgState
		for _, x := range eight {
			want = statePut(want, x)
		}
		got, code = impl.OpenStore(framedIn(r, append(formsOf(eight, nil), formOfState(eight[0]))))
		wantStore(t, "eight groups", got, code, impl.Store{Live: want, Kept: want}, impl.OK)
	}
	got, code := impl.OpenStore(framedIn(r, nil))
	wantStore(t, "no group", got, code, impl.Store{}, impl.OK)
}

// P24: a frame that is not the form of a valid state is not read, wherever it
// stands: neither a beginning of one, nor one with more behind it.
func TestOpenStoreRefuses(t *testing.T) {
	r := source(192)
	form := formOfState(sampleState())
	wrong := sampleState()
	wrong.Started = wrong.Seen + 1
	junk := []string{"junk", "", "\x00", form[1:], form + "\x00", form + form, formOfState(wrong), strings.Repeat("\x00", 12), strings.Repeat("\xff", 400), "\x01" + strings.Repeat("\x00", 10), "\x01" + strings.Repeat("\x00", 12)}
	for n := range len(form) {
		junk = append(junk, form[:n])
	}
	list := someStates(r, 4, true)
	for _, frame := range junk {
		for at := range 5 {
			frames := slices.Insert(formsOf(list, nil), at, frame)
			got, code := impl.OpenStore(framedIn(r, frames))
			wantStore(t, fmt.Sprintf("a journal with %x", frame), got, code, impl.Store{}, impl.ErrRead)
		}
		// A later state of the same group does not mend it.
		got, code := impl.OpenStore(framedIn(r, []string{frame, form}))
		wantStore(t, fmt.Sprintf("a journal with %x ahead", frame), got, code, impl.Store{}, impl.ErrRead)
	}
	got, code := impl.OpenStore(framedIn(r, []string{"\x01" + strings.Repeat("\x00", 11)}))
	wantStore(t, "the least state", got, code, impl.FlushStore(impl.Store{Live: []impl.PgState{impl.NewState(pg(1, 0))}}), impl.OK)
}

// P24: frames that were not written are not opened, right or not.
func TestOpenStoreLeavesWhatWaits(t *testing.T) {
	want := impl.Store{Live: sampleStore().Live, Kept: sampleStore().Live}
	forms := formsOf(want.Live, nil)
	for _, waits := range [][]string{{"junk"}, forms[:1], {formOfState(impl.NewState(pg(1, 3)))}, formsOf(someStates(source(193), 9, true), nil)} {
		j := journalOf(laid(60, 1, 0, partsOf(1, 1, forms...)...), waits...)
		got, code := impl.OpenStore(j)
		wantStore(t, "beside frames that wait", got, code, want, impl.OK)
		got, code = impl.OpenStore(journalOf(laid(60, 1, 0), waits...))
		wantStore(t, "before any frame is written", got, code, impl.Store{}, impl.OK)
	}
}

// P24: the document's examples: what was saved is opened as the flushed store,
// and "junk" is not read.
func TestStoreExamples(t *testing.T) {
	for i, s := range smallStores() {
		s.Kept = nil
		j, _ := impl.NewJournal(200)
		j, code := impl.SaveStore(j, s)
		wantNumber(t, "SaveStore", 0, code, 0, impl.OK)
		got, code := impl.OpenStore(j)
		wantStore(t, fmt.Sprint("the store ", i), got, code, impl.FlushStore(s), impl.OK)
	}
	j, _ := impl.NewJournal(8)
	j, _ = impl.AddFrames(j, []string{"junk"})
	j, _ = impl.SyncJournal(j)
	got, code := impl.OpenStore(j)
	wantStore(t, "junk", got, code, impl.Store{}, impl.ErrRead)
}

// node is a store with the journal that it was written to.
type node struct {
	j impl.Journal
	s impl.Store
}

// counts is how often something was done.
type counts map[string]int

// wantKept wants the journal to open as what the store has kept.
func (n node) wantKept(t *testing.T, name string, d impl.Disk) {
	t.Helper()
	j, _, code := impl.OpenJournal(d)
	wantNumber(t, name+", opened as a journal", 0, code, 0, impl.OK)
	got, code := impl.OpenStore(j)
	wantStore(t, name, got, code, impl.CrashStore(n.s), impl.OK)
	if t.Failed() {
		t.FailNow()
	}
}

// put changes a state or two, or adds them if there is room.
func (n node) put(r *rand.Rand) node {
	for range 1 + r.IntN(3) {
		x := someStates(r, 1, true)[0]
		if len(n.s.Live) > 0 && r.IntN(3) > 0 {
			x = otherState(r, n.s.Live[r.IntN(len(n.s.Live))])
		}
		if s, code := impl.PutIn(n.s, x); code == impl.OK {
			n.s = s
		}
	}
	return n
}

// lost loses the power in the midst of a flush, and returns what is there then:
// all groups as they were, or all as they are.
func (n node) lost(t *testing.T, r *rand.Rand, did counts) node {
	t.Helper()
	next, code := impl.SaveStore(n.j, n.s)
	if code != impl.OK {
		return node{n.j, impl.CrashStore(n.s)}
	}
	var writes []int
	for at, sector := range next.Disk.Sectors {
		if sector != n.j.Disk.Sectors[at] {
			writes = append(writes, at)
		}
	}
	if next.Gen > n.j.Gen {
		return n.lostInCompaction(t, r, did, next, writes)
	}
	d, left := copiedDisk(n.j.Disk), 0
	for _, at := range writes {
		if r.IntN(3) > 0 {
			d.Sectors[at] = next.Disk.Sectors[at]
			left++
		}
	}
	switch left {
	case len(writes):
		n.s = impl.FlushStore(n.s)
		did["all writes"]++
	case 0:
		did["no write"]++
	default:
		did["some writes"]++
	}
	n.wantKept(t, "after a loss of power", d)
	n.j, _, _ = impl.OpenJournal(d)
	n.s = impl.CrashStore(n.s)
	return n
}

// lostInCompaction loses the power ahead of the head, or behind it.
func (n node) lostInCompaction(t *testing.T, r *rand.Rand, did counts, next impl.Journal, writes []int) node {
	t.Helper()
	d := copiedDisk(n.j.Disk)
	whole := r.IntN(2) == 0
	for _, at := range writes {
		isHead := int64(at) == next.Gen%2
		if whole || !isHead && r.IntN(3) > 0 {
			d.Sectors[at] = next.Disk.Sectors[at]
		}
	}
	if whole {
		n.s = impl.FlushStore(n.s)
		did["compactions"]++
	} else {
		did["compactions lost"]++
	}
	n.wantKept(t, "after a loss of power in a compaction", d)
	n.j, _, _ = impl.OpenJournal(d)
	n.s = impl.CrashStore(n.s)
	return n
}

// saved flushes a store, or gives up what was changed if there is no room.
func (n node) saved(t *testing.T, did counts) node {
	t.Helper()
	next, code := impl.SaveStore(n.j, n.s)
	if code != impl.OK {
		did["no room"]++
		n.s = impl.CrashStore(n.s)
		return n
	}
	n = node{next, impl.FlushStore(n.s)}
	n.wantKept(t, "after a flush", n.j.Disk)
	did["flushes"]++
	return n
}

// P24: what was flushed, and written down, is what is opened again, whatever is
// put afterwards; a crash leaves just that; a loss of power in the midst of a
// flush, with no write torn, leaves all groups as they were, or all as they are.
func TestStoresComeBack(t *testing.T) {
	r := source(194)
	did := counts{}
	for size := int64(8); size < 90; size++ {
		j, _ := impl.NewJournal(size)
		n := node{j: j}
		for range 60 {
			n = n.put(r)
			n.wantKept(t, "before a flush", n.j.Disk)
			switch r.IntN(6) {
			case 0:
				n.s = impl.CrashStore(n.s)
				did["crashes"]++
			case 1, 2:
				n = n.lost(t, r, did)
			default:
				n = n.saved(t, did)
			}
			if !impl.StoreOk(n.s) || !impl.JournalOk(n.j) {
				t.Fatal("the store or the journal is not valid")
			}
		}
	}
	for _, what := range []string{"all writes", "no write", "some writes", "compactions", "compactions lost", "no room", "flushes", "crashes"} {
		if did[what] < 50 {
			t.Errorf("%s: only %d", what, did[what])
		}
	}
}

// P24: whichever of the writes of a flush are lost, all groups are as they were,
// unless none is lost.
func TestEachWriteOfFlushIsNeeded(t *testing.T) {
	r := source(195)
	whole, partly := 0, 0
	for range 60 {
		s := impl.FlushStore(impl.Store{Live: someStates(r, 6, true)})
		j, _ := impl.NewJournal(100)
		j, _ = impl.SaveStore(j, impl.Store{Live: s.Live})
		n := node{j, s}
		for i := range 3 {
			n.s, _ = impl.PutIn(n.s, otherState(r, n.s.Live[2*i]))
		}
		longer, _ := impl.AddFrames(n.j, formsOf(n.s.Live, n.s.Kept))
		staged, code := impl.StageJournal(longer)
		if code != impl.OK || len(staged.Waits) > 9 {
			continue
		}
		saved, code := impl.SaveStore(n.j, n.s)
		wantNumber(t, "SaveStore", 0, code, 0, impl.OK)
		wantDisk(t, "the disk", saved.Disk, 0, impl.FlushDisk(staged), 0)
		for k := range int64(len(staged.Waits)) + 1 {
			for _, keep := range choices(int64(len(staged.Waits)), k) {
				d, _ := impl.PowerLoss(staged, keep, -1)
				if len(keep) == len(staged.Waits) {
					node{n.j, impl.FlushStore(n.s)}.wantKept(t, "all writes", d)
					whole++
					continue
				}
				n.wantKept(t, fmt.Sprint("only the writes ", keep), d)
				partly++
			}
		}
	}
	if whole < 5 || partly < 100 {
		t.Errorf("all writes were there %d times, some %d times", whole, partly)
	}
}
