package tests

import (
	"encoding/binary"
	"fmt"
	"math/rand/v2"
	"slices"
	"strings"
	"testing"

	"loop.example/g00849/impl"
)

func ver(epoch, seq int64) impl.Ver {
	return impl.Ver{Epoch: epoch, Seq: seq}
}

func head(name string, v impl.Ver, size, sum int64) impl.Head {
	return impl.Head{Name: name, Ver: v, Size: size, Sum: sum}
}

func last(client, no int64, v impl.Ver) impl.Last {
	return impl.Last{Client: client, No: no, Ver: v}
}

// chunk returns a sound chunk.
func chunk(name string, v impl.Ver, pos int64, bytes string) impl.Chunk {
	return impl.Chunk{Name: name, Ver: v, Pos: pos, Sum: crcOf(bytes), Bytes: bytes}
}

// The following say what the document says, of one value at a time.

func isVer(v impl.Ver) bool {
	return v.Epoch == 0 && v.Seq == 0 || v.Epoch >= 1 && v.Epoch <= 60 && v.Seq >= 1 && v.Seq <= 1000
}

func isReq(r impl.Req) bool {
	return r.Client == 0 && r.No == 0 || r.Client >= 100 && r.Client <= 105 && r.No >= 1 && r.No <= 1000
}

func isVerBelow(a, b impl.Ver) bool {
	return a.Epoch < b.Epoch || a.Epoch == b.Epoch && a.Seq < b.Seq
}

func isContent(size, sum int64) bool {
	return size >= 0 && size <= 64 && sum >= 0 && sum <= 4294967295
}

func isEntry(e impl.Entry) bool {
	if !isVer(e.Ver) || !isVer(e.Prior) || !isVerBelow(e.Prior, e.Ver) || !isName(e.Name) || !isReq(e.Req) {
		return false
	}
	return isContent(e.Size, e.Sum) && (!e.Gone || e.Size == 0 && e.Sum == 0)
}

func isChunk(c impl.Chunk) bool {
	return isName(c.Name) && isVer(c.Ver) && c.Ver != impl.Ver{} && c.Pos >= 0 && c.Pos <= 6 && isContent(int64(len(c.Bytes)), c.Sum)
}

func isSound(c impl.Chunk) bool {
	return isChunk(c) && crcOf(c.Bytes) == c.Sum
}

// isVerWithin reports whether v may stand in what there was at a version.
func isVerWithin(v, end impl.Ver) bool {
	return isVer(v) && v != impl.Ver{} && !isVerBelow(end, v)
}

func isChunkBelow(a, b impl.Chunk) bool {
	if a.Name != b.Name {
		return a.Name < b.Name
	}
	if a.Ver != b.Ver {
		return isVerBelow(a.Ver, b.Ver)
	}
	return a.Pos < b.Pos
}

func isState(s impl.PgState) bool {
	if s.Pg.Pool < 1 || s.Pg.Pool > 4 || s.Pg.No < 0 || s.Pg.No > 15 || s.Seen < 0 || s.Seen > 60 || s.Started < 0 || s.Started > s.Seen || !isVer(s.Tail) {
		return false
	}
	if len(s.Base) > 16 || len(s.Clients) > 6 || len(s.Log) > 24 || len(s.Chunks) > 160 {
		return false
	}
	for i, h := range s.Base {
		if !isName(h.Name) || !isVerWithin(h.Ver, s.Tail) || !isContent(h.Size, h.Sum) || i > 0 && s.Base[i-1].Name >= h.Name {
			return false
		}
	}
	for i, x := range s.Clients {
		r := impl.Req{Client: x.Client, No: x.No}
		if !isReq(r) || r == (impl.Req{}) || !isVerWithin(x.Ver, s.Tail) || i > 0 && s.Clients[i-1].Client >= x.Client {
			return false
		}
	}
	end := s.Tail
	for i, e := range s.Log {
		if !isEntry(e) || e.Prior != end || len(headsBehind(s.Base, s.Log[:i+1])) > 16 {
			return false
		}
		end = e.Ver
	}
	for i, c := range s.Chunks {
		if !isChunk(c) || i > 0 && !isChunkBelow(s.Chunks[i-1], c) {
			return false
		}
	}
	return isVer(s.Firm) && !isVerBelow(end, s.Firm)
}

// headsBehind returns the heads after the given entries.
func headsBehind(base []impl.Head, entries []impl.Entry) []impl.Head {
	list := slices.Clone(base)
	for _, e := range entries {
		at := 0
		for at < len(list) && list[at].Name < e.Name {
			at++
		}
		if at < len(list) && list[at].Name == e.Name {
			list = slices.Delete(list, at, at+1)
		}
		if !e.Gone {
			list = slices.Insert(list, at, head(e.Name, e.Ver, e.Size, e.Sum))
		}
	}
	return list
}

// lastsBehind returns the last requests after the given entries.
func lastsBehind(clients []impl.Last, entries []impl.Entry) []impl.Last {
	var list []impl.Last
	for client := int64(100); client <= 105; client++ {
		var x impl.Last
		for _, known := range clients {
			if known.Client == client {
				x = known
			}
		}
		for _, e := range entries {
			if e.Req.Client == client {
				x = last(client, e.Req.No, e.Ver)
			}
		}
		if x != (impl.Last{}) {
			list = append(list, x)
		}
	}
	return list
}

// versOf returns the tail and the versions of all entries.
func versOf(s impl.PgState) []impl.Ver {
	list := []impl.Ver{s.Tail}
	for _, e := range s.Log {
		list = append(list, e.Ver)
	}
	return list
}

// strangeVers returns versions that s does not have, some of them not valid,
// and some next to one that it has.
func strangeVers(s impl.PgState) []impl.Ver {
	list := []impl.Ver{{}, ver(61, 1), ver(1, 1001), ver(0, 1), ver(1, 0), ver(-1, -1), ver(60, 1000)}
	for _, v := range versOf(s) {
		list = append(list, ver(v.Epoch, v.Seq+1), ver(v.Epoch, v.Seq-1), ver(v.Epoch+1, v.Seq), ver(v.Epoch-1, v.Seq), ver(v.Seq, v.Epoch))
		list = append(list, ver(v.Epoch+1<<32, v.Seq), ver(v.Epoch, v.Seq+1<<32))
	}
	return slices.DeleteFunc(list, func(v impl.Ver) bool { return slices.Contains(versOf(s), v) })
}

// history returns n entries, one behind the other, that leave at most 16 heads
// at a time of the given number of names.
func history(r *rand.Rand, n, names int) []impl.Entry {
	var list []impl.Entry
	end := impl.Ver{}
	for range n {
		e := impl.Entry{Ver: ver(end.Epoch, end.Seq+1+r.Int64N(3)), Prior: end, Name: fmt.Sprintf("n%d", r.IntN(names)), Size: r.Int64N(65), Sum: r.Int64N(1 << 32)}
		if end.Epoch == 0 || r.IntN(6) == 0 && end.Epoch < 50 {
			e.Ver = ver(end.Epoch+1+r.Int64N(2), 1+r.Int64N(4))
		}
		if r.IntN(4) > 0 {
			e.Req = impl.Req{Client: 100 + r.Int64N(6), No: 1 + r.Int64N(1000)}
		}
		if r.IntN(5) == 0 || len(headsBehind(nil, append(list, e))) > 16 {
			e.Gone, e.Size, e.Sum = true, 0, 0
		}
		list = append(list, e)
		end = e.Ver
	}
	return list
}

// stateOf returns a state whose log is those entries of a history that follow
// the first a, till the first b.
func stateOf(all []impl.Entry, a, b int) impl.PgState {
	s := impl.PgState{Pg: impl.Pg{Pool: 2, No: 5}, Seen: 9, Started: 4, Base: headsBehind(nil, all[:a]), Clients: lastsBehind(nil, all[:a]), Log: slices.Clone(all[a:b])}
	if a > 0 {
		s.Tail = all[a-1].Ver
	}
	return s
}

// someChunks returns chunks, most of them of what the base and the log of s
// name, some of them rotten.
func someChunks(r *rand.Rand, s impl.PgState) []impl.Chunk {
	var list []impl.Chunk
	add := func(name string, v impl.Ver) {
		c := chunk(name, v, r.Int64N(7)*r.Int64N(2), someBytes(r, r.IntN(65)))
		if r.IntN(4) == 0 {
			c.Sum ^= 1 << r.IntN(32)
		}
		list = append(list, c)
	}
	for range r.IntN(3) {
		for _, h := range s.Base {
			add(h.Name, h.Ver)
		}
		for _, e := range s.Log {
			add(e.Name, e.Ver)
		}
	}
	for range r.IntN(9) {
		add(fmt.Sprintf("n%d", r.IntN(9)), ver(1+r.Int64N(3), 1+r.Int64N(9)))
	}
	slices.SortStableFunc(list, func(a, b impl.Chunk) int {
		switch {
		case isChunkBelow(a, b):
			return -1
		case isChunkBelow(b, a):
			return 1
		}
		return 0
	})
	return slices.CompactFunc(list, func(a, b impl.Chunk) bool { return !isChunkBelow(a, b) && !isChunkBelow(b, a) })
}

// someState returns a valid state, often with a trimmed log and often with as
// many heads or entries as there may be.
func someState(r *rand.Rand) impl.PgState {
	b := r.IntN(60)
	if r.IntN(4) == 0 {
		b = r.IntN(4)
	}
	all := history(r, b, 1+r.IntN(30))
	s := stateOf(all, max(b-r.IntN(25), 0), b)
	s.Pg = impl.Pg{Pool: 1 + r.Int64N(4), No: r.Int64N(16)}
	s.Seen = r.Int64N(61)
	s.Started = r.Int64N(s.Seen + 1)
	if n := r.IntN(b + 1); n > 0 {
		s.Firm = all[n-1].Ver
	}
	s.Chunks = someChunks(r, s)
	return s
}

// fullState has as many of everything as there may be, with names of 8 bytes.
func fullState() impl.PgState {
	end := ver(60, 976)
	s := impl.PgState{Pg: impl.Pg{Pool: 4, No: 15}, Seen: 60, Started: 60, Tail: end, Firm: ver(60, 1000)}
	for i := range int64(16) {
		s.Base = append(s.Base, head(fmt.Sprintf("longna%02d", i), ver(60, 961+i), 64, 4294967295))
	}
	for i := range int64(6) {
		s.Clients = append(s.Clients, last(100+i, 1000, ver(60, 971+i)))
	}
	for i := range int64(24) {
		e := impl.Entry{Ver: ver(60, 977+i), Prior: end, Name: fmt.Sprintf("longna%02d", i%16), Size: 64, Sum: 4294967295, Req: impl.Req{Client: 105, No: 1000}}
		s.Log = append(s.Log, e)
		end = e.Ver
	}
	for i := range int64(160) {
		s.Chunks = append(s.Chunks, chunk("longname", ver(40+i/40, 961+i/4), i%4, full('z')))
	}
	return s
}

// sampleState has a trimmed log, with heads that the log changes, removes, and
// leaves, and chunks that it needs and does not need.
func sampleState() impl.PgState {
	return impl.PgState{
		Pg: impl.Pg{Pool: 1, No: 3}, Seen: 5, Started: 4, Tail: ver(2, 3),
		Base:    []impl.Head{head("a", ver(1, 2), 2, crcOf("hi")), head("b", ver(2, 1), 1, 7), head("c", ver(2, 3), 0, 0)},
		Clients: []impl.Last{last(100, 4, ver(1, 2)), last(103, 1, ver(2, 3))},
		Log: []impl.Entry{
			{Ver: ver(2, 4), Prior: ver(2, 3), Name: "b", Size: 3, Sum: 9, Req: impl.Req{Client: 103, No: 2}},
			{Ver: ver(4, 1), Prior: ver(2, 4), Name: "a", Gone: true, Req: impl.Req{Client: 101, No: 8}},
			{Ver: ver(4, 2), Prior: ver(4, 1), Name: "d", Size: 5, Sum: 1},
			{Ver: ver(4, 3), Prior: ver(4, 2), Name: "a", Size: 2, Sum: 3, Req: impl.Req{Client: 100, No: 2}},
		},
		Firm:   ver(4, 1),
		Chunks: []impl.Chunk{chunk("a", ver(1, 2), 0, "hi"), chunk("a", ver(1, 2), 1, "hi"), chunk("a", ver(4, 3), 1, ""), chunk("b", ver(1, 1), 1, "old"), {Name: "b", Ver: ver(2, 1), Pos: 1, Sum: 7, Bytes: "rotten"}, chunk("c", ver(2, 3), 0, "")},
	}
}

// rightStates are valid, each in a way of its own.
func rightStates() []impl.PgState {
	list := []impl.PgState{{Pg: impl.Pg{Pool: 1}}, {Pg: impl.Pg{Pool: 4, No: 15}, Seen: 60}, {Pg: impl.Pg{Pool: 1}, Seen: 60, Started: 60, Tail: ver(60, 1000), Firm: ver(1, 1)}, sampleState(), fullState()}
	// Firm may be ahead of the tail, and no version of the log.
	for _, firm := range []impl.Ver{{}, ver(1, 1), ver(2, 1), ver(2, 3), ver(2, 1000), ver(3, 7), ver(4, 3)} {
		s := sampleState()
		s.Firm = firm
		list = append(list, s)
	}
	r := source(170)
	for range 120 {
		list = append(list, someState(r))
	}
	return list
}

// copiedState returns a state that shares no memory with s.
func copiedState(s impl.PgState) impl.PgState {
	s.Base, s.Clients, s.Log, s.Chunks = slices.Clone(s.Base), slices.Clone(s.Clients), slices.Clone(s.Log), slices.Clone(s.Chunks)
	return s
}

func sameState(a, b impl.PgState) bool {
	return a.Pg == b.Pg && a.Seen == b.Seen && a.Started == b.Started && a.Tail == b.Tail && a.Firm == b.Firm &&
		slices.Equal(a.Base, b.Base) && slices.Equal(a.Clients, b.Clients) && slices.Equal(a.Log, b.Log) && slices.Equal(a.Chunks, b.Chunks)
}

// numbersInState points to all numbers of s.
func numbersInState(s *impl.PgState) []*int64 {
	list := []*int64{&s.Pg.Pool, &s.Pg.No, &s.Seen, &s.Started, &s.Tail.Epoch, &s.Tail.Seq, &s.Firm.Epoch, &s.Firm.Seq}
	for i := range s.Base {
		h := &s.Base[i]
		list = append(list, &h.Ver.Epoch, &h.Ver.Seq, &h.Size, &h.Sum)
	}
	for i := range s.Clients {
		x := &s.Clients[i]
		list = append(list, &x.Client, &x.No, &x.Ver.Epoch, &x.Ver.Seq)
	}
	for i := range s.Log {
		list = append(list, numbersInEntry(&s.Log[i])...)
	}
	for i := range s.Chunks {
		c := &s.Chunks[i]
		list = append(list, &c.Ver.Epoch, &c.Ver.Seq, &c.Pos, &c.Sum)
	}
	return list
}

func numbersInEntry(e *impl.Entry) []*int64 {
	return []*int64{&e.Ver.Epoch, &e.Ver.Seq, &e.Prior.Epoch, &e.Prior.Seq, &e.Size, &e.Sum, &e.Req.Client, &e.Req.No}
}

// textsInState points to all names of s.
func textsInState(s *impl.PgState) []*string {
	var list []*string
	for i := range s.Base {
		list = append(list, &s.Base[i].Name)
	}
	for i := range s.Log {
		list = append(list, &s.Log[i].Name)
	}
	for i := range s.Chunks {
		list = append(list, &s.Chunks[i].Name)
	}
	return list
}

// nearNumbers are the limits of all the numbers of states, and what is beyond
// them.
func nearNumbers() []int64 {
	return append(farNumbers(), -1, 0, 1, 2, 3, 4, 5, 6, 7, 15, 16, 59, 60, 61, 64, 65, 99, 100, 105, 106, 1000, 1001, 4294967295, 4294967296)
}

// changedStates have one number, name or mark of a valid state changed; some of
// them are valid.
func changedStates() []impl.PgState {
	var list []impl.PgState
	for _, s := range []impl.PgState{sampleState(), {Pg: impl.Pg{Pool: 1}}} {
		for i := range numbersInState(&s) {
			for _, n := range nearNumbers() {
				x := copiedState(s)
				*numbersInState(&x)[i] = n
				list = append(list, x)
			}
		}
		for i := range textsInState(&s) {
			for _, name := range []string{"", "a", "aa", "b", "bb", "c", "d", "e", "A", "longname", "longname9", "a\x00", "\xff"} {
				x := copiedState(s)
				*textsInState(&x)[i] = name
				list = append(list, x)
			}
		}
		for i := range s.Log {
			x := copiedState(s)
			x.Log[i].Gone = !x.Log[i].Gone
			list = append(list, x)
		}
	}
	return list
}

// spoiltState returns the sample with something changed.
func spoiltState(turn func(s *impl.PgState)) impl.PgState {
	s := sampleState()
	turn(&s)
	return s
}

// tooFullStates have one more of something than there may be.
func tooFullStates() []impl.PgState {
	heads := fullState()
	heads.Base = append(heads.Base, head("longnb", ver(60, 976), 1, 1))
	tail := copiedState(heads)
	tail.Log, tail.Firm = nil, tail.Tail
	// The first entry removes the head that is one too many.
	gone := copiedState(heads)
	gone.Log[0].Name, gone.Log[0].Gone, gone.Log[0].Size, gone.Log[0].Sum = "longnb", true, 0, 0
	log := fullState()
	log.Tail = ver(60, 975)
	log.Base, log.Clients = nil, nil
	log.Log = slices.Insert(log.Log, 0, impl.Entry{Ver: ver(60, 976), Prior: ver(60, 975), Name: "longna15", Gone: true})
	chunks := fullState()
	chunks.Chunks = append(chunks.Chunks, chunk("longname", ver(60, 1000), 0, ""))
	clients := fullState()
	clients.Clients = append(clients.Clients, last(106, 1, ver(60, 976)))
	twice := fullState()
	twice.Clients = append(twice.Clients, last(105, 1000, ver(60, 976)))
	list := []impl.PgState{heads, tail, gone, log, chunks, clients, twice}
	// One head too many at an entry, also if it is removed later.
	for i := range 24 {
		x := fullState()
		x.Log[i].Name = "longname"
		list = append(list, x)
		if i < 23 {
			x = copiedState(x)
			x.Log[i+1].Name, x.Log[i+1].Gone, x.Log[i+1].Size, x.Log[i+1].Sum = "longname", true, 0, 0
			list = append(list, x)
		}
	}
	return list
}

// wrongStates are not valid, each for a reason of its own.
func wrongStates() []impl.PgState {
	list := append(tooFullStates(),
		impl.PgState{}, impl.PgState{Pg: impl.Pg{No: 1}}, impl.PgState{Pg: impl.Pg{Pool: 5}}, impl.PgState{Pg: impl.Pg{Pool: 1, No: 16}}, impl.PgState{Pg: impl.Pg{Pool: 1}, Started: 1}, impl.PgState{Pg: impl.Pg{Pool: 1}, Seen: 61},
		impl.PgState{Pg: impl.Pg{Pool: 1}, Firm: ver(1, 1)}, impl.PgState{Pg: impl.Pg{Pool: 1}, Base: []impl.Head{head("a", ver(1, 1), 0, 0)}}, impl.PgState{Pg: impl.Pg{Pool: 1}, Base: []impl.Head{head("a", ver(0, 0), 0, 0)}}, impl.PgState{Pg: impl.Pg{Pool: 1}, Clients: []impl.Last{last(100, 1, ver(0, 0))}},
		spoiltState(func(s *impl.PgState) { s.Tail = ver(2, 4) }), spoiltState(func(s *impl.PgState) { s.Tail = ver(2, 2) }), spoiltState(func(s *impl.PgState) { s.Tail = impl.Ver{} }),
		spoiltState(func(s *impl.PgState) { s.Base[0], s.Base[1] = s.Base[1], s.Base[0] }), spoiltState(func(s *impl.PgState) { s.Base[1] = s.Base[0] }), spoiltState(func(s *impl.PgState) { s.Base[1].Ver = ver(2, 4) }), spoiltState(func(s *impl.PgState) { s.Base[1].Ver = impl.Ver{} }),
		spoiltState(func(s *impl.PgState) { s.Clients[0], s.Clients[1] = s.Clients[1], s.Clients[0] }), spoiltState(func(s *impl.PgState) { s.Clients[1].Client = 100 }), spoiltState(func(s *impl.PgState) { s.Clients[1].Ver = ver(2, 4) }), spoiltState(func(s *impl.PgState) { s.Clients[1].Ver = impl.Ver{} }),
		spoiltState(func(s *impl.PgState) { s.Clients[0] = last(0, 0, ver(1, 1)) }), spoiltState(func(s *impl.PgState) { s.Clients[0].No = 0 }),
		spoiltState(func(s *impl.PgState) { s.Log = s.Log[1:] }), spoiltState(func(s *impl.PgState) { s.Log = append(s.Log[:1:1], s.Log[2:]...) }), spoiltState(func(s *impl.PgState) { s.Log[0], s.Log[1] = s.Log[1], s.Log[0] }), spoiltState(func(s *impl.PgState) { s.Log = append(s.Log, impl.Entry{}) }),
		spoiltState(func(s *impl.PgState) { s.Log[1].Size = 1 }), spoiltState(func(s *impl.PgState) { s.Log[1].Sum = 1 }), spoiltState(func(s *impl.PgState) { s.Log[3].Prior = ver(4, 1) }),
		spoiltState(func(s *impl.PgState) { s.Firm = ver(4, 4) }), spoiltState(func(s *impl.PgState) { s.Firm = ver(5, 1) }), spoiltState(func(s *impl.PgState) { s.Firm = ver(0, 1) }), spoiltState(func(s *impl.PgState) { s.Log, s.Firm = nil, ver(2, 4) }),
		spoiltState(func(s *impl.PgState) { s.Chunks[0], s.Chunks[1] = s.Chunks[1], s.Chunks[0] }), spoiltState(func(s *impl.PgState) { s.Chunks[1], s.Chunks[2] = s.Chunks[2], s.Chunks[1] }), spoiltState(func(s *impl.PgState) { s.Chunks[2], s.Chunks[3] = s.Chunks[3], s.Chunks[2] }),
		spoiltState(func(s *impl.PgState) { s.Chunks[1].Pos = 0 }), spoiltState(func(s *impl.PgState) { s.Chunks[0].Bytes = strings.Repeat("l", 65) }), spoiltState(func(s *impl.PgState) { s.Chunks = append(s.Chunks, impl.Chunk{}) }))
	for _, s := range changedStates() {
		if !isState(s) {
			list = append(list, s)
		}
	}
	return list
}

func wantState(t *testing.T, name string, got impl.PgState, code int64, want impl.PgState, wantCode int64) {
	t.Helper()
	if !sameState(got, want) || code != wantCode {
		t.Errorf("%s: %+v, code %d; want %+v, code %d", name, got, code, want, wantCode)
	}
}

func wantList[T comparable](t *testing.T, name string, got []T, code int64, want []T, wantCode int64) {
	t.Helper()
	if !slices.Equal(got, want) || code != wantCode {
		t.Errorf("%s: %v, code %d; want %v, code %d", name, got, code, want, wantCode)
	}
}

// P22: the constants are those of the document.
func TestLogConstants(t *testing.T) {
	wantSame(t, "the constants", []int{impl.MaxLog, impl.KeepLog, impl.MaxHeads, impl.MaxChunks, impl.MaxClients, impl.FirstClient, impl.MaxSeq}, []int{24, 4, 16, 160, 6, 100, 1000})
}

// P22: of two versions that are not alike one is less, whether they are valid or
// not.
func TestVerLess(t *testing.T) {
	wantOk(t, "{1, 2} and {2, 1}", impl.VerLess(ver(1, 2), ver(2, 1)), true)
	var list []impl.Ver
	for _, a := range anyNumbers() {
		for _, b := range anyNumbers() {
			list = append(list, ver(a, b))
		}
	}
	for _, a := range list {
		for _, b := range list {
			less, more := impl.VerLess(a, b), impl.VerLess(b, a)
			if less != isVerBelow(a, b) || less && more || (a != b) != (less || more) {
				t.Fatalf("%v and %v: less %v, more %v", a, b, less, more)
			}
		}
	}
}

// P22: an entry is valid as the document has it.
func TestEntryOk(t *testing.T) {
	right, wrong := 0, 0
	for _, e := range someEntries() {
		is := isEntry(e)
		wantOk(t, fmt.Sprintf("EntryOk(%+v)", e), impl.EntryOk(e), is)
		if is {
			right++
		} else {
			wrong++
		}
	}
	if right < 500 || wrong < 1000 {
		t.Errorf("only %d right and %d wrong entries", right, wrong)
	}
	for _, name := range rightNames() {
		wantOk(t, name, impl.EntryOk(impl.Entry{Ver: ver(1, 1), Name: name}), true)
	}
	for _, name := range wrongNames() {
		wantOk(t, name, impl.EntryOk(impl.Entry{Ver: ver(1, 1), Name: name}), false)
		wantOk(t, name, impl.EntryOk(impl.Entry{Ver: ver(1, 1), Name: name, Gone: true}), false)
	}
}

// someEntries returns entries with one number or two changed, some of them
// valid.
func someEntries() []impl.Entry {
	var list []impl.Entry
	for _, e := range append(sampleState().Log, impl.Entry{Ver: ver(1, 1), Name: "a"}, impl.Entry{Ver: ver(60, 1000), Prior: ver(60, 999), Name: "longname", Size: 64, Sum: 4294967295, Req: impl.Req{Client: 105, No: 1000}}) {
		list = append(list, e)
		for i := range numbersInEntry(&e) {
			for j := range i + 1 {
				for _, n := range nearNumbers() {
					x := e
					*numbersInEntry(&x)[i], *numbersInEntry(&x)[j] = n, n
					y := x
					y.Gone = !y.Gone
					list = append(list, x, y)
				}
			}
		}
	}
	return list
}

// P23: a chunk is valid as the document has it, and sound if its bytes have its
// checksum.
func TestChunkOk(t *testing.T) {
	wantOk(t, "the zero chunk", impl.ChunkOk(impl.Chunk{}), false)
	wantOk(t, "the zero chunk's soundness", impl.SoundChunk(impl.Chunk{}), false)
	right, wrong, sound := 0, 0, 0
	for _, c := range manyChunks() {
		wantOk(t, fmt.Sprintf("ChunkOk(%+v)", c), impl.ChunkOk(c), isChunk(c))
		wantOk(t, fmt.Sprintf("SoundChunk(%+v)", c), impl.SoundChunk(c), isSound(c))
		switch {
		case isSound(c):
			sound++
		case isChunk(c):
			right++
		default:
			wrong++
		}
	}
	if right < 100 || wrong < 100 || sound < 100 {
		t.Errorf("only %d sound, %d rotten and %d wrong chunks", sound, right, wrong)
	}
}

// manyChunks returns chunks of all sorts.
func manyChunks() []impl.Chunk {
	var list []impl.Chunk
	for n := range 67 {
		c := chunk("a", ver(1, 1), 3, strings.Repeat("b", n))
		list = append(list, c)
		c.Sum ^= 1
		list = append(list, c)
	}
	c := chunk("a", ver(1, 1), 3, "abc")
	for _, n := range append(nearNumbers(), c.Sum, c.Sum+1<<32, c.Sum-1<<32) {
		for i := range 4 {
			x := c
			*[]*int64{&x.Ver.Epoch, &x.Ver.Seq, &x.Pos, &x.Sum}[i] = n
			list = append(list, x)
			x.Ver = impl.Ver{Epoch: n, Seq: n}
			list = append(list, x)
		}
	}
	for _, name := range append(rightNames(), wrongNames()...) {
		list = append(list, chunk(name, ver(60, 1000), 6, "c"))
	}
	for i := range c.Bytes {
		for b := range 256 {
			x := c
			x.Bytes = x.Bytes[:i] + string([]byte{byte(b)}) + x.Bytes[i+1:]
			list = append(list, x)
		}
	}
	return list
}

// P22, P23: what the document allows is valid, and nothing else.
func TestStateOk(t *testing.T) {
	for i, s := range rightStates() {
		wantOk(t, fmt.Sprint("the right state ", i), impl.StateOk(s), true)
		wantOk(t, fmt.Sprint("isState of the right state ", i), isState(s), true)
	}
	for i, s := range wrongStates() {
		wantOk(t, fmt.Sprint("the wrong state ", i), impl.StateOk(s), false)
		wantOk(t, fmt.Sprint("isState of the wrong state ", i), isState(s), false)
	}
	right := 0
	for _, s := range changedStates() {
		wantOk(t, fmt.Sprintf("StateOk(%+v)", s), impl.StateOk(s), isState(s))
		if isState(s) {
			right++
		}
	}
	if right < 300 {
		t.Errorf("only %d of the changed states are valid", right)
	}
}

// P22: a new state is valid and empty.
func TestNewState(t *testing.T) {
	for pool := int64(-1); pool <= 6; pool++ {
		for no := int64(-1); no <= 17; no++ {
			g := impl.Pg{Pool: pool, No: no}
			s := impl.NewState(g)
			is := pool >= 1 && pool <= 4 && no >= 0 && no <= 15
			want := impl.PgState{}
			if is {
				want.Pg = g
			}
			wantState(t, fmt.Sprint("NewState of ", g), s, impl.OK, want, impl.OK)
			wantOk(t, fmt.Sprint("StateOk of the new state of ", g), impl.StateOk(s), is)
		}
	}
	for _, n := range farNumbers() {
		wantState(t, "NewState", impl.NewState(impl.Pg{Pool: n}), 0, impl.PgState{}, 0)
		wantState(t, "NewState", impl.NewState(impl.Pg{Pool: 1, No: n}), 0, impl.PgState{}, 0)
	}
}

// P22: the last version is that of the last entry, or the tail.
func TestLastOf(t *testing.T) {
	for _, s := range rightStates() {
		list := versOf(s)
		if got := impl.LastOf(s); got != list[len(list)-1] {
			t.Errorf("LastOf: %v; want %v", got, list[len(list)-1])
		}
	}
	for _, s := range wrongStates() {
		if got := impl.LastOf(s); got != (impl.Ver{}) {
			t.Errorf("LastOf of a wrong state: %v", got)
		}
	}
}

// P22: the document's example of heads, and a log that was trimmed.
func TestHeadsOfExamples(t *testing.T) {
	s := impl.NewState(impl.Pg{Pool: 1})
	s, _ = impl.AddEntry(s, impl.Entry{Ver: ver(1, 1), Name: "a", Size: 2, Sum: 5})
	s, _ = impl.AddEntry(s, impl.Entry{Ver: ver(1, 2), Prior: ver(1, 1), Name: "a", Gone: true})
	for _, x := range []struct {
		v    impl.Ver
		want []impl.Head
		code int64
	}{
		{ver(0, 0), nil, impl.OK}, {ver(1, 1), []impl.Head{head("a", ver(1, 1), 2, 5)}, impl.OK}, {ver(1, 2), nil, impl.OK}, {ver(9, 9), nil, impl.ErrNone}, {ver(1, 3), nil, impl.ErrNone}, {ver(-1, 1), nil, impl.ErrNone},
	} {
		got, code := impl.HeadsAt(s, x.v)
		wantList(t, fmt.Sprint("the example at ", x.v), got, code, x.want, x.code)
	}
	s = sampleState()
	a, b, c := s.Base[0], s.Base[1], s.Base[2]
	d := head("d", ver(4, 2), 5, 1)
	changed := head("b", ver(2, 4), 3, 9)
	for i, want := range [][]impl.Head{{a, b, c}, {a, changed, c}, {changed, c}, {changed, c, d}, {head("a", ver(4, 3), 2, 3), changed, c, d}} {
		got, code := impl.HeadsAt(s, versOf(s)[i])
		wantList(t, fmt.Sprint("the sample at ", versOf(s)[i]), got, code, want, impl.OK)
	}
	for i, want := range [][]impl.Last{
		{last(100, 4, ver(1, 2)), last(103, 1, ver(2, 3))},
		{last(100, 4, ver(1, 2)), last(103, 2, ver(2, 4))},
		{last(100, 4, ver(1, 2)), last(101, 8, ver(4, 1)), last(103, 2, ver(2, 4))},
		{last(100, 4, ver(1, 2)), last(101, 8, ver(4, 1)), last(103, 2, ver(2, 4))},
		{last(100, 2, ver(4, 3)), last(101, 8, ver(4, 1)), last(103, 2, ver(2, 4))},
	} {
		got, code := impl.ClientsAt(s, versOf(s)[i])
		wantList(t, fmt.Sprint("the sample at ", versOf(s)[i]), got, code, want, impl.OK)
	}
	_, code := impl.HeadsAt(s, impl.Ver{})
	wantNumber(t, "the zero version of a trimmed log", 0, code, 0, impl.ErrNone)
	_, code = impl.HeadsAt(s, ver(2, 1))
	wantNumber(t, "a version that was trimmed", 0, code, 0, impl.ErrNone)
}

// P22: heads and last requests at each version are those of the base and of the
// entries up to it; there are none at a version that is not there, nor in a state
// that is not valid.
func TestHeadsAndClientsAt(t *testing.T) {
	for _, s := range rightStates() {
		for n, v := range versOf(s) {
			heads, code := impl.HeadsAt(s, v)
			wantList(t, "HeadsAt", heads, code, headsBehind(s.Base, s.Log[:n]), impl.OK)
			lasts, code := impl.ClientsAt(s, v)
			wantList(t, "ClientsAt", lasts, code, lastsBehind(s.Clients, s.Log[:n]), impl.OK)
		}
		for _, v := range strangeVers(s) {
			heads, code := impl.HeadsAt(s, v)
			wantList(t, "HeadsAt a strange version", heads, code, nil, impl.ErrNone)
			lasts, code := impl.ClientsAt(s, v)
			wantList(t, "ClientsAt a strange version", lasts, code, nil, impl.ErrNone)
		}
	}
	for _, s := range wrongStates() {
		for _, v := range []impl.Ver{s.Tail, {}, ver(9, 9), ver(2, 4)} {
			heads, code := impl.HeadsAt(s, v)
			wantList(t, "HeadsAt in a wrong state", heads, code, nil, impl.ErrForm)
			lasts, code := impl.ClientsAt(s, v)
			wantList(t, "ClientsAt in a wrong state", lasts, code, nil, impl.ErrForm)
		}
	}
}

// P22: the heads behind an entry are those ahead of it, but for that of its name.
func TestHeadsBehindAnEntry(t *testing.T) {
	for _, s := range rightStates() {
		for _, e := range s.Log {
			ahead, _ := impl.HeadsAt(s, e.Prior)
			behind, _ := impl.HeadsAt(s, e.Ver)
			isOther := func(h impl.Head) bool { return h.Name != e.Name }
			var own []impl.Head
			for _, h := range behind {
				if !isOther(h) {
					own = append(own, h)
				}
			}
			if e.Gone {
				wantList(t, "the head of what is gone", own, 0, nil, 0)
			} else {
				wantList(t, "the head of what was set", own, 0, []impl.Head{head(e.Name, e.Ver, e.Size, e.Sum)}, 0)
			}
			isOwn := func(h impl.Head) bool { return !isOther(h) }
			wantList(t, "the other heads", slices.DeleteFunc(behind, isOwn), 0, slices.DeleteFunc(ahead, isOwn), 0)
		}
	}
}

// cutFrom returns s without what follows its first n entries.
func cutFrom(s impl.PgState, n int) impl.PgState {
	s = copiedState(s)
	s.Log = s.Log[:n]
	if end := versOf(s)[n]; isVerBelow(end, s.Firm) {
		s.Firm = end
	}
	return s
}

// trimmedFrom returns s without its first entries, one by one, as long as the
// document removes them.
func trimmedFrom(s impl.PgState) impl.PgState {
	s = copiedState(s)
	for len(s.Log) > 4 && !isVerBelow(s.Firm, s.Log[0].Ver) {
		s.Base = headsBehind(s.Base, s.Log[:1])
		s.Clients = lastsBehind(s.Clients, s.Log[:1])
		s.Tail = s.Log[0].Ver
		s.Log = s.Log[1:]
	}
	return s
}

// P22: a log that is cut has the entries up to a version that it has, and is
// firm no further.
func TestCutLog(t *testing.T) {
	lowered, kept := 0, 0
	for _, s := range rightStates() {
		for n, v := range versOf(s) {
			got, code := impl.CutLog(s, v)
			wantState(t, fmt.Sprint("CutLog at ", v), got, code, cutFrom(s, n), impl.OK)
			wantOk(t, "StateOk of a cut state", impl.StateOk(got), true)
			if got.Firm != s.Firm {
				lowered++
			} else {
				kept++
			}
		}
		for _, v := range strangeVers(s) {
			got, code := impl.CutLog(s, v)
			wantState(t, fmt.Sprint("CutLog at the strange ", v), got, code, impl.PgState{}, impl.ErrNone)
		}
	}
	for _, s := range wrongStates() {
		for _, v := range []impl.Ver{s.Tail, {}, ver(9, 9), ver(2, 4)} {
			got, code := impl.CutLog(s, v)
			wantState(t, "CutLog of a wrong state", got, code, impl.PgState{}, impl.ErrForm)
		}
	}
	if lowered < 100 || kept < 100 {
		t.Errorf("Firm was lowered only %d times and kept only %d times", lowered, kept)
	}
}

// P22: an entry is added behind the last one, if there is room for it and for its
// head.
func TestAddEntry(t *testing.T) {
	r := source(171)
	for range 40 {
		all := history(r, 60, 1+r.IntN(30))
		for a := range 60 {
			for b := a; b < min(a+24, 60); b += 1 + r.IntN(8) {
				s := stateOf(all, a, b)
				got, code := impl.AddEntry(s, all[b])
				wantState(t, "AddEntry", got, code, stateOf(all, a, b+1), impl.OK)
			}
			if a+24 < 60 {
				got, code := impl.AddEntry(stateOf(all, a, a+24), all[a+24])
				wantState(t, "AddEntry to a full log", got, code, impl.PgState{}, impl.ErrMany)
			}
		}
	}
	s := fullState()
	s.Log = s.Log[:20]
	s.Firm = s.Log[19].Ver
	e := impl.Entry{Ver: ver(60, 998), Prior: ver(60, 996), Name: "a"}
	got, code := impl.AddEntry(s, e)
	wantState(t, "a head too many", got, code, impl.PgState{}, impl.ErrMany)
	for _, x := range []impl.Entry{{Ver: e.Ver, Prior: e.Prior, Name: "a", Gone: true}, {Ver: e.Ver, Prior: e.Prior, Name: "longna00"}, {Ver: e.Ver, Prior: e.Prior, Name: "longna15", Gone: true}} {
		want := copiedState(s)
		want.Log = append(want.Log, x)
		got, code = impl.AddEntry(s, x)
		wantState(t, fmt.Sprint("no head more with ", x), got, code, want, impl.OK)
	}
	s.Base = s.Base[1:]
	s.Log[0].Gone, s.Log[0].Size, s.Log[0].Sum = true, 0, 0
	s.Log[16].Gone, s.Log[16].Size, s.Log[16].Sum = true, 0, 0
	want := copiedState(s)
	want.Log = append(want.Log, e)
	got, code = impl.AddEntry(s, e)
	wantState(t, "the sixteenth head", got, code, want, impl.OK)
}

// P22: the errors of AddEntry come in the document's order.
func TestAddEntryErrors(t *testing.T) {
	s := fullState()
	e := impl.Entry{Ver: ver(60, 1000), Prior: ver(60, 999), Name: "a"}
	got, code := impl.AddEntry(s, e)
	wantState(t, "a full log, and another Prior", got, code, impl.PgState{}, impl.ErrState)
	s = sampleState()
	for i, x := range someEntries() {
		got, code := impl.AddEntry(s, x)
		switch {
		case !isEntry(x):
			wantState(t, fmt.Sprint("AddEntry of the wrong ", x), got, code, impl.PgState{}, impl.ErrForm)
		case x.Prior != ver(4, 3):
			wantState(t, fmt.Sprint("AddEntry of the strange ", x), got, code, impl.PgState{}, impl.ErrState)
		}
		x.Prior = ver(4, 3)
		if i%2 == 0 {
			x.Ver = ver(4, 4)
		}
		got, code = impl.AddEntry(s, x)
		if !isEntry(x) {
			wantState(t, fmt.Sprint("AddEntry of the wrong ", x), got, code, impl.PgState{}, impl.ErrForm)
			continue
		}
		want := copiedState(s)
		want.Log = append(want.Log, x)
		wantState(t, fmt.Sprint("AddEntry of ", x), got, code, want, impl.OK)
	}
	e = impl.Entry{Ver: ver(2, 4), Prior: ver(2, 3), Name: "a"}
	for _, v := range strangeVers(s) {
		e.Prior, e.Ver = v, ver(60, 1000)
		got, code = impl.AddEntry(s, e)
		if isEntry(e) {
			wantState(t, fmt.Sprint("behind ", v), got, code, impl.PgState{}, impl.ErrState)
		}
	}
	for _, s := range wrongStates() {
		for _, x := range []impl.Entry{e, {}, {Ver: ver(60, 1000), Prior: ver(4, 3), Name: "a"}} {
			got, code = impl.AddEntry(s, x)
			wantState(t, "AddEntry to a wrong state", got, code, impl.PgState{}, impl.ErrForm)
		}
	}
}

// P22: a log loses what is committed at its start, down to KeepLog entries.
func TestTrimLog(t *testing.T) {
	all := history(source(172), 8, 3)
	s := stateOf(all, 0, 8)
	s.Firm = all[7].Ver
	got := impl.TrimLog(s)
	want := stateOf(all, 4, 8)
	want.Firm = all[7].Ver
	wantState(t, "the example", got, 0, want, 0)
	trimmed := 0
	for _, s := range rightStates() {
		for _, firm := range slices.Concat(versOf(s), []impl.Ver{{}, s.Firm, ver(1, 1), ver(s.Tail.Epoch, s.Tail.Seq+1)}) {
			s.Firm = firm
			if !isState(s) {
				continue
			}
			got := impl.TrimLog(s)
			wantState(t, fmt.Sprint("TrimLog, firm up to ", firm), got, 0, trimmedFrom(s), 0)
			wantOk(t, "StateOk of a trimmed state", impl.StateOk(got), true)
			wantState(t, "trimmed twice", impl.TrimLog(got), 0, got, 0)
			if len(got.Log) < len(s.Log) {
				trimmed++
			}
		}
	}
	if trimmed < 300 {
		t.Errorf("only %d logs were trimmed", trimmed)
	}
	for _, s := range wrongStates() {
		wantState(t, "TrimLog of a wrong state", impl.TrimLog(s), 0, impl.PgState{}, 0)
	}
}

// P22: how many entries are trimmed, for every length of the log and every
// version that is firm.
func TestTrimLogLimits(t *testing.T) {
	all := history(source(173), 50, 30)
	for n := range 25 {
		for firm := range n + 1 {
			s := stateOf(all, 20, 20+n)
			s.Firm = versOf(s)[firm]
			trims := max(min(firm, n-4), 0)
			want := stateOf(all, 20+trims, 20+n)
			want.Firm = s.Firm
			wantState(t, fmt.Sprint(n, " entries, of which firm: ", firm), impl.TrimLog(s), 0, want, 0)
		}
	}
	// What is firm need not be a version of the log.
	s := stateOf(all, 20, 40)
	for n, v := range versOf(s) {
		s.Firm = ver(v.Epoch, v.Seq+1)
		if isState(s) && !slices.Contains(versOf(s), s.Firm) {
			want := stateOf(all, 20+min(n, 16), 40)
			want.Firm = s.Firm
			wantState(t, fmt.Sprint("firm behind ", v), impl.TrimLog(s), 0, want, 0)
		}
	}
}

// P22: a state has the log of another, and all else of its own.
func TestTakeLog(t *testing.T) {
	list := rightStates()
	for i, s := range list {
		for _, x := range append(list[:12], list[(i*7+3)%len(list)]) {
			want := copiedState(x)
			want.Pg, want.Seen, want.Started, want.Chunks = s.Pg, s.Seen, s.Started, s.Chunks
			got := impl.TakeLog(s, x)
			wantState(t, "TakeLog", got, 0, want, 0)
			wantOk(t, "StateOk with another log", impl.StateOk(got), true)
		}
	}
	for _, s := range wrongStates() {
		wantState(t, "TakeLog by a wrong state", impl.TakeLog(s, sampleState()), 0, impl.PgState{}, 0)
		wantState(t, "TakeLog of a wrong state", impl.TakeLog(sampleState(), s), 0, impl.PgState{}, 0)
	}
}

// P22: a log that is cut, trimmed or taken keeps heads and last requests at each
// entry that it still has.
func TestLogsKeepHeads(t *testing.T) {
	r := source(174)
	for _, s := range rightStates() {
		got := s
		for range 6 {
			switch list := versOf(got); r.IntN(4) {
			case 0:
				got, _ = impl.CutLog(got, list[len(list)-1-r.IntN(min(len(list), 3))])
			case 1:
				got.Firm = impl.LastOf(got)
				got = impl.TrimLog(got)
			case 2:
				got = impl.TakeLog(sampleState(), got)
			case 3:
				got = impl.DropChunks(impl.NoticeOf(got), r.Int64N(7))
			}
			for _, v := range versOf(got) {
				heads, code := impl.HeadsAt(got, v)
				want, _ := impl.HeadsAt(s, v)
				wantList(t, fmt.Sprint("heads at ", v), heads, code, want, impl.OK)
				lasts, code := impl.ClientsAt(got, v)
				wantLast, _ := impl.ClientsAt(s, v)
				wantList(t, fmt.Sprint("last requests at ", v), lasts, code, wantLast, impl.OK)
			}
		}
	}
}

// chunkPut returns chunks with c among them.
func chunkPut(list []impl.Chunk, c impl.Chunk) []impl.Chunk {
	at := 0
	for at < len(list) && isChunkBelow(list[at], c) {
		at++
	}
	if at < len(list) && !isChunkBelow(c, list[at]) {
		return slices.Replace(slices.Clone(list), at, at+1, c)
	}
	return slices.Insert(slices.Clone(list), at, c)
}

// P23: a chunk that is put is there, in place of one at its spot.
func TestPutChunk(t *testing.T) {
	r := source(175)
	replaced, added := 0, 0
	for _, s := range append(rightStates(), impl.NewState(impl.Pg{Pool: 1})) {
		for _, c := range append(someChunks(r, s), s.Chunks...) {
			if r.IntN(2) == 0 {
				c = chunk(c.Name, c.Ver, c.Pos, "new")
			}
			got, code := impl.PutChunk(s, c)
			if _, has := impl.ChunkOf(s, c.Name, c.Ver, c.Pos); !has && len(s.Chunks) == 160 {
				continue
			}
			want := copiedState(s)
			want.Chunks = chunkPut(s.Chunks, c)
			wantState(t, fmt.Sprint("PutChunk of ", c), got, code, want, impl.OK)
			wantOk(t, "StateOk with one more chunk", impl.StateOk(got), true)
			found, has := impl.ChunkOf(got, c.Name, c.Ver, c.Pos)
			wantSame(t, "the chunk that was put", []any{found, has}, []any{c, true})
			if len(want.Chunks) == len(s.Chunks) {
				replaced++
			} else {
				added++
			}
		}
	}
	if replaced < 300 || added < 300 {
		t.Errorf("only %d chunks were replaced and %d were added", replaced, added)
	}
}

// P23: a chunk has its place by its name, then its version, then its position.
func TestPutChunkOrder(t *testing.T) {
	r := source(176)
	var list []impl.Chunk
	for _, name := range []string{"0", "9a", "a", "a0", "aa", "b", "z9"} {
		for _, v := range []impl.Ver{ver(1, 2), ver(1, 3), ver(2, 1), ver(10, 1)} {
			for _, pos := range []int64{0, 3, 6} {
				list = append(list, chunk(name, v, pos, name))
			}
		}
	}
	for range 20 {
		s := impl.NewState(impl.Pg{Pool: 3})
		for _, i := range r.Perm(len(list)) {
			s, _ = impl.PutChunk(s, list[i])
		}
		wantSame(t, "the chunks", s.Chunks, list)
	}
}

// P23: the limit of chunks, and what is not valid.
func TestPutChunkErrors(t *testing.T) {
	s := fullState()
	for _, c := range []impl.Chunk{chunk("a", ver(1, 1), 0, ""), chunk("longname", ver(40, 961), 4, "a"), chunk("zz", ver(60, 1000), 6, "a")} {
		got, code := impl.PutChunk(s, c)
		wantState(t, fmt.Sprint("one more: ", c), got, code, impl.PgState{}, impl.ErrMany)
		less := copiedState(s)
		less.Chunks = slices.Delete(less.Chunks, 70, 71)
		want := copiedState(less)
		want.Chunks = chunkPut(less.Chunks, c)
		got, code = impl.PutChunk(less, c)
		wantState(t, fmt.Sprint("the last one: ", c), got, code, want, impl.OK)
	}
	for i, c := range s.Chunks {
		c.Bytes = "other"
		want := copiedState(s)
		want.Chunks[i] = c
		got, code := impl.PutChunk(s, c)
		wantState(t, "one of a full state", got, code, want, impl.OK)
	}
	for _, c := range manyChunks() {
		if !isChunk(c) {
			for _, x := range []impl.PgState{s, sampleState(), {}} {
				got, code := impl.PutChunk(x, c)
				wantState(t, fmt.Sprint("the wrong ", c), got, code, impl.PgState{}, impl.ErrForm)
			}
		}
	}
	for _, x := range wrongStates() {
		got, code := impl.PutChunk(x, chunk("a", ver(1, 1), 0, ""))
		wantState(t, "PutChunk to a wrong state", got, code, impl.PgState{}, impl.ErrForm)
	}
}

// P23: a chunk is found by its name, version and position, and no other is.
func TestChunkOf(t *testing.T) {
	for _, s := range rightStates() {
		for _, c := range s.Chunks {
			got, ok := impl.ChunkOf(s, c.Name, c.Ver, c.Pos)
			wantSame(t, "ChunkOf", []any{got, ok}, []any{c, true})
			for _, x := range []impl.Chunk{{Name: c.Name + "a", Ver: c.Ver, Pos: c.Pos}, {Name: c.Name[1:], Ver: c.Ver, Pos: c.Pos}, {Name: c.Name, Ver: ver(c.Ver.Epoch, c.Ver.Seq+1), Pos: c.Pos}, {Name: c.Name, Ver: ver(c.Ver.Epoch-1, c.Ver.Seq), Pos: c.Pos}, {Name: c.Name, Ver: c.Ver, Pos: c.Pos + 1}, {Name: c.Name, Ver: c.Ver, Pos: c.Pos - 1}, {Name: c.Name, Ver: c.Ver, Pos: c.Pos + 1<<32}} {
				got, ok := impl.ChunkOf(s, x.Name, x.Ver, x.Pos)
				var want impl.Chunk
				for _, other := range s.Chunks {
					if other.Name == x.Name && other.Ver == x.Ver && other.Pos == x.Pos {
						want = other
					}
				}
				wantSame(t, "ChunkOf", []any{got, ok}, []any{want, want != impl.Chunk{}})
			}
		}
		got, ok := impl.ChunkOf(s, "", impl.Ver{}, 0)
		wantSame(t, "ChunkOf nothing", []any{got, ok}, []any{impl.Chunk{}, false})
	}
	for _, s := range wrongStates() {
		for _, c := range append(s.Chunks, chunk("a", ver(1, 1), 0, "")) {
			got, ok := impl.ChunkOf(s, c.Name, c.Ver, c.Pos)
			wantSame(t, "ChunkOf a wrong state", []any{got, ok}, []any{impl.Chunk{}, false})
		}
	}
}

// isNeeded reports whether c is of a head of the base or of an entry that is not
// gone.
func isNeeded(s impl.PgState, c impl.Chunk) bool {
	for _, h := range s.Base {
		if h.Name == c.Name && h.Ver == c.Ver {
			return true
		}
	}
	for _, e := range s.Log {
		if e.Name == c.Name && e.Ver == c.Ver && !e.Gone {
			return true
		}
	}
	return false
}

// P23: what the base and the log need at a position is kept, sound or not, and
// nothing else is.
func TestDropChunks(t *testing.T) {
	s := sampleState()
	s.Chunks = []impl.Chunk{
		chunk("a", ver(1, 2), 0, ""), chunk("a", ver(1, 2), 1, ""), chunk("a", ver(4, 1), 1, ""), chunk("a", ver(4, 3), 1, ""), chunk("a", ver(4, 3), 2, ""),
		chunk("b", ver(2, 1), 1, ""), {Name: "b", Ver: ver(2, 4), Pos: 1, Sum: 1}, chunk("b", ver(2, 5), 1, ""), chunk("c", ver(2, 4), 1, ""), chunk("d", ver(4, 2), 1, ""), chunk("e", ver(2, 1), 1, ""),
	}
	want := copiedState(s)
	want.Chunks = []impl.Chunk{s.Chunks[1], s.Chunks[3], s.Chunks[5], s.Chunks[6], s.Chunks[9]}
	wantState(t, "the sample at 1", impl.DropChunks(s, 1), 0, want, 0)
	kept, dropped := 0, 0
	for _, s := range rightStates() {
		for _, pos := range append(farNumbers(), -1, 0, 1, 2, 3, 4, 5, 6, 7) {
			want := copiedState(s)
			want.Chunks = nil
			for _, c := range s.Chunks {
				if c.Pos == pos && isNeeded(s, c) {
					want.Chunks = append(want.Chunks, c)
					kept++
				} else if c.Pos == pos {
					dropped++
				}
			}
			got := impl.DropChunks(s, pos)
			wantState(t, fmt.Sprint("DropChunks at ", pos), got, 0, want, 0)
			for _, v := range versOf(s) {
				before, _ := impl.LacksAt(s, v, pos)
				after, _ := impl.LacksAt(got, v, pos)
				wantList(t, fmt.Sprint("what is lacking at ", v), after, 0, before, 0)
			}
		}
	}
	if kept < 200 || dropped < 200 {
		t.Errorf("only %d chunks were kept, and only %d were dropped at the position itself", kept, dropped)
	}
	for _, s := range wrongStates() {
		wantState(t, "DropChunks of a wrong state", impl.DropChunks(s, 1), 0, impl.PgState{}, 0)
	}
}

// lackingIn returns those heads of which s has no sound chunk at a position.
func lackingIn(s impl.PgState, heads []impl.Head, pos int64) []impl.Head {
	return slices.DeleteFunc(slices.Clone(heads), func(h impl.Head) bool {
		return slices.ContainsFunc(s.Chunks, func(c impl.Chunk) bool {
			return c.Name == h.Name && c.Ver == h.Ver && c.Pos == pos && isSound(c)
		})
	})
}

// P23: the heads without a sound chunk at a position, as of each version.
func TestLacksAt(t *testing.T) {
	s := sampleState()
	got, code := impl.LacksAt(s, ver(2, 3), 0)
	wantList(t, "the sample at its tail, at 0", got, code, []impl.Head{head("b", ver(2, 1), 1, 7)}, impl.OK)
	got, code = impl.LacksAt(s, ver(2, 3), 1)
	wantList(t, "the sample at its tail, at 1", got, code, []impl.Head{head("b", ver(2, 1), 1, 7), head("c", ver(2, 3), 0, 0)}, impl.OK)
	got, code = impl.LacksAt(s, ver(4, 3), 1)
	wantList(t, "the sample at its end, at 1", got, code, []impl.Head{head("b", ver(2, 4), 3, 9), head("c", ver(2, 3), 0, 0), head("d", ver(4, 2), 5, 1)}, impl.OK)
	lacking, there := 0, 0
	for _, s := range rightStates() {
		for n, v := range versOf(s) {
			for _, pos := range append(farNumbers(), -1, 0, 1, 3, 6, 7) {
				heads := headsBehind(s.Base, s.Log[:n])
				want := lackingIn(s, heads, pos)
				got, code := impl.LacksAt(s, v, pos)
				wantList(t, "LacksAt", got, code, want, impl.OK)
				lacking += len(want)
				there += len(heads) - len(want)
			}
		}
		for _, v := range strangeVers(s) {
			got, code := impl.LacksAt(s, v, 0)
			wantList(t, "LacksAt a strange version", got, code, nil, impl.ErrNone)
		}
	}
	if lacking < 1000 || there < 300 {
		t.Errorf("only %d heads are lacking, and only %d are there", lacking, there)
	}
	for _, s := range wrongStates() {
		for _, v := range []impl.Ver{s.Tail, {}, ver(9, 9), ver(2, 4)} {
			got, code := impl.LacksAt(s, v, 0)
			wantList(t, "LacksAt in a wrong state", got, code, nil, impl.ErrForm)
		}
	}
}

// P23: a notice has the sound chunks, without their bytes, and all else.
func TestNoticeOf(t *testing.T) {
	rotten := 0
	for _, s := range rightStates() {
		want := copiedState(s)
		want.Chunks = nil
		for _, c := range s.Chunks {
			if isSound(c) {
				c.Bytes = ""
				want.Chunks = append(want.Chunks, c)
			} else {
				rotten++
			}
		}
		got := impl.NoticeOf(s)
		wantState(t, "NoticeOf", got, 0, want, 0)
		wantOk(t, "StateOk of a notice", impl.StateOk(got), true)
	}
	if rotten < 200 {
		t.Errorf("only %d chunks are rotten", rotten)
	}
	for _, s := range wrongStates() {
		wantState(t, "NoticeOf a wrong state", impl.NoticeOf(s), 0, impl.PgState{}, 0)
	}
}

// formOfState returns the binary form of s, number by number.
func formOfState(s impl.PgState) string {
	var form []byte
	put := func(list ...int64) {
		for _, n := range list {
			form = binary.AppendUvarint(form, uint64(n))
		}
	}
	name := func(text string) { form = append(form, putText(text)...) }
	put(s.Pg.Pool, s.Pg.No, s.Seen, s.Started, s.Tail.Epoch, s.Tail.Seq, int64(len(s.Base)))
	for _, h := range s.Base {
		name(h.Name)
		put(h.Ver.Epoch, h.Ver.Seq, h.Size, h.Sum)
	}
	put(int64(len(s.Clients)))
	for _, x := range s.Clients {
		put(x.Client, x.No, x.Ver.Epoch, x.Ver.Seq)
	}
	put(int64(len(s.Log)))
	for _, e := range s.Log {
		put(e.Ver.Epoch, e.Ver.Seq)
		name(e.Name)
		put(map[bool]int64{true: 1}[e.Gone], e.Size, e.Sum, e.Req.Client, e.Req.No)
	}
	put(s.Firm.Epoch, s.Firm.Seq, int64(len(s.Chunks)))
	for _, c := range s.Chunks {
		name(c.Name)
		put(c.Ver.Epoch, c.Ver.Seq, c.Pos, c.Sum)
		name(c.Bytes)
	}
	return string(form)
}

func wantNoState(t *testing.T, name, s string) {
	t.Helper()
	if got, size, ok := impl.GetPgState(s); !sameState(got, impl.PgState{}) || size != 0 || ok {
		t.Errorf("%s: GetPgState of %x: %+v, %d, %v", name, s, got, size, ok)
	}
}

// P23: a state has the binary form of the document and comes back from it,
// whatever follows.
func TestStateForm(t *testing.T) {
	s := impl.PgState{
		Pg: impl.Pg{Pool: 2, No: 3}, Seen: 5, Started: 4, Tail: ver(1, 2), Base: []impl.Head{head("a", ver(1, 1), 2, 300)}, Clients: []impl.Last{last(100, 7, ver(1, 2))},
		Log:    []impl.Entry{{Ver: ver(3, 1), Prior: ver(1, 2), Name: "bc", Gone: true, Req: impl.Req{Client: 101, No: 6}}},
		Firm:   ver(1, 2),
		Chunks: []impl.Chunk{{Name: "a", Ver: ver(1, 1), Pos: 6, Sum: 8, Bytes: "xyz"}},
	}
	if got, want := impl.PutPgState(s), "\x02\x03\x05\x04\x01\x02\x01\x01a\x01\x01\x02\xac\x02\x01\x64\x07\x01\x02\x01\x03\x01\x02bc\x01\x00\x00\x65\x06\x01\x02\x01\x01a\x01\x01\x06\x08\x03xyz"; got != want {
		t.Errorf("PutPgState: %x; want %x", got, want)
	}
	r := source(177)
	for i, s := range append(rightStates(), s) {
		form := impl.PutPgState(s)
		if form != formOfState(s) {
			t.Errorf("PutPgState of %+v: %x; want %x", s, form, formOfState(s))
		}
		for _, behind := range []string{"", "\x00", "\x80", form, someBytes(r, 9)} {
			got, size, ok := impl.GetPgState(form + behind)
			if !sameState(got, s) || size != int64(len(form)) || !ok {
				t.Errorf("GetPgState: %+v, %d, %v; want %+v, %d", got, size, ok, s, len(form))
			}
		}
		for n := range len(form) {
			if i%8 == 3 || n < 20 {
				wantNoState(t, "the start of a form", form[:n])
			}
		}
	}
	for _, s := range wrongStates() {
		if got := impl.PutPgState(s); got != "" {
			t.Errorf("PutPgState of a wrong state: %x", got)
		}
	}
}

// P23: the form of a state that is not valid is none. The form does not tell
// apart an entry from one with another Prior.
func TestFormsOfWrongStates(t *testing.T) {
	for _, s := range wrongStates() {
		isNegative := func(n *int64) bool { return *n < 0 }
		if slices.ContainsFunc(numbersInState(&s), isNegative) {
			continue
		}
		form := formOfState(s)
		for i := range s.Log {
			s.Log[i].Prior = versOf(s)[i]
		}
		got, size, ok := impl.GetPgState(form)
		switch {
		case !isState(s):
			wantNoState(t, "a wrong state", form)
			wantNoState(t, "a wrong state, and more", form+strings.Repeat("\x00", 99))
		case !sameState(got, s) || size != int64(len(form)) || !ok:
			t.Errorf("GetPgState: %+v, %d, %v; want %+v, %d", got, size, ok, s, len(form))
		}
	}
}

// P23: what is one byte away from a form is that of another state or of none,
// and numbers are taken in their shortest form only.
func TestChangedForms(t *testing.T) {
	none := 0
	form := formOfState(sampleState())
	for i := range form {
		for b := range 256 {
			changed := form[:i] + string([]byte{byte(b)}) + form[i+1:]
			got, size, ok := impl.GetPgState(changed)
			if !ok {
				none++
				wantNoState(t, "a changed form", changed)
				continue
			}
			if !isState(got) || formOfState(got) != changed[:size] {
				t.Errorf("GetPgState of %x: %+v, %d", changed, got, size)
			}
		}
		longer := form[:i] + string([]byte{form[i] | 0x80, 0}) + form[i+1:]
		if got, size, ok := impl.GetPgState(longer); ok && formOfState(got) != longer[:size] {
			t.Errorf("GetPgState of %x: %+v, %d", longer, got, size)
		}
	}
	if none < 1000 || none > len(form)*255 {
		t.Errorf("%d changed forms of %d are none", none, len(form)*256)
	}
	for _, s := range append(anyTexts(), "\x01"+strings.Repeat("\x00", 10)) {
		wantNoState(t, "no state", s)
	}
	got, size, ok := impl.GetPgState("\x01" + strings.Repeat("\x00", 12))
	if !sameState(got, impl.NewState(impl.Pg{Pool: 1})) || size != 12 || !ok {
		t.Errorf("GetPgState of the empty state: %+v, %d, %v", got, size, ok)
	}
	for _, count := range []string{"\x01", "\x7f", "\xff\xff\xff\x7f", "\x80\x80\x80\x80\x80\x80\x80\x80\x40", "\x80\x80\x80\x80\x80\x80\x80\x80\x41"} {
		// Where the empty state has the length of a sequence.
		for _, at := range []int{5, 6, 7, 10} {
			wantNoState(t, "a sequence without its elements", "\x01"+strings.Repeat("\x00", at)+count)
			wantNoState(t, "a sequence of zeros", "\x01"+strings.Repeat("\x00", at)+count+strings.Repeat("\x00", 2000))
		}
	}
}
