package tests

import (
	"fmt"
	"math/rand/v2"
	"slices"
	"testing"

	"loop.example/g00849/impl"
)

func ballot(no, by int64) impl.Ballot {
	return impl.Ballot{No: no, By: by}
}

// upAt is an increment for an epoch, told apart from others by its device.
func upAt(epoch, device int64) impl.Inc {
	return impl.Inc{Epoch: epoch, Kind: impl.IcUp, A: device}
}

func isBallot(b impl.Ballot) bool {
	return b == impl.Ballot{} || b.No >= 1 && b.No <= 999 && b.By >= 0 && b.By <= 4
}

func isBallotBelow(a, b impl.Ballot) bool {
	return a.No < b.No || a.No == b.No && a.By < b.By
}

func isIncFor(i impl.Inc, epoch int64) bool {
	return isInc(i) && i.Epoch == epoch
}

// mayBeAccepted says of a ballot and an increment what the document says of those
// of slots and promises.
func mayBeAccepted(b impl.Ballot, i impl.Inc, epoch int64) bool {
	if (b == impl.Ballot{}) {
		return i == impl.Inc{}
	}
	return isBallot(b) && isIncFor(i, epoch)
}

func isMost(list []int64, many int64) bool {
	return int64(len(list)) > many/2
}

func areIds(list []int64, many int64) bool {
	for n, id := range list {
		if id < 0 || id >= many || n > 0 && list[n-1] >= id {
			return false
		}
	}
	return true
}

func isTry(t impl.Try, id, many int64) bool {
	for _, wrong := range []bool{
		t.Epoch < 2 || t.Epoch > 60,
		!isBallot(t.Ballot) || t.Ballot == impl.Ballot{} || t.Ballot.By != id,
		!isIncFor(t.Inc, t.Epoch),
		!isBallot(t.Highest) || !isBallotBelow(t.Highest, t.Ballot),
		!areIds(t.Promises, many) || !areIds(t.Accepts, many),
		len(t.Accepts) > 0 && !isMost(t.Promises, many),
		t.Decided != isMost(t.Accepts, many),
	} {
		if wrong {
			return false
		}
	}
	return true
}

func isZeroTry(t impl.Try) bool {
	return len(t.Promises) == 0 && len(t.Accepts) == 0 && fmt.Sprint(t) == fmt.Sprint(impl.Try{})
}

// isMon says what the document says.
func isMon(m impl.Mon) bool {
	if m.Many < 1 || m.Many > 5 || m.Id < 0 || m.Id >= m.Many {
		return false
	}
	for n, s := range m.Slots {
		if s.Epoch < 2 || s.Epoch > 60 || n > 0 && m.Slots[n-1].Epoch >= s.Epoch {
			return false
		}
		if !isBallot(s.Promised) || isBallotBelow(s.Promised, s.Accepted) || !mayBeAccepted(s.Accepted, s.Inc, s.Epoch) {
			return false
		}
	}
	return isZeroTry(m.Try) || isTry(m.Try, m.Id, m.Many)
}

// isMonMsg says what the document says.
func isMonMsg(g impl.MonMsg) bool {
	for _, id := range []int64{g.From, g.To} {
		if id < 0 || id > 4 {
			return false
		}
	}
	if g.Epoch < 2 || g.Epoch > 60 || !isBallot(g.Ballot) || g.Ballot == (impl.Ballot{}) {
		return false
	}
	switch g.Kind {
	case 1, 4:
		return g.Accepted == impl.Ballot{} && g.Inc == impl.Inc{}
	case 2:
		return mayBeAccepted(g.Accepted, g.Inc, g.Epoch) && isBallotBelow(g.Accepted, g.Ballot)
	case 3:
		return g.Accepted == impl.Ballot{} && isIncFor(g.Inc, g.Epoch)
	}
	return false
}

func copiedMon(m impl.Mon) impl.Mon {
	m.Slots = slices.Clone(m.Slots)
	m.Try.Promises, m.Try.Accepts = slices.Clone(m.Try.Promises), slices.Clone(m.Try.Accepts)
	return m
}

func copiedMons(list []impl.Mon) []impl.Mon {
	list = slices.Clone(list)
	for n, m := range list {
		list[n] = copiedMon(m)
	}
	return list
}

// sameMon takes nil and empty lists for the same.
func sameMon(a, b impl.Mon) bool {
	for _, m := range []*impl.Mon{&a, &b} {
		m.Slots = append([]impl.Slot{}, m.Slots...)
		m.Try.Promises, m.Try.Accepts = append([]int64{}, m.Try.Promises...), append([]int64{}, m.Try.Accepts...)
	}
	return fmt.Sprint(a) == fmt.Sprint(b)
}

func wantMon(t *testing.T, name string, got impl.Mon, sent []impl.MonMsg, code int64, want impl.Mon, wantSent []impl.MonMsg, wantCode int64) {
	t.Helper()
	if !sameMon(got, want) || !slices.Equal(sent, wantSent) || code != wantCode {
		t.Errorf("%s: %+v sends %+v, code %d; want %+v, %+v, code %d", name, got, sent, code, want, wantSent, wantCode)
	}
}

// sampleMons are valid, each in a way of its own.
func sampleMons() []impl.Mon {
	slots := []impl.Slot{
		{Epoch: 2, Promised: ballot(3, 1), Accepted: ballot(2, 0), Inc: upAt(2, 7)},
		{Epoch: 3},
		{Epoch: 7, Promised: ballot(1, 2)},
		{Epoch: 8, Promised: ballot(5, 4), Accepted: ballot(5, 4), Inc: impl.Inc{Epoch: 8, Kind: impl.IcTerm}},
		{Epoch: 60, Promised: ballot(999, 4), Accepted: ballot(999, 3), Inc: impl.Inc{Epoch: 60, Kind: impl.IcWeight, A: 15, B: 8}},
	}
	try := impl.Try{Epoch: 7, Ballot: ballot(4, 1), Inc: upAt(7, 3)}
	told := try
	told.Highest, told.Promises = ballot(4, 0), []int64{0, 2}
	most := told
	most.Promises = []int64{0, 2, 4}
	some := most
	some.Accepts = []int64{1, 3}
	decided := most
	decided.Decided, decided.Accepts = true, []int64{1, 3, 4}
	all := impl.Try{Epoch: 2, Ballot: ballot(999, 2), Inc: upAt(2, 0), Highest: ballot(999, 1), Promises: []int64{0, 1, 2}, Accepts: []int64{0, 1, 2}, Decided: true}
	return []impl.Mon{
		{Many: 1}, {Many: 5, Id: 4}, {Many: 3, Id: 1, Slots: slots}, {Many: 3, Id: 2, Slots: slots[2:3], Try: all},
		{Many: 5, Id: 1, Try: try}, {Many: 5, Id: 1, Slots: slots, Try: try}, {Many: 5, Id: 1, Slots: slots, Try: told}, {Many: 5, Id: 1, Slots: slots, Try: most}, {Many: 5, Id: 1, Slots: slots, Try: some}, {Many: 5, Id: 1, Slots: slots[1:], Try: decided},
		{Many: 1, Try: impl.Try{Epoch: 60, Ballot: ballot(1, 0), Inc: upAt(60, 1), Promises: []int64{0}, Accepts: []int64{0}, Decided: true}},
		{Many: 2, Try: impl.Try{Epoch: 9, Ballot: ballot(1, 0), Inc: upAt(9, 1), Promises: []int64{1}}},
		{Many: 2, Id: 1, Try: impl.Try{Epoch: 9, Ballot: ballot(1, 1), Inc: upAt(9, 1), Promises: []int64{0, 1}, Accepts: []int64{1}}},
		{Many: 4, Id: 1, Try: impl.Try{Epoch: 9, Ballot: ballot(1, 1), Inc: upAt(9, 1), Promises: []int64{0, 1, 2}, Accepts: []int64{1, 3}}},
	}
}

// someBallot is zero at times, and few ballots are frequent.
func someBallot(r *rand.Rand) impl.Ballot {
	switch r.IntN(12) {
	case 0, 1:
		return impl.Ballot{}
	case 2:
		return ballot(1+r.Int64N(999), r.Int64N(5))
	}
	return ballot(1+r.Int64N(3), r.Int64N(5))
}

func someInc(r *rand.Rand, epoch int64) impl.Inc {
	if r.IntN(8) == 0 {
		all := incsFor(epoch)
		return all[r.IntN(len(all))]
	}
	return upAt(epoch, r.Int64N(3))
}

// someSlot may have the zero ballot as Promised.
func someSlot(r *rand.Rand, epoch int64) impl.Slot {
	s := impl.Slot{Epoch: epoch, Promised: someBallot(r)}
	switch a := someBallot(r); {
	case r.IntN(3) == 0:
		s.Accepted = s.Promised
	case !isBallotBelow(s.Promised, a):
		s.Accepted = a
	}
	if (s.Accepted != impl.Ballot{}) {
		s.Inc = someInc(r, epoch)
	}
	return s
}

func someIds(r *rand.Rand, many int64) []int64 {
	list := []int64{}
	often := 1 + r.IntN(3)
	for id := range many {
		if r.IntN(4) <= often {
			list = append(list, id)
		}
	}
	return list
}

func someAttempt(r *rand.Rand, id, many int64) impl.Try {
	try := impl.Try{Epoch: 2 + r.Int64N(4), Ballot: ballot(1+r.Int64N(3), id)}
	try.Inc = someInc(r, try.Epoch)
	if b := someBallot(r); isBallotBelow(b, try.Ballot) {
		try.Highest = b
	}
	try.Promises = someIds(r, many)
	if isMost(try.Promises, many) && r.IntN(3) > 0 {
		try.Accepts = someIds(r, many)
		try.Decided = isMost(try.Accepts, many)
	}
	return try
}

func someMon(r *rand.Rand, id, many int64) impl.Mon {
	m := impl.Mon{Id: id, Many: many}
	often := 1 + r.IntN(4)
	for _, epoch := range []int64{2, 3, 4, 5, 30, 60} {
		if r.IntN(5) < often {
			m.Slots = append(m.Slots, someSlot(r, epoch))
		}
	}
	if r.IntN(5) > 0 {
		m.Try = someAttempt(r, id, many)
	}
	return m
}

func someMons(r *rand.Rand, n int) []impl.Mon {
	var list []impl.Mon
	for range n {
		many := 1 + r.Int64N(5)
		list = append(list, someMon(r, r.Int64N(many), many))
	}
	return list
}

// fullMon has a slot for each epoch.
func fullMon() impl.Mon {
	m := impl.Mon{Id: 3, Many: 4}
	for epoch := int64(2); epoch <= 60; epoch++ {
		m.Slots = append(m.Slots, impl.Slot{Epoch: epoch, Promised: ballot(epoch, epoch%5), Accepted: ballot(epoch-1, 2), Inc: upAt(epoch, epoch%16)})
	}
	return m
}

func rightMons() []impl.Mon {
	return slices.Concat(sampleMons(), []impl.Mon{fullMon()}, someMons(source(220), 150))
}

func numbersInInc(i *impl.Inc) []*int64 {
	return []*int64{&i.Epoch, &i.Kind, &i.A, &i.B}
}

func numbersInMon(m *impl.Mon) []*int64 {
	list := []*int64{&m.Id, &m.Many}
	for n := range m.Slots {
		s := &m.Slots[n]
		list = append(list, &s.Epoch, &s.Promised.No, &s.Promised.By, &s.Accepted.No, &s.Accepted.By)
		list = append(list, numbersInInc(&s.Inc)...)
	}
	t := &m.Try
	list = append(list, &t.Epoch, &t.Ballot.No, &t.Ballot.By, &t.Highest.No, &t.Highest.By)
	list = append(list, numbersInInc(&t.Inc)...)
	for _, ids := range [][]int64{t.Promises, t.Accepts} {
		for n := range ids {
			list = append(list, &ids[n])
		}
	}
	return list
}

func monNumbers() []int64 {
	return append(farNumbers(), -2, -1, 0, 1, 2, 3, 4, 5, 6, 7, 8, 9, 16, 59, 60, 61, 998, 999, 1000)
}

// changedMons have one number, mark or list of a valid monitor changed; some of
// them are valid.
func changedMons() []impl.Mon {
	var list []impl.Mon
	change := func(m impl.Mon, turn func(m *impl.Mon)) {
		m = copiedMon(m)
		turn(&m)
		list = append(list, m)
	}
	for _, m := range sampleMons() {
		for at := range numbersInMon(&m) {
			for _, n := range monNumbers() {
				change(m, func(m *impl.Mon) { *numbersInMon(m)[at] = n })
			}
		}
		for _, ids := range [][]int64{nil, {0}, {1}, {4}, {5}, {-1}, {0, 1}, {1, 0}, {0, 0}, {0, 1, 2}, {0, 2, 1}, {0, 1, 1}, {1, 2, 3}, {0, 1, 2, 3}, {0, 1, 2, 3, 4}, {0, 1, 2, 3, 4, 5}, {0, 0, 0, 0, 0}} {
			change(m, func(m *impl.Mon) { m.Try.Promises = ids })
			change(m, func(m *impl.Mon) { m.Try.Accepts = ids })
			change(m, func(m *impl.Mon) { m.Try.Accepts, m.Try.Decided = ids, isMost(ids, m.Many) })
		}
		change(m, func(m *impl.Mon) { m.Try.Decided = !m.Try.Decided })
		change(m, func(m *impl.Mon) { m.Try.Inc = impl.Inc{} })
		change(m, func(m *impl.Mon) { m.Try.Ballot = impl.Ballot{} })
		change(m, func(m *impl.Mon) { m.Try.Highest = m.Try.Ballot })
		for n := range m.Slots {
			change(m, func(m *impl.Mon) { m.Slots = append(m.Slots[:n], m.Slots[n+1:]...) })
			change(m, func(m *impl.Mon) { m.Slots = slices.Insert(m.Slots, n, m.Slots[n]) })
			change(m, func(m *impl.Mon) { m.Slots[0], m.Slots[n] = m.Slots[n], m.Slots[0] })
			change(m, func(m *impl.Mon) { m.Slots[n].Accepted = impl.Ballot{} })
			change(m, func(m *impl.Mon) { m.Slots[n].Accepted, m.Slots[n].Inc = impl.Ballot{}, impl.Inc{} })
			change(m, func(m *impl.Mon) { m.Slots[n].Accepted = m.Slots[n].Promised })
			change(m, func(m *impl.Mon) { m.Slots[n].Promised = m.Slots[n].Accepted })
			change(m, func(m *impl.Mon) { m.Slots[n].Inc = impl.Inc{} })
		}
	}
	return list
}

// wrongMons are not valid.
func wrongMons() []impl.Mon {
	list := []impl.Mon{{}}
	for n, m := range slices.DeleteFunc(changedMons(), isMon) {
		if n%17 == 0 {
			list = append(list, m)
		}
	}
	return list
}

// sampleMonMsgs are valid messages of all kinds.
func sampleMonMsgs() []impl.MonMsg {
	return []impl.MonMsg{
		{Kind: impl.MnPrepare, From: 1, To: 0, Epoch: 7, Ballot: ballot(4, 1)},
		{Kind: impl.MnPromise, From: 0, To: 1, Epoch: 7, Ballot: ballot(4, 1)},
		{Kind: impl.MnPromise, From: 3, To: 1, Epoch: 7, Ballot: ballot(4, 1), Accepted: ballot(4, 0), Inc: upAt(7, 5)},
		{Kind: impl.MnAccept, From: 1, To: 3, Epoch: 7, Ballot: ballot(4, 1), Inc: impl.Inc{Epoch: 7, Kind: impl.IcWeight, A: 15, B: 3}},
		{Kind: impl.MnAccepted, From: 3, To: 1, Epoch: 7, Ballot: ballot(4, 1)},
		{Kind: impl.MnPrepare, From: 4, To: 4, Epoch: 60, Ballot: ballot(999, 4)},
		{Kind: impl.MnPromise, Epoch: 2, Ballot: ballot(1, 0)},
	}
}

func numbersInMonMsg(g *impl.MonMsg) []*int64 {
	list := []*int64{&g.Kind, &g.From, &g.To, &g.Epoch, &g.Ballot.No, &g.Ballot.By, &g.Accepted.No, &g.Accepted.By}
	return append(list, numbersInInc(&g.Inc)...)
}

// changedMonMsgs have one number or thing, or two of them, of a valid message
// changed; some of them are valid.
func changedMonMsgs() []impl.MonMsg {
	var list []impl.MonMsg
	for _, g := range sampleMonMsgs() {
		for at := range numbersInMonMsg(&g) {
			for _, n := range monNumbers() {
				x := g
				*numbersInMonMsg(&x)[at] = n
				list = append(list, x)
			}
		}
		x := g
		x.Ballot = impl.Ballot{}
		list = append(list, x)
		for kind := range int64(6) {
			for _, accepted := range []impl.Ballot{{}, ballot(1, 0), ballot(3, 4), ballot(4, 0), ballot(4, 1), ballot(4, 2), ballot(5, 0), ballot(0, 1), ballot(1, 5)} {
				for _, i := range []impl.Inc{{}, upAt(7, 1), upAt(6, 1), {Epoch: 7, Kind: impl.IcTerm}, {Epoch: 7}, upAt(2, 16)} {
					x := g
					x.Kind, x.Accepted, x.Inc = kind, accepted, i
					list = append(list, x)
				}
			}
		}
	}
	return list
}

func wrongMonMsgs() []impl.MonMsg {
	list := []impl.MonMsg{{}}
	for n, g := range slices.DeleteFunc(changedMonMsgs(), isMonMsg) {
		if n%7 == 0 {
			list = append(list, g)
		}
	}
	return list
}

// P27: the constants are those of the document.
func TestMonConstants(t *testing.T) {
	wantList(t, "the constants", []int64{impl.MaxMons, impl.MaxMonMsgs, impl.MnPrepare, impl.MnPromise, impl.MnAccept, impl.MnAccepted}, 0, []int64{5, 120, 1, 2, 3, 4}, 0)
}

// P27: what the document allows is a monitor, and nothing else.
func TestMonOk(t *testing.T) {
	for n, m := range rightMons() {
		wantOk(t, fmt.Sprint("MonOk of the right monitor ", n), impl.MonOk(m), true)
		wantOk(t, fmt.Sprint("isMon of the right monitor ", n), isMon(m), true)
	}
	right := 0
	for _, m := range changedMons() {
		wantOk(t, fmt.Sprintf("MonOk(%+v)", m), impl.MonOk(m), isMon(m))
		if isMon(m) {
			right++
		}
	}
	if right < 300 {
		t.Errorf("only %d changed monitors are valid", right)
	}
	wantOk(t, "the zero monitor", impl.MonOk(impl.Mon{}), false)
	wantOk(t, "empty lists", impl.MonOk(impl.Mon{Many: 1, Slots: []impl.Slot{}, Try: impl.Try{Promises: []int64{}, Accepts: []int64{}}}), true)
	for id := int64(-1); id <= 6; id++ {
		for many := int64(-1); many <= 7; many++ {
			m := impl.Mon{Id: id, Many: many}
			wantOk(t, fmt.Sprintf("MonOk(%+v)", m), impl.MonOk(m), isMon(m))
		}
	}
}

// P27: an attempt is not zero if just one thing of it is not, and then it is not
// valid.
func TestTriesOfOneThing(t *testing.T) {
	for _, try := range []impl.Try{
		{Epoch: 2}, {Ballot: ballot(1, 0)}, {Ballot: ballot(0, 1)}, {Inc: upAt(2, 1)}, {Inc: impl.Inc{B: 1}},
		{Highest: ballot(1, 0)}, {Highest: ballot(0, 1)}, {Promises: []int64{0}}, {Accepts: []int64{0}}, {Decided: true},
	} {
		for many := range int64(5) {
			m := impl.Mon{Many: many + 1, Try: try}
			wantOk(t, fmt.Sprintf("MonOk(%+v)", m), impl.MonOk(m), false)
		}
	}
}

// P27: what the document allows is a message, and nothing else.
func TestMonMsgOk(t *testing.T) {
	for _, g := range sampleMonMsgs() {
		wantOk(t, fmt.Sprintf("MonMsgOk(%+v)", g), impl.MonMsgOk(g), true)
		wantOk(t, fmt.Sprintf("isMonMsg(%+v)", g), isMonMsg(g), true)
	}
	right := 0
	for _, g := range changedMonMsgs() {
		wantOk(t, fmt.Sprintf("MonMsgOk(%+v)", g), impl.MonMsgOk(g), isMonMsg(g))
		if isMonMsg(g) {
			right++
		}
	}
	if right < 200 {
		t.Errorf("only %d changed messages are valid", right)
	}
	wantOk(t, "the zero message", impl.MonMsgOk(impl.MonMsg{}), false)
	for _, i := range wrongIncs() {
		g := sampleMonMsgs()[3]
		g.Epoch, g.Inc = i.Epoch, i
		wantOk(t, fmt.Sprintf("MonMsgOk(%+v)", g), impl.MonMsgOk(g), false)
	}
}

// P27: a new monitor has nothing, and is one of 1 to 5.
func TestNewMon(t *testing.T) {
	numbers := append(farNumbers(), -5, -2, -1, 0, 1, 2, 3, 4, 5, 6, 7, 10)
	for _, id := range numbers {
		for _, many := range numbers {
			want, wantCode := impl.Mon{Id: id, Many: many}, int64(impl.OK)
			if many < 1 || many > 5 || id < 0 || id > many-1 {
				want, wantCode = impl.Mon{}, impl.ErrRange
			}
			m, code := impl.NewMon(id, many)
			wantMon(t, fmt.Sprintf("NewMon(%d, %d)", id, many), m, nil, code, want, nil, wantCode)
		}
	}
}

// slotIn returns the slot of an epoch, and whether there is one.
func slotIn(m impl.Mon, epoch int64) (impl.Slot, bool) {
	for _, s := range m.Slots {
		if s.Epoch == epoch {
			return s, true
		}
	}
	return impl.Slot{Epoch: epoch}, false
}

// withSlot returns m with s as the slot of its epoch.
func withSlot(m impl.Mon, s impl.Slot) impl.Mon {
	m = copiedMon(m)
	m.Slots = slices.DeleteFunc(m.Slots, func(other impl.Slot) bool { return other.Epoch == s.Epoch })
	m.Slots = append(m.Slots, s)
	slices.SortFunc(m.Slots, func(a, b impl.Slot) int { return int(a.Epoch - b.Epoch) })
	return m
}

// toEach returns a message to every monitor.
func toEach(m impl.Mon, g impl.MonMsg) []impl.MonMsg {
	var list []impl.MonMsg
	for to := range m.Many {
		g.From, g.To = m.Id, to
		list = append(list, g)
	}
	return list
}

// proposed is Propose, as the document says.
func proposed(m impl.Mon, i impl.Inc, no int64) (impl.Mon, []impl.MonMsg, int64) {
	if !isMon(m) || !isInc(i) {
		return impl.Mon{}, nil, impl.ErrForm
	}
	if no < 1 || no > 999 {
		return impl.Mon{}, nil, impl.ErrRange
	}
	b := ballot(no, m.Id)
	s, _ := slotIn(m, i.Epoch)
	if !isBallotBelow(s.Promised, b) || m.Try.Epoch == i.Epoch && !isBallotBelow(m.Try.Ballot, b) {
		return impl.Mon{}, nil, impl.ErrState
	}
	s.Promised = b
	m = withSlot(m, s)
	m.Try = impl.Try{Epoch: i.Epoch, Ballot: b, Inc: i}
	return m, toEach(m, impl.MonMsg{Kind: impl.MnPrepare, Epoch: i.Epoch, Ballot: b}), impl.OK
}

func wantProposed(t *testing.T, m impl.Mon, i impl.Inc, no int64) int64 {
	t.Helper()
	want, wantSent, wantCode := proposed(m, i, no)
	got, sent, code := impl.Propose(copiedMon(m), i, no)
	wantMon(t, fmt.Sprintf("Propose(%+v, %v, %d)", m, i, no), got, sent, code, want, wantSent, wantCode)
	if code == impl.OK {
		wantOk(t, fmt.Sprintf("MonOk(%+v)", got), impl.MonOk(got), true)
		wantOk(t, "that all messages are valid", slices.ContainsFunc(sent, func(g impl.MonMsg) bool { return !impl.MonMsgOk(g) }), false)
	}
	return code
}

// P27: an attempt begins with a ballot that is higher than all that were heard
// of for the epoch, and the monitor's own slot has it.
func TestPropose(t *testing.T) {
	codes := map[int64]int{}
	for _, m := range rightMons() {
		for _, epoch := range []int64{2, 3, 4, 5, 7, 8, 9, 59, 60} {
			for _, no := range []int64{1, 2, 3, 4, 5, 998, 999} {
				codes[wantProposed(t, m, upAt(epoch, 4), no)]++
			}
		}
	}
	if codes[impl.OK] < 1000 || codes[impl.ErrState] < 500 {
		t.Errorf("the codes were %v", codes)
	}
	for _, m := range sampleMons()[:8] {
		for _, i := range incsFor(7) {
			wantProposed(t, m, i, 6)
		}
	}
}

// P27: the ballot must be above that of the slot and above that of the attempt,
// whichever of the two is higher, if they are of the epoch.
func TestProposeAboveSlotAndTry(t *testing.T) {
	for _, promised := range []int64{1, 2, 3} {
		for _, by := range []int64{0, 1, 2} {
			for _, tried := range []int64{1, 2, 3} {
				m := impl.Mon{Id: 1, Many: 3, Slots: []impl.Slot{{Epoch: 5, Promised: ballot(promised, by)}}}
				m.Try = impl.Try{Epoch: 5, Ballot: ballot(tried, 1), Inc: upAt(5, 1)}
				for _, no := range []int64{1, 2, 3, 4} {
					for _, epoch := range []int64{4, 5, 6} {
						wantProposed(t, m, upAt(epoch, 2), no)
					}
				}
			}
		}
	}
}

// P27: what is wrong is told in the order of the document.
func TestProposeErrors(t *testing.T) {
	for _, m := range wrongMons() {
		for _, no := range []int64{1, 0, 1000} {
			wantProposed(t, m, upAt(7, 1), no)
		}
	}
	for n, i := range wrongIncs() {
		m := sampleMons()[n%14]
		wantProposed(t, m, i, 999)
		wantProposed(t, m, i, 0)
	}
	numbers := append(farNumbers(), -1, 0, 1, 2, 998, 999, 1000, 1001)
	for _, no := range numbers {
		for _, m := range sampleMons() {
			wantProposed(t, m, upAt(7, 1), no)
			wantProposed(t, m, upAt(60, 1), no)
		}
	}
	high := impl.Mon{Many: 1, Slots: []impl.Slot{{Epoch: 2, Promised: ballot(999, 4)}}}
	for _, no := range numbers {
		wantProposed(t, high, upAt(2, 1), no)
	}
}

// heardPrepare to heardAccepted are MonHear, as the document says; each also
// tells what happened.
func heardPrepare(m impl.Mon, g impl.MonMsg) (impl.Mon, []impl.MonMsg, string) {
	s, there := slotIn(m, g.Epoch)
	switch {
	case isBallotBelow(g.Ballot, s.Promised):
		return m, nil, "a prepare below what was promised"
	case !isBallotBelow(s.Accepted, g.Ballot):
		return m, nil, "a prepare of what was accepted"
	}
	name := "a prepare of a new slot"
	if there {
		name = "a prepare of a slot"
	}
	if s.Promised == g.Ballot {
		name = "a prepare once more"
	}
	s.Promised = g.Ballot
	return withSlot(m, s), []impl.MonMsg{{Kind: impl.MnPromise, From: m.Id, To: g.From, Epoch: g.Epoch, Ballot: g.Ballot, Accepted: s.Accepted, Inc: s.Inc}}, name
}

func heardPromise(m impl.Mon, g impl.MonMsg) (impl.Mon, []impl.MonMsg, string) {
	switch {
	case m.Try.Epoch != g.Epoch || m.Try.Ballot != g.Ballot:
		return m, nil, "a promise for another attempt"
	case isMost(m.Try.Promises, m.Many):
		return m, nil, "a promise beyond a majority"
	}
	name := "a promise"
	m = copiedMon(m)
	if isBallotBelow(m.Try.Highest, g.Accepted) {
		name = "a promise with what was accepted"
		m.Try.Highest, m.Try.Inc = g.Accepted, g.Inc
	}
	if slices.Contains(m.Try.Promises, g.From) {
		return m, nil, name + ", once more"
	}
	m.Try.Promises = append(m.Try.Promises, g.From)
	slices.Sort(m.Try.Promises)
	if !isMost(m.Try.Promises, m.Many) {
		return m, nil, name
	}
	return m, toEach(m, impl.MonMsg{Kind: impl.MnAccept, Epoch: g.Epoch, Ballot: g.Ballot, Inc: m.Try.Inc}), name + ", for a majority"
}

func heardAccept(m impl.Mon, g impl.MonMsg) (impl.Mon, []impl.MonMsg, string) {
	s, there := slotIn(m, g.Epoch)
	if isBallotBelow(g.Ballot, s.Promised) {
		return m, nil, "an accept below what was promised"
	}
	name := "an accept of a new slot"
	if there {
		name = "an accept of a slot"
	}
	if s.Accepted == g.Ballot {
		name = "an accept once more"
	}
	m = withSlot(m, impl.Slot{Epoch: g.Epoch, Promised: g.Ballot, Accepted: g.Ballot, Inc: g.Inc})
	return m, []impl.MonMsg{{Kind: impl.MnAccepted, From: m.Id, To: g.From, Epoch: g.Epoch, Ballot: g.Ballot}}, name
}

func heardAccepted(m impl.Mon, g impl.MonMsg) (impl.Mon, []impl.MonMsg, string) {
	switch {
	case m.Try.Epoch != g.Epoch || m.Try.Ballot != g.Ballot:
		return m, nil, "an accepted for another attempt"
	case !isMost(m.Try.Promises, m.Many):
		return m, nil, "an accepted ahead of a majority of promises"
	}
	m = copiedMon(m)
	if slices.Contains(m.Try.Accepts, g.From) {
		return m, nil, "an accepted once more"
	}
	m.Try.Accepts = append(m.Try.Accepts, g.From)
	slices.Sort(m.Try.Accepts)
	name := "an accepted"
	if !m.Try.Decided && isMost(m.Try.Accepts, m.Many) {
		name = "an accepted that decides"
	}
	m.Try.Decided = isMost(m.Try.Accepts, m.Many)
	return m, nil, name
}

// heardFrom is MonHear, as the document says.
func heardFrom(m impl.Mon, g impl.MonMsg) (impl.Mon, []impl.MonMsg, int64, string) {
	if !isMon(m) || !isMonMsg(g) {
		return impl.Mon{}, nil, impl.ErrForm, "not valid"
	}
	if g.To != m.Id || g.From >= m.Many {
		return impl.Mon{}, nil, impl.ErrNone, "for another monitor"
	}
	kinds := map[int64]func(m impl.Mon, g impl.MonMsg) (impl.Mon, []impl.MonMsg, string){
		impl.MnPrepare: heardPrepare, impl.MnPromise: heardPromise, impl.MnAccept: heardAccept, impl.MnAccepted: heardAccepted,
	}
	m, sent, name := kinds[g.Kind](m, g)
	return m, sent, impl.OK, name
}

func wantHeard(t *testing.T, m impl.Mon, g impl.MonMsg) string {
	t.Helper()
	want, wantSent, wantCode, name := heardFrom(m, g)
	got, sent, code := impl.MonHear(copiedMon(m), g)
	wantMon(t, fmt.Sprintf("%s: MonHear(%+v, %+v)", name, m, g), got, sent, code, want, wantSent, wantCode)
	if code == impl.OK {
		wantOk(t, fmt.Sprintf("MonOk(%+v)", got), impl.MonOk(got), true)
		wantOk(t, "that all messages are valid", slices.ContainsFunc(sent, func(g impl.MonMsg) bool { return !impl.MonMsgOk(g) }), false)
	}
	return name
}

// ballotNear is a ballot of m, or one next to it.
func ballotNear(r *rand.Rand, m impl.Mon, epoch int64) impl.Ballot {
	s, _ := slotIn(m, epoch)
	b := []impl.Ballot{s.Promised, s.Promised, s.Accepted, m.Try.Ballot, m.Try.Ballot, m.Try.Ballot, someBallot(r)}[r.IntN(7)]
	switch r.IntN(8) {
	case 0:
		b.No++
	case 1:
		b.No--
	case 2:
		b.By++
	case 3:
		b.By--
	}
	if !isBallot(b) || b == (impl.Ballot{}) {
		return ballot(1+r.Int64N(3), r.Int64N(5))
	}
	return b
}

// someMonMsg returns a valid message that may mean something to m.
func someMonMsg(r *rand.Rand, m impl.Mon) impl.MonMsg {
	g := impl.MonMsg{Kind: 1 + r.Int64N(4), From: r.Int64N(m.Many), To: m.Id, Epoch: 2 + r.Int64N(4)}
	if m.Try.Epoch > 0 && r.IntN(3) > 0 {
		g.Epoch = m.Try.Epoch
	}
	if r.IntN(60) == 0 {
		g.To = r.Int64N(5)
	}
	if r.IntN(60) == 0 {
		g.From = r.Int64N(5)
	}
	g.Ballot = ballotNear(r, m, g.Epoch)
	if m.Try.Epoch > 0 && g.Kind%2 == 0 && r.IntN(2) == 0 {
		g.Epoch, g.Ballot = m.Try.Epoch, m.Try.Ballot
	}
	switch g.Kind {
	case impl.MnAccept:
		g.Inc = someInc(r, g.Epoch)
	case impl.MnPromise:
		if b := ballot(1+r.Int64N(3), r.Int64N(5)); isBallotBelow(b, g.Ballot) {
			g.Accepted, g.Inc = b, someInc(r, g.Epoch)
		}
	}
	return g
}

// P27: each message does what the document says, and nothing else.
func TestMonHear(t *testing.T) {
	r := source(221)
	did := counts{}
	for _, m := range append(rightMons(), someMons(r, 150)...) {
		for range 60 {
			did[wantHeard(t, m, someMonMsg(r, m))]++
		}
	}
	for _, name := range []string{
		"for another monitor",
		"a prepare below what was promised", "a prepare of what was accepted", "a prepare of a new slot", "a prepare of a slot", "a prepare once more",
		"a promise for another attempt", "a promise beyond a majority", "a promise", "a promise, once more", "a promise, for a majority",
		"a promise with what was accepted", "a promise with what was accepted, once more", "a promise with what was accepted, for a majority",
		"an accept below what was promised", "an accept of a new slot", "an accept of a slot", "an accept once more",
		"an accepted for another attempt", "an accepted ahead of a majority of promises", "an accepted", "an accepted once more", "an accepted that decides",
	} {
		if did[name] < 20 {
			t.Errorf("%s: %d times", name, did[name])
		}
	}
}

// P27: a monitor that or a message that is not valid is an error before it is
// for another monitor, or from none.
func TestMonHearErrors(t *testing.T) {
	for n, m := range wrongMons() {
		g := sampleMonMsgs()[n%7]
		wantHeard(t, m, g)
		g.To = m.Id
		wantHeard(t, m, g)
		wantHeard(t, m, impl.MonMsg{})
	}
	for n, g := range wrongMonMsgs() {
		for _, m := range []impl.Mon{sampleMons()[n%14], {Id: 1, Many: 2}} {
			wantHeard(t, m, g)
			m.Id, m.Try = g.To, impl.Try{}
			wantHeard(t, m, g)
		}
	}
	for _, m := range sampleMons() {
		for _, g := range sampleMonMsgs() {
			for from := range int64(5) {
				for to := range int64(5) {
					g.From, g.To = from, to
					wantHeard(t, m, g)
				}
			}
		}
	}
}

// P27: what was promised and accepted outlasts a crash, and the attempt does not.
func TestMonCrash(t *testing.T) {
	for _, m := range rightMons() {
		want := copiedMon(m)
		want.Try = impl.Try{}
		got := impl.MonCrash(copiedMon(m))
		wantMon(t, "MonCrash", got, nil, 0, want, nil, 0)
		wantOk(t, "MonOk after a crash", impl.MonOk(got), true)
		wantMon(t, "MonCrash again", impl.MonCrash(got), nil, 0, want, nil, 0)
	}
	for _, m := range wrongMons() {
		wantMon(t, "MonCrash of what is not valid", impl.MonCrash(m), nil, 0, impl.Mon{}, nil, 0)
	}
}

func wantDecided(t *testing.T, m impl.Mon, want impl.Inc, wantOk bool) {
	t.Helper()
	if i, ok := impl.Decided(m); i != want || ok != wantOk {
		t.Errorf("Decided(%+v): %v, %v; want %v, %v", m, i, ok, want, wantOk)
	}
}

// P27: a monitor has decided what more than half have accepted from it.
func TestDecided(t *testing.T) {
	decided := 0
	for _, m := range rightMons() {
		want := impl.Inc{}
		if isMost(m.Try.Accepts, m.Many) {
			want = m.Try.Inc
			decided++
		}
		wantDecided(t, m, want, want != impl.Inc{})
		wantDecided(t, impl.MonCrash(m), impl.Inc{}, false)
	}
	if decided < 20 {
		t.Errorf("only %d monitors have decided", decided)
	}
	for _, m := range wrongMons() {
		wantDecided(t, m, impl.Inc{}, false)
	}
}

// chosenIn is Chosen of a right list, as the document says.
func chosenIn(list []impl.Mon, epoch int64) []impl.Inc {
	count, incs := map[impl.Ballot]int{}, map[impl.Ballot]impl.Inc{}
	var ballots []impl.Ballot
	for _, m := range list {
		s, _ := slotIn(m, epoch)
		if (s.Accepted == impl.Ballot{}) {
			continue
		}
		count[s.Accepted]++
		incs[s.Accepted] = s.Inc
		if 2*count[s.Accepted] > len(list) && !slices.Contains(ballots, s.Accepted) {
			ballots = append(ballots, s.Accepted)
		}
	}
	slices.SortFunc(ballots, func(a, b impl.Ballot) int {
		if isBallotBelow(a, b) {
			return -1
		}
		return 1
	})
	var chosen []impl.Inc
	for _, b := range ballots {
		chosen = append(chosen, incs[b])
	}
	return chosen
}

func wantChosen(t *testing.T, list []impl.Mon, epoch int64, want []impl.Inc, wantOk bool) {
	t.Helper()
	if got, ok := impl.Chosen(list, epoch); !slices.Equal(got, want) || ok != wantOk {
		t.Errorf("Chosen(%+v, %d): %v, %v; want %v, %v", list, epoch, got, ok, want, wantOk)
	}
}

// mons are all of many monitors, with slots at random in which few ballots are
// frequent.
func mons(r *rand.Rand, many int64) []impl.Mon {
	var list []impl.Mon
	often := []impl.Ballot{someBallot(r), someBallot(r)}
	for id := range many {
		m := someMon(r, id, many)
		for n, s := range m.Slots {
			b := often[r.IntN(2)]
			if r.IntN(4) == 0 || b == (impl.Ballot{}) {
				continue
			}
			if isBallotBelow(s.Promised, b) {
				s.Promised = b
			}
			s.Accepted, s.Inc = b, upAt(s.Epoch, r.Int64N(3))
			m.Slots[n] = s
		}
		list = append(list, m)
	}
	return list
}

// P27: chosen is what more than half have accepted in one ballot, as the last one
// of them has it.
func TestChosen(t *testing.T) {
	r := source(222)
	did := map[int]int{}
	numbers := append(monNumbers(), 30)
	for range 60 {
		for many := int64(1); many <= 5; many++ {
			list := mons(r, many)
			for _, epoch := range numbers {
				want := chosenIn(list, epoch)
				wantChosen(t, list, epoch, want, true)
				did[len(want)]++
			}
		}
	}
	if did[0] < 100 || did[1] < 100 {
		t.Errorf("how many were chosen: %v", did)
	}
	// All have the ballot, and no two the same increment.
	list := []impl.Mon{}
	for id := range int64(5) {
		list = append(list, impl.Mon{Id: id, Many: 5, Slots: []impl.Slot{{Epoch: 9, Promised: ballot(2, 1), Accepted: ballot(2, 1), Inc: upAt(9, 10+id)}}})
	}
	wantChosen(t, list, 9, []impl.Inc{upAt(9, 14)}, true)
	list[4].Slots[0].Promised, list[4].Slots[0].Accepted = ballot(2, 2), ballot(2, 2)
	wantChosen(t, list, 9, []impl.Inc{upAt(9, 13)}, true)
	list[3].Slots[0].Promised, list[3].Slots[0].Accepted = ballot(3, 1), ballot(3, 1)
	wantChosen(t, list, 9, []impl.Inc{upAt(9, 12)}, true)
	list[0].Slots = nil
	wantChosen(t, list, 9, nil, true)
}

// P27: monitors that are not all of them, in order, are refused, as are those
// that are not valid.
func TestChosenRefuses(t *testing.T) {
	r := source(223)
	wantChosen(t, nil, 2, nil, false)
	wantChosen(t, []impl.Mon{{}}, 2, nil, false)
	for many := int64(1); many <= 5; many++ {
		list := mons(r, many)
		wantChosen(t, list, 2, chosenIn(list, 2), true)
		wantChosen(t, list[1:], 2, nil, false)
		wantChosen(t, list[:many-1], 2, nil, false)
		wantChosen(t, append(copiedMons(list), list[0]), 2, nil, false)
		wantChosen(t, append(copiedMons(list), impl.Mon{Id: many, Many: many + 1}), 2, nil, false)
		for at := range list {
			for _, m := range append(wrongMons()[:40], impl.Mon{Id: int64(at), Many: 6}) {
				other := copiedMons(list)
				other[at] = m
				wantChosen(t, other, 2, nil, false)
			}
			for id := range int64(5) {
				for several := int64(1); several <= 5; several++ {
					other := copiedMons(list)
					other[at] = impl.Mon{Id: id, Many: several, Slots: list[at].Slots}
					isRight := id == int64(at) && several == many
					if !isRight {
						wantChosen(t, other, 2, nil, false)
					}
				}
			}
		}
	}
	// Six monitors are too many, whatever they say.
	for _, several := range []int64{5, 6} {
		var six []impl.Mon
		for id := range int64(6) {
			six = append(six, impl.Mon{Id: id, Many: several})
		}
		wantChosen(t, six, 2, nil, false)
	}
}

// allMons are new.
func allMons(many int64) []impl.Mon {
	var list []impl.Mon
	for id := range many {
		m, _ := impl.NewMon(id, many)
		list = append(list, m)
	}
	return list
}

// carry takes messages, and those that they give rise to, where they go, but for
// those that go to or come from a monitor that is not reached.
func carry(t *testing.T, list []impl.Mon, sent []impl.MonMsg, reached ...int64) {
	t.Helper()
	for n := 0; n < len(sent); n++ {
		g := sent[n]
		if !slices.Contains(reached, g.To) || !slices.Contains(reached, g.From) {
			continue
		}
		m, more, code := impl.MonHear(list[g.To], g)
		wantNumber(t, "MonHear", 0, code, 0, impl.OK)
		list[g.To] = m
		sent = append(sent, more...)
	}
}

// P27: the document's example.
func TestMonExamples(t *testing.T) {
	wantOk(t, "the zero MonMsg", impl.MonMsgOk(impl.MonMsg{}), false)
	list := allMons(3)
	wantChosen(t, list, 2, nil, true)
	m, sent, _ := impl.Propose(list[0], upAt(2, 1), 1)
	list[0] = m
	wantChosen(t, list, 2, nil, true)
	carry(t, list, sent, 0, 1)
	wantDecided(t, list[0], upAt(2, 1), true)
	wantChosen(t, list, 2, []impl.Inc{upAt(2, 1)}, true)
	m, sent, _ = impl.Propose(list[2], upAt(2, 5), 2)
	list[2] = m
	carry(t, list, sent, 1, 2)
	wantDecided(t, list[2], upAt(2, 1), true)
	wantChosen(t, list, 2, []impl.Inc{upAt(2, 1)}, true)
	// After its crash a monitor begins anew, but not with the same ballot.
	list[2] = impl.MonCrash(list[2])
	_, _, code := impl.Propose(list[2], upAt(2, 5), 2)
	wantNumber(t, "the same ballot", 0, code, 0, impl.ErrState)
}

// plan is a proposal.
type plan struct {
	by int64
	i  impl.Inc
	no int64
}

// world is monitors, what they have ever sent, what was proposed (both as bits
// of numbers) and how many crashes there may still be.
type world struct {
	list    []impl.Mon
	sent    uint64
	made    uint64
	crashes int
}

// explorer finds all worlds that proposals can lead to, if all that was ever sent
// may arrive at any time, as often as it may, or never.
type explorer struct {
	plans []plan
	msgs  []impl.MonMsg
	seen  map[string]bool
	open  []world
}

// key tells any two worlds of an explorer apart.
func (w world) key() string {
	var b []byte
	put := func(list ...int64) {
		for _, n := range list {
			b = append(b, byte(n))
		}
	}
	for bits := range 8 {
		put(int64(w.sent>>(8*bits)), int64(w.made>>(8*bits)))
	}
	put(int64(w.crashes))
	for _, m := range w.list {
		put(int64(len(m.Slots)))
		for _, s := range m.Slots {
			put(s.Epoch, s.Inc.A, s.Promised.No, s.Promised.By, s.Accepted.No, s.Accepted.By)
		}
		t := m.Try
		put(t.Epoch, t.Inc.A, t.Ballot.No, t.Ballot.By, t.Highest.No, t.Highest.By, int64(len(t.Promises)), int64(len(t.Accepts)))
		put(t.Promises...)
		put(t.Accepts...)
	}
	return string(b)
}

// add takes up a world in which the monitor m and what it sent are new.
func (e *explorer) add(w world, m impl.Mon, sent []impl.MonMsg) {
	w.list = slices.Clone(w.list)
	w.list[m.Id] = m
	for _, g := range sent {
		n := slices.Index(e.msgs, g)
		if n < 0 {
			n = len(e.msgs)
			e.msgs = append(e.msgs, g)
		}
		w.sent |= 1 << n
	}
	if k := w.key(); !e.seen[k] {
		e.seen[k] = true
		e.open = append(e.open, w)
	}
}

// sentIn returns all that was ever sent.
func (e *explorer) sentIn(w world) []impl.MonMsg {
	var list []impl.MonMsg
	for n, g := range e.msgs {
		if w.sent>>n&1 == 1 {
			list = append(list, g)
		}
	}
	return list
}

// step takes up all worlds that come next.
func (e *explorer) step(w world) {
	for _, g := range e.sentIn(w) {
		m, sent, _ := impl.MonHear(w.list[g.To], g)
		e.add(w, m, sent)
	}
	for n, p := range e.plans {
		if w.made>>n&1 == 1 {
			continue
		}
		next := w
		next.made |= 1 << n
		if m, sent, code := impl.Propose(w.list[p.by], p.i, p.no); code == impl.OK {
			e.add(next, m, sent)
		}
	}
	if w.crashes > 0 {
		w.crashes--
		for _, m := range w.list {
			e.add(w, impl.MonCrash(m), nil)
		}
	}
}

// ledger is what monitors of a cluster have ever accepted for an epoch.
type ledger struct {
	many   int64
	voters map[impl.Ballot]map[int64]bool
	incs   map[impl.Ballot]impl.Inc
}

func newLedger(many int64) ledger {
	return ledger{many: many, voters: map[impl.Ballot]map[int64]bool{}, incs: map[impl.Ballot]impl.Inc{}}
}

// note takes down what a message tells.
func (l ledger) note(t *testing.T, g impl.MonMsg) {
	t.Helper()
	if l.voters[g.Ballot] == nil {
		l.voters[g.Ballot] = map[int64]bool{}
	}
	switch g.Kind {
	case impl.MnAccept:
		if i, there := l.incs[g.Ballot]; there && i != g.Inc {
			t.Errorf("ballot %v is for %v, and for %v", g.Ballot, i, g.Inc)
		}
		l.incs[g.Ballot] = g.Inc
	case impl.MnAccepted:
		l.voters[g.Ballot][g.From] = true
	}
}

// taken returns the increments that more than half took once in one ballot, each
// of them once.
func (l ledger) taken() []impl.Inc {
	var list []impl.Inc
	for b, voters := range l.voters {
		if int64(2*len(voters)) > l.many && !slices.Contains(list, l.incs[b]) {
			list = append(list, l.incs[b])
		}
	}
	return list
}

// wantAgreed wants no two things to be taken or decided for an epoch.
func (l ledger) wantAgreed(t *testing.T, list []impl.Mon, epoch int64) {
	t.Helper()
	taken := l.taken()
	if len(taken) > 1 {
		t.Errorf("more than half took %v for epoch %d", taken, epoch)
	}
	for _, m := range list {
		if i, ok := impl.Decided(m); ok && i.Epoch == epoch && !slices.Contains(taken, i) {
			t.Errorf("monitor %d decided on %v for epoch %d; more than half took %v", m.Id, i, epoch, taken)
		}
	}
	chosen, ok := impl.Chosen(list, epoch)
	if !ok || len(chosen) > 0 && !slices.Equal(chosen, taken) {
		t.Errorf("Chosen for epoch %d: %v, %v; more than half took %v", epoch, chosen, ok, taken)
	}
	if t.Failed() {
		t.FailNow()
	}
}

// wantDecides wants a monitor that tries with the highest ballot, and reaches
// more than half, to decide, on what was taken, if anything was.
func (l ledger) wantDecides(t *testing.T, list []impl.Mon, p plan, reached ...int64) {
	t.Helper()
	list = copiedMons(list)
	m, sent, code := impl.Propose(list[p.by], p.i, p.no)
	wantNumber(t, "Propose with the highest ballot", 0, code, 0, impl.OK)
	list[p.by] = m
	carry(t, list, sent, reached...)
	i, ok := impl.Decided(list[p.by])
	taken := l.taken()
	if !ok || len(taken) > 0 && i != taken[0] {
		t.Fatalf("monitor %d, reaching %v, decides %v, %v; more than half took %v", p.by, reached, i, ok, taken)
	}
	if chosen, _ := impl.Chosen(list, p.i.Epoch); !slices.Equal(chosen, []impl.Inc{i}) {
		t.Fatalf("%v was chosen; monitor %d decided %v", chosen, p.by, i)
	}
}

// P27: in all worlds that a few competing ballots can lead to, with messages
// lost, doubled and late, and a crash between any two of them, one thing is
// decided; and a higher ballot that reaches more than half decides, which is
// tried in every fiftieth world.
func TestAllWorlds(t *testing.T) {
	for _, x := range []struct {
		many    int64
		crashes int
		plans   []plan
		least   int
	}{
		{1, 2, []plan{{0, upAt(2, 1), 1}, {0, upAt(2, 2), 2}, {0, upAt(2, 3), 3}}, 100},
		{2, 1, []plan{{0, upAt(2, 1), 1}, {1, upAt(2, 2), 1}, {0, upAt(2, 3), 2}}, 5000},
		{3, 1, []plan{{0, upAt(2, 1), 1}, {1, upAt(2, 2), 1}}, 80000},
		{3, 1, []plan{{2, upAt(2, 1), 1}, {2, upAt(2, 2), 2}}, 10000},
	} {
		e := &explorer{plans: x.plans, seen: map[string]bool{}}
		list := allMons(x.many)
		e.add(world{list: list, crashes: x.crashes}, list[0], nil)
		taken := map[impl.Inc]int{}
		for n := 0; len(e.open) > 0; n++ {
			w := e.open[len(e.open)-1]
			e.open = e.open[:len(e.open)-1]
			e.step(w)
			l := newLedger(x.many)
			for _, g := range e.sentIn(w) {
				l.note(t, g)
			}
			l.wantAgreed(t, w.list, 2)
			for _, i := range l.taken() {
				taken[i]++
			}
			if n%50 == 0 {
				by := int64(n/50) % x.many
				l.wantDecides(t, w.list, plan{by, upAt(2, 9), 9}, by, (by+1)%x.many)
			}
		}
		if len(e.seen) < x.least || len(e.msgs) > 64 || len(taken) < len(x.plans) {
			t.Errorf("%d worlds of %d monitors with %d messages; taken was %v", len(e.seen), x.many, len(e.msgs), taken)
		}
	}
}

// cluster is monitors over a long run: what is on its way, what came once, and
// what was accepted for each epoch.
type cluster struct {
	many    int64
	list    []impl.Mon
	flight  []impl.MonMsg
	past    []impl.MonMsg
	ledgers map[int64]ledger
	did     counts
}

func newCluster(many int64, did counts) *cluster {
	return &cluster{many: many, list: allMons(many), ledgers: map[int64]ledger{2: newLedger(many), 3: newLedger(many)}, did: did}
}

func (c *cluster) send(t *testing.T, sent []impl.MonMsg) {
	t.Helper()
	for _, g := range sent {
		c.ledgers[g.Epoch].note(t, g)
	}
	c.flight = append(c.flight, sent...)
}

func (c *cluster) hear(t *testing.T, g impl.MonMsg) {
	t.Helper()
	m, sent, code := impl.MonHear(c.list[g.To], g)
	wantNumber(t, "MonHear", 0, code, 0, impl.OK)
	if _, ok := impl.Decided(m); ok && !c.list[g.To].Try.Decided {
		c.did["decided"]++
		if m.Try.Highest != (impl.Ballot{}) {
			c.did["decided on what was told"]++
		}
	}
	c.list[g.To] = m
	c.send(t, sent)
}

// step does one thing that can happen to monitors and their messages.
func (c *cluster) step(t *testing.T, r *rand.Rand) {
	t.Helper()
	at := 0
	kind := []string{"hear", "hear", "hear", "hear", "hear", "hear", "lose", "double", "late", "late", "crash", "propose"}[r.IntN(12)]
	switch {
	case kind == "crash" && r.IntN(3) > 0, kind == "late" && len(c.past) == 0:
		return
	case len(c.flight) > 0:
		at = r.IntN(len(c.flight))
	case kind == "hear" || kind == "lose" || kind == "double":
		kind = "propose"
	}
	id := r.Int64N(c.many)
	switch kind {
	case "hear":
		g := c.flight[at]
		c.flight = slices.Delete(c.flight, at, at+1)
		c.past = append(c.past, g)
		c.hear(t, g)
	case "lose":
		c.past = append(c.past, c.flight[at])
		c.flight = slices.Delete(c.flight, at, at+1)
	case "double":
		c.flight = append(c.flight, c.flight[at])
	case "late":
		c.hear(t, c.past[r.IntN(len(c.past))])
	case "crash":
		c.list[id] = impl.MonCrash(c.list[id])
	case "propose":
		epoch := 2 + r.Int64N(2)
		s, _ := slotIn(c.list[id], epoch)
		m, sent, code := impl.Propose(c.list[id], upAt(epoch, r.Int64N(16)), s.Promised.No+r.Int64N(2))
		if code != impl.OK {
			kind = "propose in vain"
			break
		}
		c.list[id] = m
		c.send(t, sent)
	}
	c.did[kind]++
}

// wantRight wants both epochs to be agreed on.
func (c *cluster) wantRight(t *testing.T) {
	t.Helper()
	for epoch, l := range c.ledgers {
		before := len(l.taken())
		l.wantAgreed(t, c.list, epoch)
		if chosen, _ := impl.Chosen(c.list, epoch); before > len(chosen) {
			c.did["taken, but not by more than half at present"]++
		}
	}
}

// end lets one monitor after the other reach a bare majority.
func (c *cluster) end(t *testing.T, r *rand.Rand) {
	t.Helper()
	for epoch, l := range c.ledgers {
		for id := range c.many {
			reached := []int64{id}
			for _, other := range r.Perm(int(c.many)) {
				if int64(2*len(reached)) <= c.many && int64(other) != id {
					reached = append(reached, int64(other))
				}
			}
			l.wantDecides(t, c.list, plan{id, upAt(epoch, id), 999}, reached...)
		}
		if len(l.taken()) > 0 {
			c.did["ended with something taken"]++
		} else {
			c.did["ended with nothing taken"]++
		}
	}
}

// P27: over long runs of all that can happen to monitors, no two things are
// decided for an epoch, and what more than half took once stays; in the end, the
// highest ballot decides.
func TestMonitorsOverLongRuns(t *testing.T) {
	r := source(224)
	did := counts{}
	for round := range int64(250) {
		c := newCluster(1+round%5, did)
		for range 10 + r.IntN(250) {
			c.step(t, r)
			c.wantRight(t)
		}
		c.end(t, r)
	}
	for _, name := range []string{"hear", "lose", "double", "late", "crash", "propose", "propose in vain", "decided", "decided on what was told", "taken, but not by more than half at present", "ended with something taken", "ended with nothing taken"} {
		if did[name] < 50 {
			t.Errorf("%s: %d times", name, did[name])
		}
	}
}

// P27: who reaches no more than half does not decide, whatever its ballot.
func TestHalfOfTheMonitorsDecideNothing(t *testing.T) {
	for many := int64(2); many <= 5; many++ {
		for half := int64(1); 2*half <= many; half++ {
			list := allMons(many)
			m, sent, _ := impl.Propose(list[0], upAt(2, 1), 999)
			list[0] = m
			reached := []int64{0, 1}[:half]
			carry(t, list, sent, reached...)
			wantDecided(t, list[0], impl.Inc{}, false)
			wantChosen(t, list, 2, nil, true)
			wantNumber(t, "promises", int64(len(list[0].Try.Promises)), 0, half, 0)
		}
	}
}

// watcher is a monitor's knowledge of the maps: what it has seen decided.
type watcher struct {
	incs []impl.Inc
	last impl.Map
}

// proposal returns what may come next, by what the watcher knows.
func (w watcher) proposal(r *rand.Rand) impl.Inc {
	all := incsFor(w.last.Epoch + 1)
	for {
		i := all[r.IntN(len(all))]
		if _, code := applied(w.last, i); code == impl.OK {
			return i
		}
	}
}

// decideSteps lets monitors decide increments till one of them knows the map of
// an epoch, with messages lost and monitors that crash.
func decideSteps(t *testing.T, r *rand.Rand, many, epoch int64, did counts) (impl.Map, []watcher) {
	t.Helper()
	start := firstMap()
	list := allMons(many)
	watchers := slices.Repeat([]watcher{{last: start}}, int(many))
	var flight []impl.MonMsg
	for rounds := 0; !slices.ContainsFunc(watchers, func(w watcher) bool { return w.last.Epoch == epoch }); rounds++ {
		if rounds > 100000 {
			t.Fatal("the monitors do not come to an end")
		}
		id := r.Int64N(many)
		switch w := watchers[id]; {
		case r.IntN(60) == 0:
			list[id] = impl.MonCrash(list[id])
			did["crash"]++
			continue
		case len(flight) == 0 || r.IntN(40) == 0:
			s, _ := slotIn(list[id], w.last.Epoch+1)
			m, sent, code := impl.Propose(list[id], w.proposal(r), s.Promised.No+1)
			wantNumber(t, "Propose", 0, code, 0, impl.OK)
			list[id], flight = m, append(flight, sent...)
			did["propose"]++
			continue
		}
		at := r.IntN(len(flight))
		g := flight[at]
		flight = slices.Delete(flight, at, at+1)
		if r.IntN(12) == 0 {
			did["lose"]++
			continue
		}
		m, sent, _ := impl.MonHear(list[g.To], g)
		list[g.To], flight = m, append(flight, sent...)
		watchers[g.To].see(t, m, did)
		if chosen, _ := impl.Chosen(list, g.Epoch); len(chosen) > 0 && int(g.Epoch) < len(watchers[g.To].incs)+2 {
			wantList(t, "Chosen", chosen, 0, watchers[g.To].incs[g.Epoch-2:g.Epoch-1], 0)
		}
	}
	return start, watchers
}

// see takes up what a monitor has decided, if it is news.
func (w *watcher) see(t *testing.T, m impl.Mon, did counts) {
	t.Helper()
	i, ok := impl.Decided(m)
	if !ok || i.Epoch != w.last.Epoch+1 {
		return
	}
	next, code := impl.ApplyInc(w.last, i)
	want, wantCode := applied(w.last, i)
	wantMap(t, "ApplyInc of what was decided", next, code, want, wantCode)
	wantNumber(t, "ApplyInc of what was decided", 0, code, 0, impl.OK)
	w.last, w.incs = next, append(slices.Clone(w.incs), i)
	did["decide"]++
	if m.Try.Highest != (impl.Ballot{}) {
		did["decide on what was told"]++
	}
}

// P28: monitors that decide the steps from map to map decide one thing for each
// epoch, and all the maps are a chain.
func TestMonitorsDecideAChain(t *testing.T) {
	r := source(225)
	did := counts{}
	for round := range int64(40) {
		epoch := 12 + r.Int64N(8)
		if round < 5 {
			epoch = 60
		}
		start, watchers := decideSteps(t, r, 1+round%5, epoch, did)
		var all []impl.Inc
		for _, w := range watchers {
			if len(w.incs) > len(all) {
				all = w.incs
			}
		}
		chain, code := impl.PlayIncs(start, all)
		wantMaps(t, "PlayIncs", chain, code, walked(start, all), impl.OK)
		wantOk(t, "ChainOk", impl.ChainOk(chain), true)
		wantNumber(t, "the number of maps", int64(len(chain)), 0, epoch, 0)
		for _, w := range watchers {
			wantList(t, "what a monitor has seen decided", w.incs, 0, all[:len(w.incs)], 0)
			wantMap(t, "the last map that a monitor knows", w.last, 0, chain[len(w.incs)], 0)
		}
	}
	for _, name := range []string{"crash", "propose", "lose", "decide", "decide on what was told"} {
		if did[name] < 100 {
			t.Errorf("%s: %d times", name, did[name])
		}
	}
}
