package tests

import (
	"encoding/binary"
	"fmt"
	"math/rand/v2"
	"reflect"
	"slices"
	"strings"
	"testing"

	"loop.example/g00849/impl"
)

// msgAt returns a message without content.
func msgAt(kind, from, to int64, g impl.Pg, epoch int64) impl.Msg {
	return impl.Msg{Kind: kind, From: from, To: to, Pg: g, Epoch: epoch}
}

func req(client, no int64) impl.Req {
	return impl.Req{Client: client, No: no}
}

// The following say what the document says.

func isNodeNo(n int64) bool {
	return n >= 0 && n <= 15
}

func isClientNo(n int64) bool {
	return n >= 100 && n <= 105
}

func isGivenReq(r impl.Req) bool {
	return isReq(r) && r != impl.Req{}
}

// usedFields are the fields that the table of the document names for each kind.
func usedFields(kind int64) []string {
	return strings.Fields(map[int64]string{
		impl.MsQuery:   "",
		impl.MsStarted: "",
		impl.MsNotice:  "State",
		impl.MsStart:   "State Code",
		impl.MsPull:    "Name Ver",
		impl.MsPushed:  "Name Ver",
		impl.MsPiece:   "Chunk",
		impl.MsPush:    "Chunk",
		impl.MsWrite:   "Entry Chunk Firm Code",
		impl.MsWrote:   "Ver",
		impl.MsCheck:   "Name Ver Req Firm",
		impl.MsChecked: "Name Ver Req Firm Entry Chunk",
		impl.MsOp:      "Name Op Req",
		impl.MsReply:   "Req Code Ver Body",
	}[kind])
}

// contentFields are all fields that a kind may leave unused.
func contentFields() []string {
	return []string{"Name", "Ver", "Firm", "State", "Entry", "Chunk", "Op", "Req", "Code", "Body"}
}

// isUnusedZero reports whether all fields of m that its kind does not use are
// zero.
func isUnusedZero(m impl.Msg) bool {
	if sameState(m.State, impl.PgState{}) {
		m.State = impl.PgState{}
	}
	for _, name := range contentFields() {
		if !slices.Contains(usedFields(m.Kind), name) && !reflect.ValueOf(m).FieldByName(name).IsZero() {
			return false
		}
	}
	return true
}

func isWay(m impl.Msg) bool {
	switch m.Kind {
	case impl.MsOp:
		return isClientNo(m.From) && isNodeNo(m.To) && m.Epoch >= 0 && m.Epoch <= 60
	case impl.MsReply:
		return isNodeNo(m.From) && isClientNo(m.To) && m.Epoch >= 0 && m.Epoch <= 60
	}
	return isNodeNo(m.From) && isNodeNo(m.To) && m.Epoch >= 1 && m.Epoch <= 60
}

// isChunkOf reports whether c is a valid chunk of what e wrote.
func isChunkOf(c impl.Chunk, e impl.Entry) bool {
	return isChunk(c) && c.Name == e.Name && c.Ver == e.Ver
}

func isPlaceNo(n int64) bool {
	return n >= 0 && n <= 6
}

func isCheck(m impl.Msg) bool {
	return isName(m.Name) && isVer(m.Ver) && isGivenReq(m.Req) && isVer(m.Firm)
}

// isContentOfKind follows the table of the document, row by row.
func isContentOfKind(m impl.Msg) bool {
	e := m.Entry
	switch m.Kind {
	case impl.MsQuery, impl.MsStarted:
		return true
	case impl.MsNotice:
		return isState(m.State) && m.State.Pg == m.Pg && m.State.Seen == m.Epoch
	case impl.MsStart:
		return isState(m.State) && m.State.Pg == m.Pg && len(m.State.Chunks) == 0 && isPlaceNo(m.Code)
	case impl.MsPull, impl.MsPushed:
		return isName(m.Name) && isVer(m.Ver) && m.Ver != impl.Ver{}
	case impl.MsPiece, impl.MsPush:
		return isChunk(m.Chunk)
	case impl.MsWrite:
		right := isEntry(e) && isVer(m.Firm) && isVerBelow(m.Firm, e.Ver) && isPlaceNo(m.Code)
		if e.Gone {
			return right && m.Chunk == impl.Chunk{}
		}
		return right && isChunkOf(m.Chunk, e)
	case impl.MsWrote:
		return isVer(m.Ver)
	case impl.MsCheck:
		return isCheck(m)
	case impl.MsChecked:
		right := e == impl.Entry{} || isEntry(e) && e.Name == m.Name && !e.Gone && !isVerBelow(m.Ver, e.Ver)
		return isCheck(m) && right && (m.Chunk == impl.Chunk{} || isChunkOf(m.Chunk, e))
	case impl.MsOp:
		return isName(m.Name) && isOp(simplest, m.Op) && isGivenReq(m.Req)
	case impl.MsReply:
		return isGivenReq(m.Req) && m.Code >= 0 && m.Code <= 99 && isVer(m.Ver) && len(m.Body) <= 64 && (m.Code == 0 || m.Body == "")
	}
	return false
}

func isMsg(m impl.Msg) bool {
	isGroup := m.Pg.Pool >= 1 && m.Pg.Pool <= 4 && m.Pg.No >= 0 && m.Pg.No <= 15
	return isWay(m) && isGroup && isContentOfKind(m) && isUnusedZero(m)
}

// sameMsg reports whether two messages are equal, where no list is an empty one.
func sameMsg(a, b impl.Msg) bool {
	if !sameState(a.State, b.State) {
		return false
	}
	a.State, b.State = impl.PgState{}, impl.PgState{}
	return reflect.DeepEqual(a, b)
}

// copiedMsg returns a message that shares no memory with m.
func copiedMsg(m impl.Msg) impl.Msg {
	m.State = copiedState(m.State)
	return m
}

func wantMsg(t *testing.T, name string, got impl.Msg, code int64, want impl.Msg, wantCode int64) {
	t.Helper()
	if !sameMsg(got, want) || code != wantCode {
		t.Errorf("%s: %+v, code %d; want %+v, code %d", name, got, code, want, wantCode)
	}
}

// bodyOfMsg returns the body of a message, number by number. It need not be valid.
func bodyOfMsg(m impl.Msg) string {
	var body []byte
	put := func(list ...int64) {
		for _, n := range list {
			body = binary.AppendUvarint(body, uint64(n))
		}
	}
	text := func(text string) { body = append(body, putText(text)...) }
	state, operation := "", ""
	if !sameState(m.State, impl.PgState{}) {
		state = formOfState(m.State)
	}
	if m.Op != (impl.Op{}) {
		operation = opForm(m.Op)
	}
	put(m.Kind, m.From, m.To, m.Pg.Pool, m.Pg.No, m.Epoch)
	text(m.Name)
	put(m.Ver.Epoch, m.Ver.Seq, m.Firm.Epoch, m.Firm.Seq)
	text(state)
	e, c := m.Entry, m.Chunk
	put(e.Ver.Epoch, e.Ver.Seq, e.Prior.Epoch, e.Prior.Seq)
	text(e.Name)
	put(map[bool]int64{true: 1}[e.Gone], e.Size, e.Sum, e.Req.Client, e.Req.No)
	text(c.Name)
	put(c.Ver.Epoch, c.Ver.Seq, c.Pos, c.Sum)
	text(c.Bytes)
	text(operation)
	put(m.Req.Client, m.Req.No, m.Code)
	text(m.Body)
	return string(body)
}

// framed returns a frame around a body.
func framed(body string) string {
	return putText(body) + string(binary.LittleEndian.AppendUint32(nil, uint32(crcOf(body))))
}

// loose reads numbers and texts. What it reads need not be the shortest form.
type loose struct {
	rest string
	bad  bool
}

func (l *loose) number() int64 {
	n, size := binary.Uvarint([]byte(l.rest))
	if size < 1 {
		l.bad = true
		return 0
	}
	l.rest = l.rest[size:]
	return int64(n)
}

func (l *loose) text() string {
	n := l.number()
	if n < 0 || n > int64(len(l.rest)) {
		l.bad = true
		return ""
	}
	text := l.rest[:n]
	l.rest = l.rest[n:]
	return text
}

func (l *loose) ver() impl.Ver {
	return ver(l.number(), l.number())
}

// msgIn returns the valid message that has a body, and whether there is one: what
// is read loosely has to have just that body.
func msgIn(body string) (impl.Msg, bool) {
	l := loose{rest: body}
	m := msgAt(l.number(), l.number(), l.number(), pg(l.number(), l.number()), l.number())
	m.Name, m.Ver, m.Firm = l.text(), l.ver(), l.ver()
	m.State, _, _ = impl.GetPgState(l.text())
	m.Entry = impl.Entry{Ver: l.ver(), Prior: l.ver(), Name: l.text(), Gone: l.number() == 1, Size: l.number(), Sum: l.number(), Req: req(l.number(), l.number())}
	m.Chunk = impl.Chunk{Name: l.text(), Ver: l.ver(), Pos: l.number(), Sum: l.number(), Bytes: l.text()}
	m.Op, _, _ = opIn(l.text())
	m.Req, m.Code, m.Body = req(l.number(), l.number()), l.number(), l.text()
	if l.bad || !isMsg(m) || bodyOfMsg(m) != body {
		return impl.Msg{}, false
	}
	return m, true
}

// sampleMsgs has messages of all kinds, and of all that a kind may leave out.
func sampleMsgs() []impl.Msg {
	g := pg(1, 3)
	node := func(kind int64) impl.Msg { return msgAt(kind, 3, 14, g, 5) }
	with := func(kind int64, turn func(m *impl.Msg)) impl.Msg {
		m := node(kind)
		turn(&m)
		return m
	}
	started := sampleState()
	started.Seen, started.Chunks = 9, nil
	entry := impl.Entry{Ver: ver(4, 2), Prior: ver(4, 1), Name: "a", Size: 3, Sum: crcOf("abc"), Req: req(101, 7)}
	gone := impl.Entry{Ver: ver(4, 2), Prior: ver(3, 9), Name: "a", Gone: true, Req: req(101, 7)}
	part := chunk("a", ver(4, 2), 6, "abc")
	check := func(m *impl.Msg) { m.Name, m.Ver, m.Req, m.Firm = "a", ver(4, 2), req(102, 8), ver(4, 1) }
	asked := msgAt(impl.MsOp, 103, 2, g, 0)
	asked.Name, asked.Op, asked.Req = "a", op(impl.OpWrite, 1, "XY"), req(103, 4)
	told := msgAt(impl.MsReply, 2, 103, g, 0)
	told.Req, told.Ver = req(103, 4), ver(4, 2)
	read, none := told, told
	read.Body = "abc"
	none.Code, none.Epoch = impl.ErrNone, 60
	return []impl.Msg{
		node(impl.MsQuery), node(impl.MsStarted),
		with(impl.MsNotice, func(m *impl.Msg) { m.State = sampleState() }),
		with(impl.MsNotice, func(m *impl.Msg) { m.State, m.Epoch, m.Pg = fullState(), 60, fullState().Pg }),
		with(impl.MsStart, func(m *impl.Msg) { m.State, m.Code = started, 6 }),
		with(impl.MsStart, func(m *impl.Msg) { m.State = impl.NewState(g) }),
		with(impl.MsPull, func(m *impl.Msg) { m.Name, m.Ver = "a", ver(4, 2) }),
		with(impl.MsPushed, func(m *impl.Msg) { m.Name, m.Ver = "longname", ver(60, 1000) }),
		with(impl.MsPiece, func(m *impl.Msg) { m.Chunk = part }),
		with(impl.MsPush, func(m *impl.Msg) { m.Chunk = impl.Chunk{Name: "b", Ver: ver(1, 1), Sum: 7, Bytes: "rotten"} }),
		with(impl.MsWrite, func(m *impl.Msg) { m.Entry, m.Chunk, m.Firm, m.Code = entry, part, ver(4, 1), 2 }),
		with(impl.MsWrite, func(m *impl.Msg) { m.Entry, m.Code = gone, 6 }),
		with(impl.MsWrote, func(m *impl.Msg) { m.Ver = ver(4, 2) }),
		with(impl.MsWrote, func(m *impl.Msg) {}),
		with(impl.MsCheck, check),
		with(impl.MsCheck, func(m *impl.Msg) { m.Name, m.Req = "b", req(100, 1) }),
		with(impl.MsChecked, check),
		with(impl.MsChecked, func(m *impl.Msg) { check(m); m.Entry = entry }),
		with(impl.MsChecked, func(m *impl.Msg) { check(m); m.Entry, m.Chunk = entry, part }),
		with(impl.MsChecked, func(m *impl.Msg) { check(m); m.Entry, m.Chunk, m.Ver = entry, part, ver(9, 1) }),
		asked, told, read, none,
	}
}

// sampleOf returns the first sample of a kind.
func sampleOf(kind int64) impl.Msg {
	all := sampleMsgs()
	return all[slices.IndexFunc(all, func(m impl.Msg) bool { return m.Kind == kind })]
}

func someVer(r *rand.Rand) impl.Ver {
	return ver(1+r.Int64N(60), 1+r.Int64N(1000))
}

func someReq(r *rand.Rand) impl.Req {
	return req(100+r.Int64N(6), 1+r.Int64N(1000))
}

// someMsg returns a valid message of a kind.
func someMsg(r *rand.Rand, kind int64) impl.Msg {
	m := msgAt(kind, r.Int64N(16), r.Int64N(16), pg(1+r.Int64N(4), r.Int64N(16)), 1+r.Int64N(60))
	switch kind {
	case impl.MsOp:
		m.From, m.Epoch = 100+r.Int64N(6), r.Int64N(61)
	case impl.MsReply:
		m.To, m.Epoch = 100+r.Int64N(6), r.Int64N(61)
	}
	name := []string{"a", "b", "obj1", "longname", "0"}[r.IntN(5)]
	e := impl.Entry{Ver: someVer(r), Name: name, Size: r.Int64N(65), Sum: r.Int64N(1 << 32)}
	if r.IntN(2) == 0 {
		e.Req = someReq(r)
	}
	if e.Ver.Epoch > 1 {
		e.Prior = ver(1+r.Int64N(e.Ver.Epoch-1), 1+r.Int64N(1000))
	}
	c := chunk(name, e.Ver, r.Int64N(7), someBytes(r, r.IntN(65)))
	has := func(field string) bool { return slices.Contains(usedFields(kind), field) }
	if has("Name") {
		m.Name = name
	}
	if has("Ver") {
		m.Ver = someVer(r)
	}
	if has("Req") {
		m.Req = someReq(r)
	}
	if has("Chunk") {
		m.Chunk = c
	}
	switch kind {
	case impl.MsNotice, impl.MsStart:
		m.State = someState(r)
		m.State.Pg = m.Pg
		if kind == impl.MsNotice {
			m.State.Seen, m.State.Started = m.Epoch, r.Int64N(m.Epoch+1)
		} else {
			m.State.Chunks, m.Code = nil, r.Int64N(7)
		}
	case impl.MsWrite:
		m.Entry, m.Firm, m.Code = e, e.Prior, r.Int64N(7)
		if r.IntN(3) == 0 {
			m.Entry.Gone, m.Entry.Size, m.Entry.Sum, m.Chunk = true, 0, 0, impl.Chunk{}
		}
	case impl.MsChecked:
		m.Entry, m.Firm, m.Ver = e, someVer(r), e.Ver
		switch r.IntN(4) {
		case 0:
			m.Ver = ver(60, 1000)
		case 1:
			m.Chunk = impl.Chunk{}
		case 2:
			m.Entry, m.Chunk = impl.Entry{}, impl.Chunk{}
		}
	case impl.MsOp:
		m.Op = someOp(r)
	case impl.MsReply:
		m.Body = someBytes(r, r.IntN(65))
		if r.IntN(2) == 0 {
			m.Code, m.Body = r.Int64N(100), ""
		}
	}
	return m
}

// rightMsgs are valid, with some of each kind.
func rightMsgs() []impl.Msg {
	r := source(201)
	list := sampleMsgs()
	for kind := int64(1); kind <= 14; kind++ {
		for range 12 {
			list = append(list, someMsg(r, kind))
		}
	}
	return list
}

// numbersInMsg points to all numbers of m.
func numbersInMsg(m *impl.Msg) []*int64 {
	list := []*int64{&m.Kind, &m.From, &m.To, &m.Pg.Pool, &m.Pg.No, &m.Epoch, &m.Ver.Epoch, &m.Ver.Seq, &m.Firm.Epoch, &m.Firm.Seq}
	list = append(append(list, numbersInState(&m.State)...), numbersInEntry(&m.Entry)...)
	return append(list, &m.Chunk.Ver.Epoch, &m.Chunk.Ver.Seq, &m.Chunk.Pos, &m.Chunk.Sum, &m.Op.Kind, &m.Op.At, &m.Req.Client, &m.Req.No, &m.Code)
}

// textsInMsg points to all texts of m, but for the bytes in its state.
func textsInMsg(m *impl.Msg) []*string {
	list := []*string{&m.Name, &m.Entry.Name, &m.Chunk.Name, &m.Chunk.Bytes, &m.Op.Bytes, &m.Body}
	return append(list, textsInState(&m.State)...)
}

// numberChanges have one number of a sample changed; some of them are valid.
func numberChanges() []impl.Msg {
	var list []impl.Msg
	for _, m := range sampleMsgs() {
		if len(m.State.Log) > 4 {
			continue
		}
		for i := range numbersInMsg(&m) {
			for _, n := range append(nearNumbers(), 8, 9, 10, 11, 12, 13, 14) {
				x := copiedMsg(m)
				*numbersInMsg(&x)[i] = n
				list = append(list, x)
			}
		}
	}
	return list
}

// textChanges have one text or mark of a sample changed; some of them are
// valid.
func textChanges() []impl.Msg {
	var list []impl.Msg
	for _, m := range sampleMsgs() {
		if len(m.State.Log) > 4 {
			continue
		}
		for i := range textsInMsg(&m) {
			for _, text := range []string{"", "a", "b", "aa", "A", "\x00", "longname", "longname9", full('l'), full('l') + "l"} {
				x := copiedMsg(m)
				*textsInMsg(&x)[i] = text
				list = append(list, x)
			}
		}
		m.Entry.Gone = !m.Entry.Gone
		list = append(list, m)
	}
	return list
}

// fieldChanges have one field that is that of another sample, or all fields but
// one; some of them are valid.
func fieldChanges() []impl.Msg {
	var list []impl.Msg
	for _, m := range sampleMsgs() {
		for _, other := range sampleMsgs() {
			for i := range reflect.TypeOf(m).NumField() {
				x := copiedMsg(m)
				reflect.ValueOf(&x).Elem().Field(i).Set(reflect.ValueOf(copiedMsg(other)).Field(i))
				list = append(list, x)
			}
		}
	}
	return list
}

func changedMsgs() []impl.Msg {
	return slices.Concat(numberChanges(), textChanges(), fieldChanges())
}

// wrongMsgs are not valid.
func wrongMsgs() []impl.Msg {
	list := []impl.Msg{{}}
	for _, m := range changedMsgs() {
		if !isMsg(m) {
			list = append(list, m)
		}
	}
	return list
}

// P25: the kinds are those of the document.
func TestMessageConstants(t *testing.T) {
	got := []int64{impl.MsQuery, impl.MsNotice, impl.MsPull, impl.MsPiece, impl.MsPush, impl.MsPushed, impl.MsStart, impl.MsStarted, impl.MsWrite, impl.MsWrote, impl.MsCheck, impl.MsChecked, impl.MsOp, impl.MsReply}
	wantList(t, "the kinds", got, 0, []int64{1, 2, 3, 4, 5, 6, 7, 8, 9, 10, 11, 12, 13, 14}, 0)
}

// P25: there are 16 nodes and six clients.
func TestNodeAndClientOk(t *testing.T) {
	for _, n := range slices.Concat(nearNumbers(), anyNumbers()) {
		wantOk(t, fmt.Sprint("NodeOk of ", n), impl.NodeOk(n), isNodeNo(n))
		wantOk(t, fmt.Sprint("ClientOk of ", n), impl.ClientOk(n), isClientNo(n))
	}
	for n := int64(-300); n < 300; n++ {
		wantOk(t, fmt.Sprint("NodeOk of ", n), impl.NodeOk(n), isNodeNo(n))
		wantOk(t, fmt.Sprint("ClientOk of ", n), impl.ClientOk(n), isClientNo(n))
	}
}

// P25: the messages of the document's table are valid.
func TestMsgOk(t *testing.T) {
	kinds := map[int64]int{}
	for _, m := range rightMsgs() {
		wantOk(t, fmt.Sprintf("MsgOk(%+v)", m), impl.MsgOk(m), true)
		wantOk(t, fmt.Sprintf("isMsg(%+v)", m), isMsg(m), true)
		kinds[m.Kind]++
	}
	if len(kinds) != 14 {
		t.Errorf("messages of %d kinds", len(kinds))
	}
	wantOk(t, "the zero message", impl.MsgOk(impl.Msg{}), false)
	named := sampleOf(impl.MsQuery)
	named.Name = "a"
	wantOk(t, "a query with a name", impl.MsgOk(named), false)
}

// P25: with one thing changed, a message is valid just if the document allows
// it.
func TestMsgOkOfChanges(t *testing.T) {
	right, wrong := map[int64]int{}, map[int64]int{}
	for _, m := range changedMsgs() {
		is := isMsg(m)
		wantOk(t, fmt.Sprintf("MsgOk(%+v)", m), impl.MsgOk(m), is)
		if is {
			right[m.Kind]++
		} else {
			wrong[m.Kind]++
		}
	}
	for kind := int64(1); kind <= 14; kind++ {
		if right[kind] < 100 || wrong[kind] < 100 {
			t.Errorf("kind %d: only %d right and %d wrong messages", kind, right[kind], wrong[kind])
		}
	}
}

// P25: what a kind does not use is zero, each number and text of it.
func TestUnusedFieldsAreZero(t *testing.T) {
	marked := map[string]func(m *impl.Msg) []any{
		"Name": func(m *impl.Msg) []any { return []any{&m.Name} },
		"Ver":  func(m *impl.Msg) []any { return []any{&m.Ver.Epoch, &m.Ver.Seq} },
		"Firm": func(m *impl.Msg) []any { return []any{&m.Firm.Epoch, &m.Firm.Seq} },
		"Chunk": func(m *impl.Msg) []any {
			c := &m.Chunk
			return []any{&c.Name, &c.Ver.Epoch, &c.Ver.Seq, &c.Pos, &c.Sum, &c.Bytes}
		},
		"Op":   func(m *impl.Msg) []any { return []any{&m.Op.Kind, &m.Op.At, &m.Op.Bytes} },
		"Req":  func(m *impl.Msg) []any { return []any{&m.Req.Client, &m.Req.No} },
		"Code": func(m *impl.Msg) []any { return []any{&m.Code} },
		"Body": func(m *impl.Msg) []any { return []any{&m.Body} },
		"Entry": func(m *impl.Msg) []any {
			e := &m.Entry
			return []any{&e.Ver.Epoch, &e.Ver.Seq, &e.Prior.Epoch, &e.Prior.Seq, &e.Name, &e.Gone, &e.Size, &e.Sum, &e.Req.Client, &e.Req.No}
		},
		"State": func(m *impl.Msg) []any {
			s := &m.State
			return []any{&s.Pg.Pool, &s.Pg.No, &s.Seen, &s.Started, &s.Tail.Epoch, &s.Tail.Seq, &s.Firm.Epoch, &s.Firm.Seq, &s.Base, &s.Clients, &s.Log, &s.Chunks}
		},
	}
	mark := func(part any) {
		switch x := part.(type) {
		case *int64:
			*x = 1
		case *string:
			*x = "\x00"
		case *bool:
			*x = true
		case *[]impl.Head:
			*x = make([]impl.Head, 1)
		case *[]impl.Last:
			*x = make([]impl.Last, 1)
		case *[]impl.Entry:
			*x = make([]impl.Entry, 1)
		case *[]impl.Chunk:
			*x = make([]impl.Chunk, 1)
		}
	}
	unused := 0
	for _, m := range sampleMsgs() {
		for _, field := range contentFields() {
			if slices.Contains(usedFields(m.Kind), field) {
				continue
			}
			unused++
			for i := range marked[field](&m) {
				x := copiedMsg(m)
				mark(marked[field](&x)[i])
				wantOk(t, fmt.Sprintf("with part %d of %s: %+v", i, field, x), impl.MsgOk(x), false)
				wantOk(t, "PutMsg", impl.PutMsg(x) == "", true)
			}
		}
	}
	if unused < 150 {
		t.Errorf("only %d unused fields", unused)
	}
}

// P25: what a kind uses may not be left out, where the document does not allow
// that.
func TestUsedFieldsAreNeeded(t *testing.T) {
	may := map[string]bool{"Ver of 10": true, "Ver of 11": true, "Firm of 9": true, "Firm of 11": true, "Firm of 12": true, "Code of 7": true, "Code of 9": true, "Code of 14": true, "Ver of 14": true, "Body of 14": true, "Chunk of 12": true}
	for kind := int64(1); kind <= 14; kind++ {
		m := sampleOf(kind)
		if kind == impl.MsChecked {
			m = sampleMsgs()[18]
		}
		for _, field := range usedFields(kind) {
			x := copiedMsg(m)
			reflect.ValueOf(&x).Elem().FieldByName(field).SetZero()
			if name := fmt.Sprintf("%s of %d", field, kind); name != "Entry of 12" {
				wantOk(t, "without "+name, impl.MsgOk(x), may[name])
				continue
			}
			wantOk(t, "a chunk without an entry", impl.MsgOk(x), false)
			x.Chunk = impl.Chunk{}
			wantOk(t, "neither entry nor chunk", impl.MsgOk(x), true)
		}
	}
}

// P25: an unused state may have lists that are empty rather than none.
func TestEmptyListsOfUnusedStates(t *testing.T) {
	empty := impl.PgState{Base: []impl.Head{}, Clients: []impl.Last{}, Log: []impl.Entry{}, Chunks: []impl.Chunk{}}
	for _, m := range sampleMsgs() {
		if slices.Contains(usedFields(m.Kind), "State") {
			continue
		}
		frame := impl.PutMsg(m)
		m.State = empty
		wantOk(t, "MsgOk", impl.MsgOk(m), true)
		wantText(t, "PutMsg", impl.PutMsg(m), 0, frame, 0)
	}
	m := sampleMsgs()[4]
	m.State.Chunks = []impl.Chunk{}
	wantOk(t, "an empty list of chunks", impl.MsgOk(m), true)
}

// P25: the state of a notice and of a start is a valid one of its group.
func TestMsgOkOfStates(t *testing.T) {
	right, wrong := 0, 0
	for _, s := range slices.Concat(rightStates(), wrongStates(), changedStates()) {
		for _, m := range []impl.Msg{msgAt(impl.MsNotice, 0, 0, s.Pg, s.Seen), msgAt(impl.MsStart, 15, 15, s.Pg, 60)} {
			m.State = s
			if m.Kind == impl.MsStart {
				m.State.Chunks = nil
			}
			is := isMsg(m)
			wantOk(t, fmt.Sprintf("MsgOk(%+v)", m), impl.MsgOk(m), is)
			if is {
				right++
			} else {
				wrong++
			}
		}
	}
	if right < 300 || wrong < 300 {
		t.Errorf("only %d right and %d wrong states", right, wrong)
	}
}

// P25: clients ask for what is valid with one data shard and no other.
func TestMsgOkOfOps(t *testing.T) {
	m := sampleOf(impl.MsOp)
	for _, o := range rightOps() {
		m.Op = o
		wantOk(t, fmt.Sprintf("%+v", o), impl.MsgOk(m), true)
	}
	for _, o := range wrongOps() {
		m.Op = o
		wantOk(t, fmt.Sprintf("%+v", o), impl.MsgOk(m), false)
	}
}

// P25: names are as in chapter 9, in all kinds that have them.
func TestMsgOkOfNames(t *testing.T) {
	for _, m := range sampleMsgs() {
		for _, names := range [][]string{rightNames()[:200], wrongNames()} {
			for _, name := range names {
				x := m
				for _, text := range []*string{&x.Name, &x.Entry.Name, &x.Chunk.Name} {
					if *text != "" {
						*text = name
					}
				}
				wantOk(t, fmt.Sprintf("%+v", x), impl.MsgOk(x), isMsg(x))
			}
		}
	}
}

// P25: messages go from node to node, also to the same one; clients ask, and
// are told.
func TestMsgOkOfWays(t *testing.T) {
	ends := []int64{-1, 0, 1, 15, 16, 99, 100, 105, 106}
	for _, m := range sampleMsgs() {
		for _, from := range ends {
			for _, to := range ends {
				m.From, m.To = from, to
				wantOk(t, fmt.Sprintf("kind %d from %d to %d", m.Kind, from, to), impl.MsgOk(m), isWay(m))
			}
		}
	}
}

// P25: messages are the same if all their fields are, valid or not.
func TestMsgSame(t *testing.T) {
	list := append(rightMsgs(), impl.Msg{}, impl.Msg{Kind: 99}, impl.Msg{State: impl.PgState{Chunks: []impl.Chunk{{}}}})
	for i, a := range list {
		for k, b := range list {
			wantOk(t, fmt.Sprintf("the messages %d and %d", i, k), impl.MsgSame(copiedMsg(a), b), sameMsg(a, b))
		}
	}
	same, other := 0, 0
	changed := changedMsgs()
	for i, m := range sampleMsgs() {
		for _, x := range changed {
			if x.Kind != m.Kind && i > 0 {
				continue
			}
			want := sameMsg(m, x)
			if want {
				same++
			} else {
				other++
			}
			if impl.MsgSame(m, x) != want || impl.MsgSame(x, m) != want {
				t.Errorf("MsgSame of %+v and %+v is not %v", m, x, want)
			}
		}
	}
	if same < 1000 || other < 1000 {
		t.Errorf("only %d same and %d other messages", same, other)
	}
	none, empty := impl.Msg{}, impl.Msg{State: impl.PgState{Base: []impl.Head{}, Clients: []impl.Last{}, Log: []impl.Entry{}, Chunks: []impl.Chunk{}}}
	wantOk(t, "no lists and empty ones", impl.MsgSame(none, empty) && impl.MsgSame(empty, none), true)
}

// P25: messages that differ in one number, text, mark or element are not the
// same.
func TestMsgSameTellsAllApart(t *testing.T) {
	full := sampleMsgs()[2]
	other := sampleMsgs()[18]
	full.Name, full.Ver, full.Firm, full.Entry, full.Chunk, full.Req = other.Name, other.Ver, other.Firm, other.Entry, other.Chunk, other.Req
	full.Op, full.Code, full.Body = op(3, 4, "bytes"), 9, "body"
	wantTold := func(turn func(m *impl.Msg)) {
		t.Helper()
		x := copiedMsg(full)
		turn(&x)
		wantOk(t, fmt.Sprintf("MsgSame of %+v", x), impl.MsgSame(full, x) || impl.MsgSame(x, full), false)
	}
	for i := range numbersInMsg(&full) {
		wantTold(func(m *impl.Msg) { *numbersInMsg(m)[i] ^= 1 })
		wantTold(func(m *impl.Msg) { *numbersInMsg(m)[i] ^= 1 << 40 })
	}
	for i := range textsInMsg(&full) {
		wantTold(func(m *impl.Msg) { *textsInMsg(m)[i] += "\x00" })
	}
	wantTold(func(m *impl.Msg) { m.Entry.Gone = !m.Entry.Gone })
	wantTold(func(m *impl.Msg) { m.State.Log[1].Gone = false })
	wantTold(func(m *impl.Msg) { m.State.Chunks[0].Bytes = "ho" })
	wantTold(func(m *impl.Msg) { m.State.Base = m.State.Base[:2] })
	wantTold(func(m *impl.Msg) { m.State.Clients = m.State.Clients[:1] })
	wantTold(func(m *impl.Msg) { m.State.Log = m.State.Log[:3] })
	wantTold(func(m *impl.Msg) { m.State.Chunks = m.State.Chunks[:5] })
}

// P25: frames have the bytes of the document.
func TestPutMsg(t *testing.T) {
	m := sampleOf(impl.MsQuery)
	body := "\x01\x03\x0e\x01\x03\x05" + "\x00" + "\x00\x00" + "\x00\x00" + "\x00" + strings.Repeat("\x00", 10) + strings.Repeat("\x00", 6) + "\x00" + "\x00\x00" + "\x00" + "\x00"
	wantText(t, "a query", impl.PutMsg(m), 0, "\x21"+body+string(binary.LittleEndian.AppendUint32(nil, uint32(crcOf(body)))), 0)
	m = sampleMsgs()[18]
	m.Entry.Sum, m.Chunk.Sum = 300, 7
	body = "\x0c\x03\x0e\x01\x03\x05" + "\x01a" + "\x04\x02" + "\x04\x01" + "\x00" + "\x04\x02\x04\x01\x01a\x00\x03\xac\x02\x65\x07" + "\x01a\x04\x02\x06\x07\x03abc" + "\x00" + "\x66\x08" + "\x00" + "\x00"
	wantText(t, "a message about a read", impl.PutMsg(m), 0, framed(body), 0)
	m = sampleMsgs()[11]
	body = "\x09\x03\x0e\x01\x03\x05" + "\x00" + "\x00\x00" + "\x00\x00" + "\x00" + "\x04\x02\x03\x09\x01a\x01\x00\x00\x65\x07" + "\x00\x00\x00\x00\x00\x00" + "\x00" + "\x00\x00" + "\x06" + "\x00"
	wantText(t, "a message about a deletion", impl.PutMsg(m), 0, framed(body), 0)
	m = sampleOf(impl.MsOp)
	body = "\x0d\x67\x02\x01\x03\x00" + "\x01a" + "\x00\x00" + "\x00\x00" + "\x00" + strings.Repeat("\x00", 10) + strings.Repeat("\x00", 6) + "\x05\x03\x01\x02XY" + "\x67\x04" + "\x00" + "\x00"
	wantText(t, "a client's message", impl.PutMsg(m), 0, framed(body), 0)
	for _, m := range rightMsgs() {
		wantText(t, fmt.Sprintf("PutMsg(%+v)", m), impl.PutMsg(m), 0, framed(bodyOfMsg(m)), 0)
	}
	for _, m := range wrongMsgs() {
		wantText(t, fmt.Sprintf("PutMsg(%+v)", m), impl.PutMsg(m), 0, "", 0)
	}
}

// P25: a right message comes back from its frame, and from nothing shorter or
// longer.
func TestMessagesComeBack(t *testing.T) {
	for i, m := range rightMsgs() {
		frame := impl.PutMsg(m)
		got, code := impl.GetMsg(frame)
		wantMsg(t, "GetMsg", got, code, m, impl.OK)
		for _, behind := range []string{"\x00", "\xff", frame, "0000"} {
			got, code = impl.GetMsg(frame + behind)
			wantMsg(t, "GetMsg of a longer frame", got, code, impl.Msg{}, impl.ErrRead)
		}
		for n := range len(frame) {
			if n < 40 || n > len(frame)-10 || i%10 == 0 {
				got, code = impl.GetMsg(frame[:n])
				wantMsg(t, fmt.Sprintf("GetMsg of the first %d bytes of %x", n, frame), got, code, impl.Msg{}, impl.ErrRead)
			}
		}
		got, code = impl.GetMsg("\x00" + frame)
		wantMsg(t, "GetMsg of a byte and a frame", got, code, impl.Msg{}, impl.ErrRead)
	}
}

// P25: with one byte turned, a frame is not read: its length does not fit, or its
// checksum.
func TestTurnedFrames(t *testing.T) {
	codes := map[int64]int{}
	wantTurned := func(frame string, at int, by byte) {
		turned := []byte(frame)
		turned[at] ^= by
		size, n := binary.Uvarint(turned)
		want := int64(impl.ErrSum)
		if n < 1 || size+uint64(n)+4 != uint64(len(frame)) || n > 1 && turned[n-1] == 0 {
			want = impl.ErrRead
		}
		codes[want]++
		got, code := impl.GetMsg(string(turned))
		if !sameMsg(got, impl.Msg{}) || code != want {
			t.Fatalf("GetMsg of %x: %+v, code %d; want code %d", turned, got, code, want)
		}
	}
	for i, m := range rightMsgs() {
		frame := impl.PutMsg(m)
		for at := range frame {
			if len(frame) > 300 && at > 20 && at < len(frame)-20 && at%37 != i%37 {
				continue
			}
			for by := 1; by < 256; by++ {
				if by&(by-1) == 0 || at < 3 || i%14 == 0 && len(frame) < 300 {
					wantTurned(frame, at, byte(by))
				}
			}
		}
	}
	if codes[impl.ErrRead] < 1000 || codes[impl.ErrSum] < 1000 {
		t.Errorf("codes %v", codes)
	}
}

// P25: what is wrong with a text is told in the document's order.
func TestGetMsgErrors(t *testing.T) {
	good := bodyOfMsg(sampleOf(impl.MsQuery))
	wrong := impl.PutMsg(sampleOf(impl.MsQuery))
	wrong = wrong[:len(wrong)-1] + string([]byte{wrong[len(wrong)-1] ^ 1})
	for _, x := range []struct {
		name, text string
		want       int64
	}{
		{"nothing", "", impl.ErrRead},
		{"no body and no checksum", "\x00", impl.ErrRead},
		{"no body and three bytes", "\x00\x00\x00\x00", impl.ErrRead},
		{"no body", "\x00\x00\x00\x00\x00", impl.ErrForm},
		{"no body and a wrong checksum", "\x00\x00\x00\x00\x01", impl.ErrSum},
		{"no body and five bytes", "\x00\x00\x00\x00\x00\x00", impl.ErrRead},
		{"no checksum", putText(good), impl.ErrRead},
		{"a wrong checksum", wrong, impl.ErrSum},
		{"a wrong checksum, and one byte more", wrong + "0", impl.ErrRead},
		{"a checksum the other way round", putText(good) + string(binary.BigEndian.AppendUint32(nil, uint32(crcOf(good)))), impl.ErrSum},
		{"the checksum of the length and the body", putText(good) + string(binary.LittleEndian.AppendUint32(nil, uint32(crcOf(putText(good))))), impl.ErrSum},
		{"no message, and a wrong checksum", putText("x") + "0000", impl.ErrSum},
		{"no message", framed("x"), impl.ErrForm},
		{"a long length", "\xa1\x00" + good + framed(good)[34:], impl.ErrRead},
		{"a length of 2^62", "\x80\x80\x80\x80\x80\x80\x80\x80\x40" + good + "0000", impl.ErrRead},
		{"a length above 2^62", "\x81\x80\x80\x80\x80\x80\x80\x80\x40" + good + "0000", impl.ErrRead},
		{"a body and a byte", framed(good + "\x00"), impl.ErrForm},
		{"two bodies", framed(good + good), impl.ErrForm},
		{"a body without its last byte", framed(good[:len(good)-1]), impl.ErrForm},
	} {
		got, code := impl.GetMsg(x.text)
		wantMsg(t, x.name, got, code, impl.Msg{}, x.want)
	}
	for _, text := range anyTexts() {
		got, code := impl.GetMsg(text)
		wantMsg(t, fmt.Sprintf("GetMsg(%x)", text), got, code, impl.Msg{}, impl.ErrRead)
		got, code = impl.GetMsg(framed(text))
		wantMsg(t, fmt.Sprintf("GetMsg of the body %x", text), got, code, impl.Msg{}, impl.ErrForm)
	}
}

// wantBody holds what is read from a right frame around any body against what
// the document says, and reports whether there is a message.
func wantBody(t *testing.T, body string) bool {
	t.Helper()
	want, there := msgIn(body)
	got, code := impl.GetMsg(framed(body))
	if !sameMsg(got, want) || there != (code == impl.OK) || !there && code != impl.ErrForm {
		t.Fatalf("GetMsg of the body %x: %+v, code %d; want %+v, %v", body, got, code, want, there)
	}
	return there
}

// P25: a message that is not valid has no frame, though the checksum is right.
func TestFramesOfWrongMessages(t *testing.T) {
	there, none := 0, 0
	isNegative := func(n *int64) bool { return *n < 0 }
	for _, m := range changedMsgs() {
		if slices.ContainsFunc(numbersInMsg(&m), isNegative) {
			continue
		}
		if wantBody(t, bodyOfMsg(m)) {
			there++
		} else {
			none++
		}
	}
	if there < 1000 || none < 1000 {
		t.Errorf("only %d right and %d wrong messages", there, none)
	}
}

// P25: a body that is one byte away from a message's is that of another message
// or of none, and numbers are taken in their shortest form only.
func TestChangedBodies(t *testing.T) {
	there, none := 0, 0
	count := func(is bool) {
		if is {
			there++
		} else {
			none++
		}
	}
	for _, m := range sampleMsgs() {
		body := bodyOfMsg(m)
		if len(body) > 1000 {
			continue
		}
		for at := range body {
			for b := range 256 {
				if b < 16 || b%16 == 1 || b > 250 || byte(b)^body[at] < 3 {
					count(wantBody(t, body[:at]+string([]byte{byte(b)})+body[at+1:]))
				}
			}
			count(wantBody(t, body[:at]+string([]byte{body[at] | 0x80, 0})+body[at+1:]))
			count(wantBody(t, body[:at]+body[at+1:]))
			count(wantBody(t, body[:at]+"\x00"+body[at:]))
			count(wantBody(t, body[:at]))
		}
		count(wantBody(t, body+"\x00"))
	}
	if there < 500 || none < 10000 {
		t.Errorf("%d messages, %d others", there, none)
	}
}

// P25: the state and the operation are all of their strings, and valid.
func TestInnerForms(t *testing.T) {
	notice, asked := sampleMsgs()[2], sampleOf(impl.MsOp)
	state, operation := formOfState(notice.State), opForm(asked.Op)
	wantInner := func(body, inner, other string, want bool) {
		t.Helper()
		if strings.Count(body, putText(inner)) != 1 {
			t.Fatal("the form is not there once")
		}
		wantOk(t, fmt.Sprintf("the form %x", other), wantBody(t, strings.Replace(body, putText(inner), putText(other), 1)), want)
	}
	wantInner(bodyOfMsg(notice), state, state, true)
	wantInner(bodyOfMsg(asked), operation, operation, true)
	for _, end := range []string{"\x00", "\x80", "x"} {
		wantInner(bodyOfMsg(notice), state, state+end, false)
		wantInner(bodyOfMsg(asked), operation, operation+end, false)
	}
	for _, other := range []string{"", state[:len(state)-1], state + state, "\x01", operation} {
		wantInner(bodyOfMsg(notice), state, other, false)
	}
	for _, other := range []string{"", operation[:len(operation)-1], operation + operation, "\x07\x00\x00", "\x01\x01\x00", state} {
		wantInner(bodyOfMsg(asked), operation, other, false)
	}
	wantInner(bodyOfMsg(asked), operation, "\x01\x00\x00", true)
	// What is not used is not there, rather than a form of something.
	query := bodyOfMsg(sampleOf(impl.MsQuery))
	for _, form := range []string{formOfState(impl.PgState{}), formOfState(impl.NewState(pg(1, 3))), "\x00"} {
		wantOk(t, "a query with a state", wantBody(t, query[:11]+putText(form)+query[12:]), false)
	}
	for _, form := range []string{opForm(impl.Op{}), opForm(op(impl.OpRead, 0, "")), "\x00"} {
		wantOk(t, "a query with an operation", wantBody(t, query[:28]+putText(form)+query[29:]), false)
	}
}
