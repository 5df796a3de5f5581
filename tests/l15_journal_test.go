package tests

import (
	"encoding/binary"
	"fmt"
	"math/rand/v2"
	"slices"
	"strings"
	"testing"

	"loop.example/g00849/impl"
)

// rawCell returns a sector with the given parts and the right checksum.
func rawCell(gen, batch uint32, last, size, pad1, pad2 byte, bytes string) string {
	rest := binary.LittleEndian.AppendUint32(nil, gen)
	rest = binary.LittleEndian.AppendUint32(rest, batch)
	rest = append(rest, last, size, pad1, pad2)
	rest = append(rest, bytes...)
	rest = append(rest, make([]byte, 60-len(rest))...)
	sum := binary.LittleEndian.AppendUint32(nil, uint32(crcOf(string(rest))))
	return string(sum) + string(rest)
}

// formatOf returns the format of a valid cell.
func formatOf(c impl.Cell) string {
	last := byte(0)
	if c.Last {
		last = 1
	}
	return rawCell(uint32(c.Gen), uint32(c.Batch), last, byte(len(c.Bytes)), 0, 0, c.Bytes)
}

func isCell(c impl.Cell) bool {
	return c.Gen >= 0 && c.Gen <= 2147483647 && c.Batch >= 0 && c.Batch <= 2147483647 && len(c.Bytes) <= 48
}

// cellIn reads a sector part by part.
func cellIn(sector string) (impl.Cell, bool) {
	if len(sector) != 64 || binary.LittleEndian.Uint32([]byte(sector)) != uint32(crcOf(sector[4:])) {
		return impl.Cell{}, false
	}
	gen, batch := binary.LittleEndian.Uint32([]byte(sector[4:])), binary.LittleEndian.Uint32([]byte(sector[8:]))
	last, size := sector[12], int(sector[13])
	if gen > 2147483647 || batch > 2147483647 || last > 1 || size > 48 || strings.Trim(sector[14:16]+sector[16+size:], "\x00") != "" {
		return impl.Cell{}, false
	}
	return impl.Cell{Gen: int64(gen), Batch: int64(batch), Last: last == 1, Bytes: sector[16 : 16+size]}, true
}

func part(gen, batch int64, last bool, bytes string) impl.Cell {
	return impl.Cell{Gen: gen, Batch: batch, Last: last, Bytes: bytes}
}

// headCell returns the head of a generation.
func headCell(gen, half int64) impl.Cell {
	return part(gen, 0, true, string([]byte{byte(half)}))
}

// putText returns a frame behind its length.
func putText(frame string) string {
	return string(binary.AppendUvarint(nil, uint64(len(frame)))) + frame
}

// partsOf returns the cells of a batch.
func partsOf(gen, batch int64, frames ...string) []impl.Cell {
	text := ""
	for _, frame := range frames {
		text += putText(frame)
	}
	return partsOfText(gen, batch, text)
}

func partsOfText(gen, batch int64, text string) []impl.Cell {
	var list []impl.Cell
	for ; len(text) > 48; text = text[48:] {
		list = append(list, part(gen, batch, false, text[:48]))
	}
	return append(list, part(gen, batch, true, text))
}

// framesIn returns the frames of a batch with the given text, and whether it is
// the text of a batch.
func framesIn(text string) ([]string, bool) {
	var list []string
	for text != "" {
		size, n := binary.Uvarint([]byte(text))
		if n <= 0 || size > 16000 || uint64(len(text)-n) < size {
			return nil, false
		}
		frame := text[n : n+int(size)]
		if !strings.HasPrefix(text, putText(frame)) {
			return nil, false
		}
		list, text = append(list, frame), text[n+int(size):]
	}
	return list, len(list) >= 1 && len(list) <= 40
}

// batchIn returns the frames of a batch of all the given cells, its number, and
// whether they are one.
func batchIn(cells []impl.Cell) ([]string, int64, bool) {
	// This is looked at first because no other look is as short.
	if !cells[len(cells)-1].Last {
		return nil, 0, false
	}
	text, number := "", cells[0].Batch
	for i, c := range cells {
		isLast := i == len(cells)-1
		if c.Batch != number || number == 0 || c.Last != isLast || !isLast && len(c.Bytes) != 48 {
			return nil, 0, false
		}
		text += c.Bytes
	}
	frames, ok := framesIn(text)
	return frames, number, ok
}

// halfIn returns the sectors of a half.
func halfIn(d impl.Disk, half int64) []string {
	size := int64(len(d.Sectors)-2) / 2
	return slices.Clone(d.Sectors[2+half*size : 2+(half+1)*size])
}

// cellsIn returns the cells of a half; what is no cell of the generation is one
// of batch 0 instead.
func cellsIn(d impl.Disk, half, gen int64) []impl.Cell {
	var list []impl.Cell
	for _, sector := range halfIn(d, half) {
		c, ok := cellIn(sector)
		if !ok || c.Gen != gen {
			c = impl.Cell{}
		}
		list = append(list, c)
	}
	return list
}

// openedFrom opens a disk as the document says.
func openedFrom(d impl.Disk) (impl.Journal, []string, int64) {
	if !isDisk(d) || len(d.Waits) > 0 || len(d.Sectors) < 8 {
		return impl.Journal{}, nil, impl.ErrForm
	}
	j := impl.Journal{Disk: copiedDisk(d), Gen: -1}
	for at := range int64(2) {
		c, ok := cellIn(d.Sectors[at])
		for half := range int64(2) {
			if ok && c == headCell(c.Gen, half) && c.Gen%2 == at && c.Gen > j.Gen {
				j.Gen, j.Half = c.Gen, half
			}
		}
	}
	if j.Gen < 0 {
		return impl.Journal{}, nil, impl.ErrRead
	}
	cells := cellsIn(d, j.Half, j.Gen)
	var all []string
	ahead := int64(0)
	for end := int64(1); end <= int64(len(cells)); end++ {
		frames, number, ok := batchIn(cells[j.At:end])
		if ok && number > ahead {
			all, ahead, j.At = append(all, frames...), number, end
		}
	}
	for _, c := range cells {
		j.Batch = max(j.Batch, c.Batch)
	}
	return j, all, impl.OK
}

func copiedJournal(j impl.Journal) impl.Journal {
	j.Disk, j.Frames = copiedDisk(j.Disk), slices.Clone(j.Frames)
	return j
}

// isJournal holds j against the document's sentence.
func isJournal(j impl.Journal) bool {
	opened, _, code := openedFrom(j.Disk)
	opened.Frames = j.Frames
	return code == impl.OK && sameJournal(opened, j) && len(j.Frames) <= 40 && !slices.ContainsFunc(j.Frames, func(frame string) bool { return len(frame) > 16000 })
}

func sameJournal(a, b impl.Journal) bool {
	return sameDisk(a.Disk, b.Disk) && a.Gen == b.Gen && a.Half == b.Half && a.Batch == b.Batch && a.At == b.At && slices.Equal(a.Frames, b.Frames)
}

func shownJournal(j impl.Journal) string {
	return fmt.Sprintf("Gen %d, Half %d, Batch %d, At %d, Frames %.300q, %s", j.Gen, j.Half, j.Batch, j.At, j.Frames, shownDisk(j.Disk))
}

func wantJournal(t *testing.T, name string, got impl.Journal, code int64, want impl.Journal, wantCode int64) {
	t.Helper()
	if !sameJournal(got, want) || code != wantCode {
		t.Errorf("%s: %s, code %d; want %s, code %d", name, shownJournal(got), code, shownJournal(want), wantCode)
	}
}

// wantOpened wants a disk to open as the document says, and the frames to be
// these.
func wantOpened(t *testing.T, name string, d impl.Disk, wantFrames []string, wantCode int64) {
	t.Helper()
	want, frames, _ := openedFrom(d)
	wantTexts(t, name+", as it is defined", frames, wantCode, wantFrames, wantCode)
	got, frames, code := impl.OpenJournal(d)
	wantJournal(t, name, got, code, want, wantCode)
	wantTexts(t, name, frames, code, wantFrames, wantCode)
}

// stagedFrom returns the disk of a valid journal during a sync.
func stagedFrom(j impl.Journal) (impl.Disk, int64) {
	d := copiedDisk(j.Disk)
	if len(j.Frames) == 0 {
		return d, impl.OK
	}
	size := int64(len(d.Sectors)-2) / 2
	for i, c := range partsOf(j.Gen, j.Batch+1, j.Frames...) {
		if j.At+int64(i) >= size || j.Batch == 2147483647 {
			return impl.Disk{}, impl.ErrMany
		}
		d.Waits = append(d.Waits, write(2+j.Half*size+j.At+int64(i), formatOf(c)))
	}
	return d, impl.OK
}

// syncedFrom returns a valid journal after a sync.
func syncedFrom(j impl.Journal) (impl.Journal, int64) {
	d, code := stagedFrom(j)
	if code != impl.OK {
		return impl.Journal{}, code
	}
	j.Disk, j.At = flushedFrom(d), j.At+int64(len(d.Waits))
	if len(j.Frames) > 0 {
		j.Batch++
	}
	j.Frames = nil
	return j, impl.OK
}

// filledWith returns the code of frames that are given to a journal which has
// some already.
func filledWith(n int, list []string) int64 {
	for _, frame := range list {
		if len(frame) > 16000 {
			return impl.ErrRange
		}
	}
	if n+len(list) > 40 {
		return impl.ErrMany
	}
	return impl.OK
}

// compactedFrom returns a valid journal after Compact.
func compactedFrom(j impl.Journal, list []string) (impl.Journal, int64) {
	if code := filledWith(0, list); code != impl.OK {
		return impl.Journal{}, code
	}
	if j.Gen == 2147483647 {
		return impl.Journal{}, impl.ErrMany
	}
	d, code := stagedFrom(impl.Journal{Disk: j.Disk, Gen: j.Gen + 1, Half: 1 - j.Half, Frames: list})
	if code != impl.OK {
		return impl.Journal{}, code
	}
	d = flushedFrom(d)
	d.Sectors[(j.Gen+1)%2] = formatOf(headCell(j.Gen+1, 1-j.Half))
	opened, _, code := openedFrom(d)
	return opened, code
}

// laid returns a disk of n sectors with a head, and cells from the start of its
// half on.
func laid(n int, gen, half int64, cells ...impl.Cell) impl.Disk {
	d := disk(slices.Repeat(fullOf(0), n))
	d.Sectors[gen%2] = formatOf(headCell(gen, half))
	for i, c := range cells {
		d.Sectors[2+half*int64(n-2)/2+int64(i)] = formatOf(c)
	}
	return d
}

func journalOf(d impl.Disk, frames ...string) impl.Journal {
	j, _, _ := openedFrom(d)
	j.Frames = frames
	return j
}

// someFrames returns frames whose batch has a few cells.
func someFrames(r *rand.Rand) []string {
	list := []string{someBytes(r, r.IntN(90))}
	for range r.IntN(3) {
		list = append(list, someBytes(r, r.IntN(30)))
	}
	return list
}

// scribbledHalf fills sectors with batches of mostly the same generation, most
// of which are in order and whole.
func scribbledHalf(r *rand.Rand, sectors []string, gen int64) {
	number := int64(1)
	for at := 0; at < len(sectors); {
		number += []int64{1, 1, 1, 1, 1, 2, 5, 0, -1}[r.IntN(9)]
		if r.IntN(20) == 0 {
			gen += r.Int64N(3) - 1
		}
		cells := scribbledBatch(r, max(gen, 0), max(number, 0))
		for i := 0; i < len(cells) && at < len(sectors); i++ {
			sectors[at] = formatOf(cells[i])
			at++
		}
		if r.IntN(8) == 0 {
			at++
		}
	}
	for range r.IntN(2) {
		at := r.IntN(len(sectors))
		sectors[at] = sectors[at][:20] + "?" + sectors[at][21:]
	}
}

// scribbledBatch returns cells that may be a batch.
func scribbledBatch(r *rand.Rand, gen, number int64) []impl.Cell {
	cells := partsOf(gen, number, someFrames(r)...)
	at := r.IntN(len(cells))
	switch r.IntN(24) {
	case 0:
		cells[at].Last = !cells[at].Last
	case 1:
		cells[at].Batch++
	case 2:
		cells[at].Gen++
	case 3:
		cells[at].Bytes = cells[at].Bytes[:len(cells[at].Bytes)-1]
	case 4:
		cells = slices.Delete(cells, at, at+1)
	case 5:
		cells = append(cells[:len(cells)-1], part(gen, number, false, cells[len(cells)-1].Bytes+full(0)[:48-len(cells[len(cells)-1].Bytes)]), part(gen, number, true, ""))
	case 6:
		cells = partsOfText(gen, number, strings.Repeat("\x00", 38+r.IntN(4)))
	case 7:
		cells = partsOfText(gen, number, strings.Repeat("\x00", 20)+"\x80\x00")
	case 8:
		cells = partsOfText(gen, number, strings.Repeat("\x01a", 24))
	case 9:
		cells = append(partsOfText(gen, number, strings.Repeat("\x02ab", 16)), part(gen, number, true, ""))
		cells[0].Last = false
	}
	return cells
}

// scribbled returns a disk with a head or two, most of which are right, and
// batches in both halves.
func scribbled(r *rand.Rand) impl.Disk {
	d := disk(slices.Repeat(fullOf(0), 8+r.IntN(30)))
	gen := r.Int64N(4)
	heads := []impl.Cell{headCell(gen, r.Int64N(2)), headCell(gen+1, r.Int64N(2))}
	for i, c := range heads {
		if r.IntN(4) == 0 {
			continue
		}
		switch r.IntN(30) {
		case 0:
			heads[i].Batch = 1
		case 1:
			heads[i].Last = false
		case 2:
			heads[i].Bytes = "\x02"
		case 3:
			heads[i].Gen++
		case 4:
			heads[i].Gen += 2
		}
		d.Sectors[c.Gen%2] = formatOf(heads[i])
	}
	size := int64(len(d.Sectors)-2) / 2
	for half := range int64(2) {
		scribbledHalf(r, d.Sectors[2+half*size:2+(half+1)*size], gen+r.Int64N(2))
	}
	return d
}

// someDisks are disks of journals, each in a way of its own.
func someDisks() []impl.Disk {
	list := []impl.Disk{
		laid(8, 1, 0), laid(8, 2, 1), laid(9, 0, 1), laid(8, 3, 1), laid(1200, 1, 0), laid(20, 2147483647, 0, partsOf(2147483647, 1, "z")...), laid(20, 2147483646, 1), laid(12, 1, 0, part(1, 2147483647, true, "\x01a")), laid(12, 1, 0, part(1, 2147483646, true, "\x01a")),
		laid(12, 4, 0, part(4, 0, true, "\x01a")), laid(16, 1, 0, slices.Concat(partsOf(1, 1, "hello", ""), partsOf(1, 3, full('a')), partsOf(1, 7, "end"))...),
	}
	r := source(150)
	for len(list) < 80 {
		d := scribbled(r)
		if _, _, code := openedFrom(d); code == impl.OK {
			list = append(list, d)
		}
	}
	return list
}

// someJournals are valid, with and without frames.
func someJournals() []impl.Journal {
	var list []impl.Journal
	for i, d := range someDisks() {
		list = append(list, journalOf(d), journalOf(d, [][]string{{""}, {"a", "bc"}, {full('f'), ""}, slices.Repeat([]string{""}, 40), {full(1) + full(2)}, {strings.Repeat("m", 16000)}}[i%6]...))
	}
	return list
}

// wrongJournals are not valid, each for a reason of its own.
func wrongJournals() []impl.Journal {
	list := []impl.Journal{{}, {Gen: 1}, {Disk: laid(8, 1, 0)}, {Disk: disk(slices.Repeat(fullOf(0), 8)), Gen: 1}, {Disk: disk(slices.Repeat(fullOf(0), 8))}, {Disk: impl.Disk{Sectors: laid(8, 1, 0).Sectors[:7]}, Gen: 1}}
	base := journalOf(laid(16, 1, 0, slices.Concat(partsOf(1, 1, "hello", ""), partsOf(1, 3, full('a')), partsOf(1, 7, "end"))...), "new", "frames")
	add := func(change func(j *impl.Journal)) {
		j := copiedJournal(base)
		change(&j)
		list = append(list, j)
	}
	for _, n := range append(farNumbers(), -2, -1, 1, 2) {
		add(func(j *impl.Journal) { j.Gen += n })
		add(func(j *impl.Journal) { j.Half += n })
		add(func(j *impl.Journal) { j.Batch += n })
		add(func(j *impl.Journal) { j.At += n })
	}
	for at := range 6 {
		if at != 0 {
			add(func(j *impl.Journal) { j.Disk.Sectors[at] = full(0) })
			add(func(j *impl.Journal) { j.Disk.Sectors[at] = "?" + j.Disk.Sectors[at][1:] })
		}
		add(func(j *impl.Journal) { j.Disk.Sectors[at] = j.Disk.Sectors[at][:63] })
		add(func(j *impl.Journal) { j.Disk.Sectors = j.Disk.Sectors[:at] })
	}
	for _, d := range wrongDisks() {
		add(func(j *impl.Journal) { j.Disk = d })
	}
	add(func(j *impl.Journal) { j.Disk.Waits = []impl.Pending{write(9, full(0))} })
	add(func(j *impl.Journal) { j.Disk.Sectors[6] = formatOf(part(1, 8, false, "")) })
	add(func(j *impl.Journal) { j.Disk.Sectors[6] = formatOf(part(1, 8, true, "\x00")) })
	add(func(j *impl.Journal) { j.Disk.Sectors[8] = formatOf(part(1, 9, true, "")) })
	add(func(j *impl.Journal) { j.Disk.Sectors[0] = formatOf(headCell(2, 0)) })
	add(func(j *impl.Journal) { j.Frames = slices.Repeat([]string{""}, 41) })
	add(func(j *impl.Journal) { j.Frames = []string{strings.Repeat("m", 16001)} })
	add(func(j *impl.Journal) { j.Frames = []string{"", strings.Repeat("m", 40000)} })
	return list
}

// refusedJournal wants nothing to be made of a journal, whatever else is given.
func refusedJournal(t *testing.T, j impl.Journal) {
	t.Helper()
	wantOk(t, "JournalOk", impl.JournalOk(j), false)
	for _, list := range [][]string{nil, {"a"}, slices.Repeat([]string{""}, 41), {strings.Repeat("m", 16001)}} {
		got, code := impl.AddFrames(j, list)
		wantJournal(t, "AddFrames", got, code, impl.Journal{}, impl.ErrForm)
		got, code = impl.Compact(j, list)
		wantJournal(t, "Compact", got, code, impl.Journal{}, impl.ErrForm)
	}
	d, code := impl.StageJournal(j)
	wantDisk(t, "StageJournal", d, code, impl.Disk{}, impl.ErrForm)
	got, code := impl.SyncJournal(j)
	wantJournal(t, "SyncJournal", got, code, impl.Journal{}, impl.ErrForm)
}

// someCells are valid, each in a way of its own.
func someCells() []impl.Cell {
	var list []impl.Cell
	r := source(151)
	for _, gen := range []int64{0, 1, 255, 256, 65536, 1 << 24, 2147483646, 2147483647} {
		for _, size := range []int{0, 1, 5, 47, 48} {
			for i, bytes := range []string{someBytes(r, size), full(0)[:size], full(255)[:size]} {
				list = append(list, part(gen, r.Int64N(2147483648), i == 0, bytes), part(r.Int64N(2147483648), gen, i == 1, bytes))
			}
		}
	}
	return list
}

// P20: a cell has the format that the document says, and comes back from it.
func TestPutCellAndGetCell(t *testing.T) {
	wantSame(t, "the limits", []int{impl.CellLen, impl.MaxFrame, impl.MaxBatch}, []int{48, 16000, 40})
	for _, c := range someCells() {
		sector := impl.PutCell(c)
		wantText(t, "PutCell", sector, impl.OK, formatOf(c), impl.OK)
		wantNumber(t, "its length", int64(len(sector)), impl.OK, 64, impl.OK)
		back, ok := impl.GetCell(sector)
		wantCell(t, "GetCell", back, ok, c, true)
		back, ok = cellIn(sector)
		wantCell(t, "cellIn", back, ok, c, true)
	}
	sector := impl.PutCell(part(0x01020304, 0x05060708, true, "abc"))
	wantText(t, "PutCell", sector[4:], impl.OK, "\x04\x03\x02\x01\x08\x07\x06\x05\x01\x03\x00\x00abc"+full(0)[:45], impl.OK)
	wantText(t, "PutCell of Gen -1", impl.PutCell(impl.Cell{Gen: -1}), impl.OK, "", impl.OK)
}

func wantCell(t *testing.T, name string, got impl.Cell, ok bool, want impl.Cell, wantOk bool) {
	t.Helper()
	if got != want || ok != wantOk {
		t.Errorf("%s: %v, %v; want %v, %v", name, got, ok, want, wantOk)
	}
}

// P20: what is no valid cell has no format.
func TestPutCellRefuses(t *testing.T) {
	for _, n := range append(farNumbers(), -2, -1, 2147483648, 2147483649, 4294967295, 4294967296) {
		for _, c := range []impl.Cell{part(n, 1, true, "abc"), part(1, n, true, "abc"), part(n, n, false, "")} {
			wantText(t, "PutCell", impl.PutCell(c), impl.OK, "", impl.OK)
		}
	}
	for _, size := range []int{49, 50, 64, 255, 256, 257, 5000} {
		wantText(t, "PutCell", impl.PutCell(part(1, 1, true, strings.Repeat("a", size))), impl.OK, "", impl.OK)
	}
}

// P20: a sector that is no format has no cell, though its checksum is right.
func TestGetCellRefuses(t *testing.T) {
	refuse := func(sector string) {
		t.Helper()
		c, ok := impl.GetCell(sector)
		wantCell(t, "GetCell", c, ok, impl.Cell{}, false)
	}
	right := formatOf(part(1, 2, true, "abc"))
	for n := range 64 {
		refuse(right[:n])
		refuse(right[n:] + right[:n] + "\x00")
	}
	for _, sector := range []string{right + "\x00", right + right, full(0), full(255), right[1:] + "!", right[1:] + "\x00", "\x00" + right[:63], strings.Repeat("long", 1000)} {
		refuse(sector)
	}
	for _, sector := range []string{
		rawCell(1<<31, 2, 1, 3, 0, 0, "abc"), rawCell(1<<32-1, 2, 1, 3, 0, 0, "abc"), rawCell(1, 1<<31, 1, 3, 0, 0, "abc"), rawCell(1, 1<<32-1, 1, 3, 0, 0, "abc"), rawCell(1, 2, 2, 3, 0, 0, "abc"), rawCell(1, 2, 255, 3, 0, 0, "abc"), rawCell(1, 2, 128, 3, 0, 0, "abc"),
		rawCell(1, 2, 1, 49, 0, 0, "abc"), rawCell(1, 2, 1, 255, 0, 0, "abc"), rawCell(1, 2, 1, 128, 0, 0, ""), rawCell(1, 2, 1, 49, 0, 0, full('a')[:48]), rawCell(1, 2, 1, 2, 0, 0, "abc"), rawCell(1, 2, 1, 0, 0, 0, "abc"), rawCell(1, 2, 1, 3, 1, 0, "abc"), rawCell(1, 2, 1, 3, 0, 1, "abc"), rawCell(1, 2, 1, 3, 0, 0, "abc"+full(0)[:44]+"!"),
	} {
		refuse(sector)
	}
	c, ok := impl.GetCell(rawCell(1, 2, 1, 3, 0, 0, "abc"))
	wantCell(t, "GetCell", c, ok, part(1, 2, true, "abc"), true)
	c, ok = impl.GetCell(rawCell(1, 2, 1, 4, 0, 0, "abc"))
	wantCell(t, "GetCell", c, ok, part(1, 2, true, "abc\x00"), true)
}

// P20: with any byte turned, or some bytes next to each other, a sector has no
// cell.
func TestGetCellOfTurnedBytes(t *testing.T) {
	for i, c := range someCells() {
		sector := formatOf(c)
		for pos := range 64 {
			for _, by := range []byte{1, 2, 128, 255, byte(i + 1)} {
				bytes := []byte(sector)
				for k := pos; k < min(64, pos+1+i%4); k++ {
					bytes[k] ^= by
				}
				got, ok := impl.GetCell(string(bytes))
				wantCell(t, "GetCell", got, ok, impl.Cell{}, false)
			}
		}
	}
}

// P20: a new journal has a head and nothing else.
func TestNewJournal(t *testing.T) {
	for _, n := range []int64{8, 9, 10, 11, 100, 1199, 1200} {
		j, code := impl.NewJournal(n)
		wantJournal(t, "NewJournal", j, code, impl.Journal{Disk: laid(int(n), 1, 0), Gen: 1}, impl.OK)
		wantOk(t, "JournalOk", impl.JournalOk(j), true)
		wantOpened(t, "a new journal", j.Disk, nil, impl.OK)
	}
	for _, n := range append(farNumbers(), -8, -1, 0, 1, 2, 6, 7, 1201, 1202, 2400) {
		j, code := impl.NewJournal(n)
		wantJournal(t, "NewJournal", j, code, impl.Journal{}, impl.ErrRange)
	}
}

// P20: a disk is opened as the document says, whatever is on it.
func TestOpenJournal(t *testing.T) {
	r := source(152)
	codes, framed, beyond, late := map[int64]int{}, 0, 0, 0
	for range 6000 {
		d := scribbled(r)
		want, wantFrames, wantCode := openedFrom(d)
		got, frames, code := impl.OpenJournal(d)
		wantJournal(t, "OpenJournal", got, code, want, wantCode)
		wantTexts(t, "its frames", frames, code, wantFrames, wantCode)
		if t.Failed() {
			t.FailNow()
		}
		codes[code]++
		if len(frames) > 2 {
			framed++
		}
		cells := append(cellsIn(d, got.Half, got.Gen), impl.Cell{})
		if c := cells[got.At]; code == impl.OK && c.Batch > 0 {
			beyond++
			if c.Batch < got.Batch {
				late++
			}
		}
	}
	if codes[impl.OK] < 1000 || codes[impl.ErrRead] < 100 || framed < 500 || beyond < 500 || late < 500 {
		t.Errorf("codes %v, %d with some frames, %d with a cell behind them, %d with one of a greater batch further behind", codes, framed, beyond, late)
	}
}

// P20: what is a batch and what is none, case by case.
func TestOpenJournalExamples(t *testing.T) {
	full48 := strings.Repeat("\x02ab", 16)
	abs := slices.Repeat([]string{"ab"}, 16)
	for i, v := range []struct {
		cells     []impl.Cell
		frames    []string
		batch, at int64
	}{
		{nil, nil, 0, 0},
		{[]impl.Cell{part(1, 1, true, "\x01a")}, []string{"a"}, 1, 1},
		{[]impl.Cell{part(1, 5, true, "\x01a\x00\x02bc")}, []string{"a", "", "bc"}, 5, 1},
		{[]impl.Cell{part(1, 1, true, "\x01a"), part(1, 3, true, "\x01b")}, []string{"a", "b"}, 3, 2},
		{[]impl.Cell{part(1, 3, true, "\x01a"), part(1, 2, true, "\x01b")}, []string{"a"}, 3, 1},
		{[]impl.Cell{part(1, 2, true, "\x01a"), part(1, 2, true, "\x01b")}, []string{"a"}, 2, 1},
		{[]impl.Cell{part(1, 2, true, "\x01a"), part(1, 1, true, "\x01b"), part(1, 4, true, "\x01c")}, []string{"a"}, 4, 1},
		{[]impl.Cell{part(1, 0, true, "\x01a")}, nil, 0, 0},
		{[]impl.Cell{part(1, 0, true, "\x01a"), part(1, 1, true, "\x01b")}, nil, 1, 0},
		{[]impl.Cell{part(1, 1, false, "\x01a")}, nil, 1, 0},
		{[]impl.Cell{part(1, 1, false, full48), part(1, 1, true, "\x01c")}, append(slices.Clone(abs), "c"), 1, 2},
		{[]impl.Cell{part(1, 1, false, full48[:45]), part(1, 1, true, "\x01c")}, nil, 1, 0},
		{[]impl.Cell{part(1, 1, false, full48), part(1, 2, true, "\x01c")}, nil, 2, 0},
		{[]impl.Cell{part(1, 2, false, full48), part(1, 1, true, "\x01c")}, nil, 2, 0},
		{[]impl.Cell{part(1, 1, false, full48), part(2, 1, true, "\x01c")}, nil, 1, 0},
		{[]impl.Cell{part(1, 1, false, full48), part(1, 1, true, "")}, abs, 1, 2},
		{[]impl.Cell{part(1, 1, true, full48), part(1, 1, true, "\x01c")}, abs, 1, 1},
		{[]impl.Cell{part(1, 1, true, full48), part(1, 2, true, "")}, abs, 2, 1},
		{[]impl.Cell{part(1, 1, true, "")}, nil, 1, 0},
		{[]impl.Cell{part(1, 1, true, full(0)[:40])}, slices.Repeat([]string{""}, 40), 1, 1},
		{[]impl.Cell{part(1, 1, true, full(0)[:41])}, nil, 1, 0},
		{[]impl.Cell{part(1, 1, true, "\x01a\x80\x00")}, nil, 1, 0},
		{[]impl.Cell{part(1, 1, true, "\x81\x00a")}, nil, 1, 0},
		{[]impl.Cell{part(1, 1, true, "\x01ab")}, nil, 1, 0},
		{[]impl.Cell{part(1, 1, true, "\x01a\x80")}, nil, 1, 0},
		{[]impl.Cell{part(1, 1, true, "\x03ab")}, nil, 1, 0},
		{[]impl.Cell{part(2, 1, true, "\x01a")}, nil, 0, 0},
		{[]impl.Cell{part(0, 1, true, "\x01a")}, nil, 0, 0},
		{[]impl.Cell{part(1, 1, true, "\x01a"), part(2, 9, true, "\x01b"), part(1, 3, true, "\x01c")}, []string{"a"}, 3, 1},
		{[]impl.Cell{part(1, 1, true, "\x01a"), part(2, 9, true, "\x01b"), part(0, 8, true, "\x01c")}, []string{"a"}, 1, 1},
		{partsOfText(1, 4, strings.Repeat("\x2f"+full('t')[:47], 7)), slices.Repeat([]string{full('t')[:47]}, 7), 4, 7},
		{slices.Repeat([]impl.Cell{part(1, 4, false, full48)}, 7), nil, 4, 0},
		{[]impl.Cell{part(1, 2147483647, true, "\x01a")}, []string{"a"}, 2147483647, 1},
		{[]impl.Cell{part(1, 1, true, "\x01a"), {}, {}, {}, {}, {}, part(1, 6, false, "")}, []string{"a"}, 6, 1},
	} {
		for half := range int64(2) {
			d := laid(16, 1, half, v.cells...)
			name := fmt.Sprintf("case %d in half %d", i, half)
			wantOpened(t, name, d, v.frames, impl.OK)
			j, _, code := impl.OpenJournal(d)
			wantJournal(t, name, j, code, impl.Journal{Disk: d, Gen: 1, Half: half, Batch: v.batch, At: v.at}, impl.OK)
		}
	}
}

// P20: a half ends where the other begins; with an odd number of sectors the
// last is in none.
func TestHalves(t *testing.T) {
	for _, n := range []int{8, 9, 12, 13} {
		size := (n - 2) / 2
		for half := range int64(2) {
			d := laid(n, 1, half)
			for at := range d.Sectors[2:] {
				d.Sectors[2+at] = formatOf(part(1, int64(at)+1, true, "\x01"+string(rune('a'+at))))
			}
			letters := strings.Split("abcdefghijk", "")[int(half)*size : (int(half)+1)*size]
			wantOpened(t, "a full half", d, letters, impl.OK)
			j, _, _ := impl.OpenJournal(d)
			wantJournal(t, "a full half", j, impl.OK, impl.Journal{Disk: d, Gen: 1, Half: half, Batch: (half + 1) * int64(size), At: int64(size)}, impl.OK)
			for at := range d.Sectors[2:] {
				d.Sectors[2+at] = formatOf(part(1, 1, at == size || at == len(d.Sectors)-3, strings.Repeat("\x02ab", 16)))
			}
			// The first batch ends behind the half, or its last cell is its own.
			wantOpened(t, "a batch across the end", d, map[int64][]string{1: slices.Repeat([]string{"ab"}, 16)}[half], impl.OK)
		}
	}
}

// P20: the newer of two right heads counts, and without one there is no
// journal.
func TestHeads(t *testing.T) {
	zero := full(0)
	head := func(gen, half int64) string { return formatOf(headCell(gen, half)) }
	for i, v := range []struct {
		even, odd      string
		gen, half, err int64
	}{
		{zero, zero, 0, 0, impl.ErrRead}, {full(255), full(7), 0, 0, impl.ErrRead},
		{zero, head(1, 0), 1, 0, 0}, {zero, head(1, 1), 1, 1, 0}, {head(0, 0), zero, 0, 0, 0}, {head(0, 1), zero, 0, 1, 0}, {head(2, 1), head(1, 0), 2, 1, 0}, {head(2, 0), head(3, 1), 3, 1, 0}, {head(2, 1), head(3, 0), 3, 0, 0}, {head(8, 1), head(3, 0), 8, 1, 0},
		{head(0, 1), head(1, 0), 1, 0, 0}, {head(2147483646, 1), head(2147483647, 0), 2147483647, 0, 0}, {head(2147483646, 1), head(255, 0), 2147483646, 1, 0}, {head(1<<24, 1), head(255, 0), 1 << 24, 1, 0},
		{head(1, 0), zero, 0, 0, impl.ErrRead}, {zero, head(2, 0), 0, 0, impl.ErrRead}, {head(3, 0), head(4, 1), 0, 0, impl.ErrRead}, {head(5, 0), head(3, 1), 3, 1, 0}, {head(2, 0), head(4, 1), 2, 0, 0},
		{head(2, 2), head(1, 0), 1, 0, 0}, {head(2, 255), zero, 0, 0, impl.ErrRead}, {formatOf(part(2, 0, true, "")), head(1, 1), 1, 1, 0}, {formatOf(part(2, 0, true, "\x00\x00")), head(1, 1), 1, 1, 0}, {formatOf(part(2, 0, true, "\x01\x00")), head(1, 0), 1, 0, 0}, {formatOf(part(2, 0, true, "\x80\x00")), head(1, 1), 1, 1, 0}, {formatOf(part(2, 0, true, "\x81\x00")), head(1, 0), 1, 0, 0},
		{formatOf(part(2, 0, false, "\x01")), head(1, 0), 1, 0, 0}, {formatOf(part(2, 1, true, "\x01")), head(1, 0), 1, 0, 0}, {formatOf(part(2, 1, false, "\x01")), zero, 0, 0, impl.ErrRead}, {rawCell(1<<31, 0, 1, 1, 0, 0, "\x01"), head(1, 0), 1, 0, 0}, {rawCell(2, 0, 1, 1, 0, 1, "\x01"), head(1, 0), 1, 0, 0},
	} {
		d := disk(slices.Repeat(fullOf(0), 20))
		d.Sectors[0], d.Sectors[1] = v.even, v.odd
		var frames []string
		for half := range int64(2) {
			for k, gen := range []int64{v.gen, v.gen + 1} {
				d.Sectors[2+9*half+int64(k)] = formatOf(part(min(gen, 2147483647), 1, true, "\x02"+string(rune('a'+half))+string(rune('0'+k))))
			}
		}
		want := impl.Journal{}
		if v.err == impl.OK {
			frames = []string{string(rune('a'+v.half)) + "0"}
			want = impl.Journal{Disk: d, Gen: v.gen, Half: v.half, Batch: 1, At: 1}
		}
		j, _, code := impl.OpenJournal(d)
		wantJournal(t, fmt.Sprintf("heads %d", i), j, code, want, v.err)
		wantOpened(t, fmt.Sprintf("heads %d", i), d, frames, v.err)
	}
}

// P20: what is not the disk of a journal is refused, ahead of its lack of a
// head.
func TestOpenJournalRefuses(t *testing.T) {
	list := append(wrongDisks(), disk(slices.Repeat(fullOf(0), 7)), disk(fullOf(0)))
	for n := range 7 {
		list = append(list, disk(laid(8, 1, 0).Sectors[:n+1]))
	}
	right := laid(8, 1, 0)
	for _, w := range []impl.Pending{write(0, full(0)), write(1, right.Sectors[1]), write(7, full(1))} {
		list = append(list, disk(right.Sectors, w), disk(slices.Repeat(fullOf(0), 8), w))
	}
	for _, d := range list {
		j, frames, code := impl.OpenJournal(d)
		wantJournal(t, "OpenJournal", j, code, impl.Journal{}, impl.ErrForm)
		wantTexts(t, "OpenJournal", frames, code, nil, impl.ErrForm)
	}
	for _, n := range []int{8, 9, 600, 1200} {
		wantOpened(t, "zero sectors", disk(slices.Repeat(fullOf(0), n)), nil, impl.ErrRead)
	}
}

// P20: frames may have so many bytes, and a batch so many frames, and no more;
// no disk has room for a longer batch than its half.
func TestOpenJournalOfLongFrames(t *testing.T) {
	for _, n := range []int{127, 128, 15999, 16000, 16001, 16383, 16384, 17000, 28748} {
		frame := strings.Repeat("m", n)
		var want []string
		if n <= 16000 {
			want = []string{frame}
		}
		wantOpened(t, "a long frame", laid(1200, 1, 0, partsOf(1, 1, frame)...), want, impl.OK)
		wantOpened(t, "frames ahead of a long one", laid(1200, 1, 1, append(partsOf(1, 1, "a"), partsOf(1, 2, "b", frame[:min(n, 28600)])...)...), append([]string{"a"}, slices.Concat([]string{"b"}, want)[:2*len(want)]...), impl.OK)
	}
	for _, n := range []int{39, 40, 41, 1000} {
		var want []string
		if n <= 40 {
			want = slices.Repeat([]string{"0123456789"}, n)
		}
		wantOpened(t, "many frames", laid(600, 1, 0, partsOf(1, 1, slices.Repeat([]string{"0123456789"}, n)...)...), want, impl.OK)
	}
}

// P20: a journal is valid if it is what its disk opens as, whatever its frames
// are; one that is not is refused ahead of all else.
func TestJournalOk(t *testing.T) {
	for _, j := range someJournals() {
		wantOk(t, "isJournal", isJournal(j), true)
		wantOk(t, "JournalOk", impl.JournalOk(j), true)
		for _, change := range []func(j *impl.Journal){func(j *impl.Journal) { j.Gen++ }, func(j *impl.Journal) { j.Half = 1 - j.Half }, func(j *impl.Journal) { j.Batch++ }, func(j *impl.Journal) { j.At++ }, func(j *impl.Journal) { j.Gen -= 2 }, func(j *impl.Journal) { j.Batch-- }, func(j *impl.Journal) { j.At-- }} {
			other := copiedJournal(j)
			change(&other)
			wantOk(t, "JournalOk with one number changed", impl.JournalOk(other), false)
		}
	}
	for _, j := range wrongJournals() {
		wantOk(t, "isJournal of a wrong one", isJournal(j), false)
		refusedJournal(t, j)
	}
}

// P20: frames go behind those that wait already, and nothing else changes.
func TestAddFrames(t *testing.T) {
	codes := map[int64]int{}
	long, longer := strings.Repeat("l", 16000), strings.Repeat("l", 16001)
	lists := [][]string{nil, {}, {""}, {"a", "b"}, {long}, {longer}, {"a", longer}, {longer, "a"}, slices.Repeat([]string{"c"}, 38), slices.Repeat([]string{"c"}, 39), slices.Repeat([]string{"c"}, 40), slices.Repeat([]string{"c"}, 41), append(slices.Repeat([]string{"c"}, 41), longer), slices.Repeat([]string{long}, 40)}
	for _, j := range someJournals() {
		for _, list := range lists {
			want, wantCode := copiedJournal(j), filledWith(len(j.Frames), list)
			want.Frames = slices.Concat(j.Frames, list)
			if wantCode != impl.OK {
				want = impl.Journal{}
			}
			got, code := impl.AddFrames(j, list)
			wantJournal(t, "AddFrames", got, code, want, wantCode)
			wantOk(t, "JournalOk", impl.JournalOk(got), code == impl.OK)
			codes[code]++
		}
	}
	if codes[impl.OK] < 100 || codes[impl.ErrRange] < 100 || codes[impl.ErrMany] < 100 {
		t.Errorf("codes %v", codes)
	}
}

// P20: during a sync the frames are in the write buffer, as one batch, behind
// those that are on the disk; afterwards they are on the disk.
func TestStageAndSyncJournal(t *testing.T) {
	codes := map[int64]int{}
	for _, j := range someJournals() {
		_, before, _ := openedFrom(j.Disk)
		wantD, wantCode := stagedFrom(j)
		d, code := impl.StageJournal(j)
		wantDisk(t, "StageJournal", d, code, wantD, wantCode)
		wantJ, wantCode := syncedFrom(j)
		got, code := impl.SyncJournal(j)
		wantJournal(t, "SyncJournal", got, code, wantJ, wantCode)
		codes[code]++
		if code == impl.OK {
			wantOpened(t, "a synced journal", got.Disk, slices.Concat(before, j.Frames), impl.OK)
			wantOk(t, "JournalOk", impl.JournalOk(got), true)
		}
	}
	if codes[impl.OK] < 40 || codes[impl.ErrMany] < 10 {
		t.Errorf("codes %v", codes)
	}
}

// framesFor returns frames whose batch has a text of n bytes.
func framesFor(n int) []string {
	var list []string
	for ; n > 16002; n -= 16002 {
		list = append(list, strings.Repeat("r", 16000))
	}
	// No frame has a text of 129 bytes: the length of longer ones has two.
	if n == 129 {
		return append(list, "", strings.Repeat("r", 127))
	}
	if n > 129 {
		return append(list, strings.Repeat("r", n-2))
	}
	if n > 0 {
		list = append(list, strings.Repeat("r", n-1))
	}
	return list
}

// P20: a batch may fill its half, and no more.
func TestRoomForBatches(t *testing.T) {
	for _, n := range []int{8, 9, 10, 61, 1200} {
		for i, ahead := range [][]impl.Cell{nil, partsOf(1, 1, "a"), partsOf(1, 1, full('f')), slices.Concat(partsOf(1, 1, "a"), partsOf(1, 2, "b"), partsOf(1, 3, "c"))} {
			d := laid(n, 1, int64(i%2), ahead...)
			room := ((n-2)/2 - len(ahead)) * 48
			for _, more := range []int{-96, -49, -48, -47, -1, 0, 1, 2, 47, 48, 49, 4000} {
				if room+more <= 0 {
					continue
				}
				j := journalOf(d, framesFor(room+more)...)
				want, wantCode := syncedFrom(j)
				wantNumber(t, "the code of a sync", wantCode, 0, map[bool]int64{true: impl.ErrMany}[more > 0], 0)
				got, code := impl.SyncJournal(j)
				wantJournal(t, "SyncJournal", got, code, want, wantCode)
				wantRoomInOther(t, j, j.Frames, n)
			}
		}
	}
}

// wantRoomInOther compacts a journal to frames that are few or too many.
func wantRoomInOther(t *testing.T, j impl.Journal, list []string, n int) {
	t.Helper()
	want, wantCode := compactedFrom(j, list)
	fits := len(partsOf(1, 1, list...)) <= (n-2)/2
	wantNumber(t, "the code of Compact", wantCode, 0, map[bool]int64{false: impl.ErrMany}[fits], 0)
	got, code := impl.Compact(j, list)
	wantJournal(t, "Compact", got, code, want, wantCode)
}

// P20: without frames nothing is written, though there is no room and no
// number; with frames there must be both.
func TestSyncWithoutRoom(t *testing.T) {
	for _, d := range []impl.Disk{laid(8, 1, 0, partsOf(1, 1, full('a'), full('b'))...), laid(8, 1, 1, part(1, 2147483647, true, "\x01a")), laid(8, 1, 0, impl.Cell{}, part(1, 2147483647, false, "")), laid(8, 2147483647, 0, part(2147483647, 2147483647, true, "\x01a"))} {
		j := journalOf(d)
		staged, code := impl.StageJournal(j)
		wantDisk(t, "StageJournal", staged, code, d, impl.OK)
		got, code := impl.SyncJournal(j)
		wantJournal(t, "SyncJournal", got, code, j, impl.OK)
		j.Frames = []string{""}
		staged, code = impl.StageJournal(j)
		wantDisk(t, "StageJournal", staged, code, impl.Disk{}, impl.ErrMany)
		got, code = impl.SyncJournal(j)
		wantJournal(t, "SyncJournal", got, code, impl.Journal{}, impl.ErrMany)
	}
	last := journalOf(laid(8, 1, 0, part(1, 2147483646, true, "\x01a")), "b")
	got, code := impl.SyncJournal(last)
	want, _ := syncedFrom(last)
	wantJournal(t, "SyncJournal", got, code, want, impl.OK)
	wantNumber(t, "the last number", got.Batch, code, 2147483647, impl.OK)
}

// P20: the document's example: two frames in a journal of eight sectors.
func TestSyncExample(t *testing.T) {
	j, _ := impl.NewJournal(8)
	j, code := impl.AddFrames(j, []string{"hello", ""})
	wantJournal(t, "AddFrames", j, code, impl.Journal{Disk: laid(8, 1, 0), Gen: 1, Frames: []string{"hello", ""}}, impl.OK)
	j, code = impl.SyncJournal(j)
	d := laid(8, 1, 0, part(1, 1, true, "\x05hello\x00"))
	wantJournal(t, "SyncJournal", j, code, impl.Journal{Disk: d, Gen: 1, Batch: 1, At: 1}, impl.OK)
	wantOpened(t, "the disk", j.Disk, []string{"hello", ""}, impl.OK)
	j, code = impl.Compact(j, []string{"a", "b"})
	d.Sectors[0], d.Sectors[5] = formatOf(headCell(2, 1)), formatOf(part(2, 1, true, "\x01a\x01b"))
	wantJournal(t, "Compact", j, code, impl.Journal{Disk: d, Gen: 2, Half: 1, Batch: 1, At: 1}, impl.OK)
	wantOpened(t, "the disk", j.Disk, []string{"a", "b"}, impl.OK)
}

// walk is a journal with the frames that are on its disk.
type walk struct {
	j      impl.Journal
	synced []string
}

// someWalkIn syncs and compacts a journal, and wants that to go as the document
// says.
func someWalkIn(t *testing.T, r *rand.Rand, w walk, steps int) walk {
	t.Helper()
	for range steps {
		list := someFrames(r)
		if r.IntN(5) == 0 {
			w = w.compacted(t, append(list, w.synced[:min(len(w.synced), r.IntN(3))]...))
			continue
		}
		w = w.grown(t, list)
	}
	return w
}

// grown syncs a journal with more frames, or empties it if there is no room.
func (w walk) grown(t *testing.T, list []string) walk {
	t.Helper()
	j, code := impl.AddFrames(w.j, list)
	wantNumber(t, "AddFrames", 0, code, 0, impl.OK)
	want, wantCode := syncedFrom(j)
	next, code := impl.SyncJournal(j)
	wantJournal(t, "SyncJournal", next, code, want, wantCode)
	if code != impl.OK {
		return w.compacted(t, list[:1])
	}
	synced := slices.Concat(w.synced, list)
	wantOpened(t, "a synced journal", next.Disk, synced, impl.OK)
	return walk{next, synced}
}

// compacted compacts a journal, or gives it nothing if there is no room.
func (w walk) compacted(t *testing.T, list []string) walk {
	t.Helper()
	want, wantCode := compactedFrom(w.j, list)
	next, code := impl.Compact(w.j, list)
	wantJournal(t, "Compact", next, code, want, wantCode)
	if t.Failed() {
		t.FailNow()
	}
	if code != impl.OK {
		return w.compacted(t, nil)
	}
	wantOpened(t, "a compacted journal", next.Disk, list, impl.OK)
	return walk{next, list}
}

func newWalk(n int64) walk {
	j, _ := impl.NewJournal(n)
	return walk{j: j}
}

// P20: what was synced is opened again, in order, whatever is synced and
// compacted afterwards.
func TestSyncedFramesAreOpened(t *testing.T) {
	r := source(153)
	for n := int64(8); n < 60; n++ {
		w := someWalkIn(t, r, newWalk(n), 40)
		if w.j.Gen < 4 {
			t.Errorf("with %d sectors there were %d generations", n, w.j.Gen)
		}
	}
}

// P20: if the power is lost in the midst of a sync, and no write is torn, there
// are the frames that were synced, and of the others all or none; and so it goes
// on from there.
func TestPowerLossInSync(t *testing.T) {
	r := source(154)
	whole, none, partly := 0, 0, 0
	for n := int64(8); n < 48; n++ {
		w := newWalk(n)
		for range 60 {
			w = someWalkIn(t, r, w, r.IntN(3))
			list := someFrames(r)
			j, _ := impl.AddFrames(w.j, list)
			d, code := impl.StageJournal(j)
			if code != impl.OK {
				w = w.compacted(t, list[:1])
				continue
			}
			keep := someKept(r, len(d.Waits))
			lost, _ := impl.PowerLoss(d, keep, -1)
			switch len(keep) {
			case len(d.Waits):
				w.synced = slices.Concat(w.synced, list)
				whole++
			case 0:
				none++
			default:
				partly++
			}
			wantOpened(t, "what is left", lost, w.synced, impl.OK)
			w.j, _, _ = impl.OpenJournal(lost)
			if t.Failed() {
				t.FailNow()
			}
		}
	}
	if whole < 100 || none < 100 || partly < 100 {
		t.Errorf("all writes were kept %d times, none %d times, some %d times", whole, none, partly)
	}
}

// P20: that holds for any valid journal, whatever is left on its disk of batches
// that were interrupted or have rotted.
func TestPowerLossInSyncAmongRemains(t *testing.T) {
	r := source(159)
	partly := 0
	for _, j := range someJournals() {
		_, synced, _ := openedFrom(j.Disk)
		d, code := impl.StageJournal(j)
		if code != impl.OK {
			continue
		}
		for range 20 {
			keep, want := someKept(r, len(d.Waits)), synced
			if len(keep) == len(d.Waits) {
				want = slices.Concat(synced, j.Frames)
			} else if len(keep) > 0 {
				partly++
			}
			lost, _ := impl.PowerLoss(d, keep, -1)
			wantOpened(t, "what is left", lost, want, impl.OK)
		}
	}
	if partly < 50 {
		t.Errorf("some of the writes were kept %d times", partly)
	}
}

// P20: of a batch all cells must be there, whichever is lost, also if those of an
// earlier batch of the same place are there in its stead.
func TestEachCellOfBatchIsNeeded(t *testing.T) {
	first := journalOf(laid(20, 1, 1, partsOf(1, 1, "first")...), full('a'), full('b'), full('c'))
	d, _ := impl.StageJournal(first)
	wantNumber(t, "the writes", int64(len(d.Waits)), 0, 5, 0)
	for n := range int64(6) {
		for _, keep := range choices(5, n) {
			lost, _ := impl.PowerLoss(d, keep, -1)
			if n == 5 {
				wantOpened(t, "all of it", lost, []string{"first", full('a'), full('b'), full('c')}, impl.OK)
				continue
			}
			wantOpened(t, "a part of it", lost, []string{"first"}, impl.OK)
			again, _, _ := impl.OpenJournal(lost)
			wantNumber(t, "the next number", again.Batch, 0, map[bool]int64{true: 1, false: 2}[n == 0], 0)
			again.Frames = []string{full('d'), full('e'), full('f')}
			staged, _ := impl.StageJournal(again)
			for m := range int64(6) {
				for _, kept := range choices(5, m) {
					left, _ := impl.PowerLoss(staged, kept, -1)
					want := []string{"first"}
					if m == 5 {
						want = append(want, again.Frames...)
					}
					wantOpened(t, "two parts", left, want, impl.OK)
				}
			}
			short := journalOf(lost, "short")
			synced, _ := impl.SyncJournal(short)
			wantOpened(t, "a shorter one above it", synced.Disk, []string{"first", "short"}, impl.OK)
		}
	}
}

// P20: also if a write is torn, the frames that were synced are there, and the
// others if all of their cells are.
func TestTornSync(t *testing.T) {
	r := source(155)
	whole, torn := 0, 0
	for range 60 {
		w := someWalkIn(t, r, newWalk(20+r.Int64N(20)), r.IntN(6))
		list := someFrames(r)
		j, _ := impl.AddFrames(w.j, list)
		d, code := impl.StageJournal(j)
		if code != impl.OK {
			continue
		}
		for n := range len(d.Waits) {
			for length := int64(0); length <= 64; length++ {
				keep := []int64{0, 1, 2, 3, 4, 5, 6}[:n+1]
				lost, _ := impl.PowerLoss(d, keep, length)
				want := w.synced
				if slices.Equal(lost.Sectors, flushedFrom(d).Sectors) {
					want = slices.Concat(w.synced, list)
					whole++
				} else {
					torn++
				}
				wantOpened(t, "a torn sync", lost, want, impl.OK)
				left, _, _ := impl.OpenJournal(lost)
				walk{left, want}.grown(t, []string{"next"})
			}
		}
	}
	if whole < 50 || torn < 1000 {
		t.Errorf("%d of the batches were whole, %d were not", whole, torn)
	}
}

// P20: one turned byte that is no head's takes no frame ahead of it, and puts
// none between, also when more frames are synced.
func TestRotInCells(t *testing.T) {
	r := source(156)
	taken, kept := 0, 0
	for range 25 {
		n := 8 + r.Int64N(24)
		w := someWalkIn(t, r, newWalk(n), r.IntN(9))
		ends, frames := endsIn(w.j.Disk)
		for at := int64(2); at < n; at++ {
			for pos := range int64(64) {
				d, _ := impl.RotSector(w.j.Disk, at, pos, 1+r.Int64N(255))
				// The batch that has the byte is gone, and all behind it.
				left := 0
				start := 2 + w.j.Half*((n-2)/2)
				for left < len(ends) && (at < start || at >= start+ends[left]) {
					left++
				}
				want := slices.Concat(frames[:left]...)
				wantOpened(t, "a rotten journal", d, want, impl.OK)
				if left < len(ends) {
					taken++
				} else {
					kept++
				}
				if pos%16 == 0 {
					j, _, _ := impl.OpenJournal(d)
					walk{j, want}.grown(t, someFrames(r)[:1])
				}
			}
		}
		if t.Failed() {
			t.FailNow()
		}
	}
	if taken < 1000 || kept < 1000 {
		t.Errorf("frames were taken %d times, and kept %d times", taken, kept)
	}
}

// P20: that holds for any disk of a journal: with one byte turned behind the
// heads, it has the first of its frames, or all.
func TestRotAmongRemains(t *testing.T) {
	r := source(160)
	taken := 0
	for _, d := range someDisks() {
		_, frames, _ := openedFrom(d)
		for range 200 {
			rotten, _ := impl.RotSector(d, 2+r.Int64N(int64(len(d.Sectors))-2), r.Int64N(64), 1+r.Int64N(255))
			_, left, code := impl.OpenJournal(rotten)
			wantTexts(t, "the frames that are left", left, code, frames[:min(len(left), len(frames))], impl.OK)
			if len(left) < len(frames) {
				taken++
			}
		}
	}
	if taken < 500 {
		t.Errorf("frames were taken %d times", taken)
	}
}

// endsIn returns for each batch of a journal the index in the half behind it,
// and its frames.
func endsIn(d impl.Disk) ([]int64, [][]string) {
	j, _, _ := openedFrom(d)
	cells := cellsIn(d, j.Half, j.Gen)
	var ends []int64
	var all [][]string
	start := int64(0)
	for end := int64(1); end <= j.At; end++ {
		if frames, _, ok := batchIn(cells[start:end]); ok {
			ends, all, start = append(ends, end), append(all, frames), end
		}
	}
	return ends, all
}

// P20: a compacted journal has just what it was given, whatever it had; what
// waited is dropped, and only the other half and one head are written.
func TestCompact(t *testing.T) {
	codes := map[int64]int{}
	lists := [][]string{nil, {}, {""}, {"a", "b"}, {full('a'), full('b'), full('c')}, slices.Repeat([]string{""}, 40), slices.Repeat([]string{""}, 41), {strings.Repeat("l", 16000)}, {strings.Repeat("l", 16001)}, append(slices.Repeat([]string{""}, 41), strings.Repeat("l", 16001))}
	for _, j := range someJournals() {
		for _, list := range lists {
			want, wantCode := compactedFrom(j, list)
			got, code := impl.Compact(j, list)
			wantJournal(t, "Compact", got, code, want, wantCode)
			codes[code]++
			if code != impl.OK {
				continue
			}
			wantOk(t, "JournalOk", impl.JournalOk(got), true)
			wantWrittenOnly(t, j, got, len(list) > 0)
			if isFresh(j) {
				wantOpened(t, "a compacted journal", got.Disk, list, impl.OK)
				wantNumber(t, "Gen", got.Gen, got.Half, j.Gen+1, 1-j.Half)
			}
		}
	}
	for _, code := range []int64{impl.OK, impl.ErrRange, impl.ErrMany} {
		if codes[code] < 50 {
			t.Errorf("code %d was seen %d times", code, codes[code])
		}
	}
}

// isFresh reports whether the other half has no cell of the next generation.
func isFresh(j impl.Journal) bool {
	return !slices.ContainsFunc(halfIn(j.Disk, 1-j.Half), func(sector string) bool {
		c, ok := cellIn(sector)
		return ok && c.Gen == j.Gen+1
	})
}

// wantWrittenOnly wants the half of a journal, and its head, to be as they were
// ahead of Compact; the other half too if there were no frames.
func wantWrittenOnly(t *testing.T, j, next impl.Journal, framed bool) {
	t.Helper()
	wantTexts(t, "the half", halfIn(next.Disk, j.Half), 0, halfIn(j.Disk, j.Half), 0)
	wantText(t, "the head", next.Disk.Sectors[j.Gen%2], 0, j.Disk.Sectors[j.Gen%2], 0)
	if !framed {
		wantTexts(t, "the other half", halfIn(next.Disk, 1-j.Half), 0, halfIn(j.Disk, 1-j.Half), 0)
	}
}

// P20: there are so many generations, and no more; too long frames are told
// first.
func TestLastGeneration(t *testing.T) {
	last := journalOf(laid(8, 2147483647, 0), "waits")
	for _, list := range [][]string{nil, {"a"}, slices.Repeat([]string{""}, 41)} {
		got, code := impl.Compact(last, list)
		wantJournal(t, "Compact", got, code, impl.Journal{}, impl.ErrMany)
	}
	got, code := impl.Compact(last, []string{strings.Repeat("l", 16001)})
	wantJournal(t, "Compact", got, code, impl.Journal{}, impl.ErrRange)
	ahead := journalOf(laid(8, 2147483646, 1))
	got, code = impl.Compact(ahead, []string{"a"})
	d := copiedDisk(ahead.Disk)
	d.Sectors[1], d.Sectors[2] = formatOf(headCell(2147483647, 0)), formatOf(part(2147483647, 1, true, "\x01a"))
	wantJournal(t, "Compact", got, code, impl.Journal{Disk: d, Gen: 2147483647, Batch: 1, At: 1}, impl.OK)
}

// P20: until its head is written, a compaction changes nothing; a second one is
// not hurt by what the first one left.
func TestInterruptedCompact(t *testing.T) {
	r := source(157)
	for range 200 {
		n := 12 + r.Int64N(20)
		w := someWalkIn(t, r, newWalk(n), r.IntN(9))
		next, code := impl.Compact(w.j, someFrames(r))
		if code != impl.OK {
			continue
		}
		d := copiedDisk(next.Disk)
		d.Sectors[next.Gen%2] = w.j.Disk.Sectors[next.Gen%2]
		for at := range d.Sectors {
			if r.IntN(3) == 0 {
				d.Sectors[at] = w.j.Disk.Sectors[at]
			}
		}
		wantOpened(t, "ahead of the head", d, w.synced, impl.OK)
		left, _, _ := impl.OpenJournal(d)
		walk{left, w.synced}.compacted(t, someFrames(r)[:1])
		someWalkIn(t, r, walk{left, w.synced}.grown(t, someFrames(r)[:1]), 3)
	}
}

// P20: a journal whose head is lost is the one ahead of it.
func TestRotInHeads(t *testing.T) {
	r := source(158)
	for range 40 {
		n := 20 + r.Int64N(20)
		w := someWalkIn(t, r, newWalk(n), r.IntN(5))
		next := w.compacted(t, someFrames(r)[:1])
		next = next.grown(t, []string{"more"})
		if next.j.Gen != w.j.Gen+1 {
			continue
		}
		for pos := range int64(64) {
			by := 1 + r.Int64N(255)
			newer, _ := impl.RotSector(next.j.Disk, next.j.Gen%2, pos, by)
			wantOpened(t, "without the newer head", newer, w.synced, impl.OK)
			older, _ := impl.RotSector(next.j.Disk, w.j.Gen%2, pos, by)
			wantOpened(t, "without the older head", older, next.synced, impl.OK)
			neither, _ := impl.RotSector(newer, w.j.Gen%2, pos, by)
			wantOpened(t, "without heads", neither, nil, impl.ErrRead)
		}
	}
}

// P20: Compact writes the frames and the head, and no more: if cells of the next
// generation stand behind the frames, the result is what the disk opens as. The
// document asks for that, though such cells may then be read.
func TestCompactAmongCellsOfTheNextGeneration(t *testing.T) {
	j := journalOf(laid(16, 1, 0, partsOf(1, 1, "old")...))
	for i, c := range slices.Concat(partsOf(2, 1, "left"), partsOf(2, 2, "over")) {
		j.Disk.Sectors[9+i] = formatOf(c)
	}
	for _, v := range []struct{ list, want []string }{{nil, []string{"left", "over"}}, {[]string{"new"}, []string{"new", "over"}}, {[]string{full('n')}, []string{full('n')}}} {
		want, wantCode := compactedFrom(j, v.list)
		got, code := impl.Compact(j, v.list)
		wantJournal(t, "Compact", got, code, want, wantCode)
		wantOpened(t, "the compacted journal", got.Disk, v.want, impl.OK)
		wantOk(t, "JournalOk", impl.JournalOk(got), true)
	}
}
