package tests

import (
	"fmt"
	"math"
	"math/rand/v2"
	"slices"
	"strings"
	"testing"

	"loop.example/g00849/impl"
)

// full returns a sector with the same byte everywhere.
func full(b byte) string {
	return strings.Repeat(string([]byte{b}), 64)
}

func fullOf(bytes ...byte) []string {
	var list []string
	for _, b := range bytes {
		list = append(list, full(b))
	}
	return list
}

func write(at int64, bytes string) impl.Pending {
	return impl.Pending{At: at, Bytes: bytes}
}

// disk returns a disk with the given sectors and writes.
func disk(sectors []string, waits ...impl.Pending) impl.Disk {
	return impl.Disk{Sectors: sectors, Waits: waits}
}

// sampleDisk has two writes to one of its sectors, and one to another.
func sampleDisk() impl.Disk {
	return disk(fullOf(0, 'b', 'c'), write(1, full('x')), write(2, full('y')), write(1, full('z')))
}

// someDisk returns a disk with n sectors of random bytes and some writes.
func someDisk(r *rand.Rand, n, waits int) impl.Disk {
	var d impl.Disk
	for range n {
		d.Sectors = append(d.Sectors, someBytes(r, 64))
	}
	for range waits {
		d.Waits = append(d.Waits, write(r.Int64N(int64(n)), someBytes(r, 64)))
	}
	return d
}

// rightDisks are valid, each in a way of its own.
func rightDisks() []impl.Disk {
	r := source(140)
	list := []impl.Disk{
		disk(fullOf(0)), disk(fullOf(255), write(0, full(1))), disk(fullOf(0, 0, 0)), sampleDisk(), {Sectors: fullOf('a'), Waits: []impl.Pending{}}, disk(fullOf(1, 2), write(1, full(1)), write(0, full(2)), write(1, full(1))),
		disk(slices.Repeat(fullOf('s'), 1200)), someDisk(r, 1200, 600), someDisk(r, 1, 600), someDisk(r, 2, 599), someDisk(r, 1199, 1),
	}
	for range 20 {
		list = append(list, someDisk(r, 1+r.IntN(6), r.IntN(7)))
	}
	return list
}

// wrongDisks are not valid, each for a reason of its own.
func wrongDisks() []impl.Disk {
	r := source(141)
	list := []impl.Disk{
		{}, {Sectors: []string{}, Waits: []impl.Pending{}}, {Waits: []impl.Pending{{}}}, {Waits: []impl.Pending{write(0, full(1))}}, someDisk(r, 1201, 0), someDisk(r, 3, 601), someDisk(r, 1201, 601), someDisk(r, 2500, 5),
	}
	for _, bytes := range []string{"", "short", full(1)[:63], full(1) + "x", full(1) + full(1), strings.Repeat("long", 1000)} {
		for at := range 3 {
			sector, waiting := sampleDisk(), sampleDisk()
			sector.Sectors[at] = bytes
			waiting.Waits[at].Bytes = bytes
			list = append(list, sector, waiting)
		}
	}
	for _, n := range append(farNumbers(), -2, -1, 3, 4, 1200) {
		for at := range 3 {
			d := sampleDisk()
			d.Waits[at].At = n
			list = append(list, d)
		}
	}
	return list
}

// isDisk holds d against the document's sentence.
func isDisk(d impl.Disk) bool {
	if len(d.Sectors) < 1 || len(d.Sectors) > 1200 || len(d.Waits) > 600 {
		return false
	}
	for _, s := range d.Sectors {
		if len(s) != 64 {
			return false
		}
	}
	for _, w := range d.Waits {
		if w.At < 0 || w.At >= int64(len(d.Sectors)) || len(w.Bytes) != 64 {
			return false
		}
	}
	return true
}

func copiedDisk(d impl.Disk) impl.Disk {
	return impl.Disk{Sectors: slices.Clone(d.Sectors), Waits: slices.Clone(d.Waits)}
}

func sameDisk(a, b impl.Disk) bool {
	return slices.Equal(a.Sectors, b.Sectors) && slices.Equal(a.Waits, b.Waits)
}

// shownDisk is a text of no more than a few sectors and writes.
func shownDisk(d impl.Disk) string {
	return fmt.Sprintf("%d sectors %q and %d writes %v", len(d.Sectors), d.Sectors[:min(len(d.Sectors), 8)], len(d.Waits), d.Waits[:min(len(d.Waits), 8)])
}

func wantDisk(t *testing.T, name string, got impl.Disk, code int64, want impl.Disk, wantCode int64) {
	t.Helper()
	if !sameDisk(got, want) || code != wantCode {
		t.Errorf("%s: %s, code %d; want %s, code %d", name, shownDisk(got), code, shownDisk(want), wantCode)
	}
}

// readFrom returns a sector of a valid disk as the program sees it.
func readFrom(d impl.Disk, at int64) (string, int64) {
	if at < 0 || at >= int64(len(d.Sectors)) {
		return "", impl.ErrRange
	}
	for i := len(d.Waits) - 1; i >= 0; i-- {
		if d.Waits[i].At == at {
			return d.Waits[i].Bytes, impl.OK
		}
	}
	return d.Sectors[at], impl.OK
}

// bufferedIn returns a disk after writes to consecutive sectors.
func bufferedIn(d impl.Disk, at int64, list ...string) (impl.Disk, int64) {
	isShort := func(bytes string) bool { return len(bytes) != 64 }
	if !isDisk(d) || slices.ContainsFunc(list, isShort) {
		return impl.Disk{}, impl.ErrForm
	}
	size := int64(len(d.Sectors))
	if len(list) > 0 && (at < 0 || at >= size || int64(len(list))-1 >= size-at) {
		return impl.Disk{}, impl.ErrRange
	}
	if len(d.Waits)+len(list) > 600 {
		return impl.Disk{}, impl.ErrMany
	}
	d = copiedDisk(d)
	for i, bytes := range list {
		d.Waits = append(d.Waits, write(at+int64(i), bytes))
	}
	return d, impl.OK
}

// flushedFrom returns a valid disk after all its writes.
func flushedFrom(d impl.Disk) impl.Disk {
	d = copiedDisk(d)
	for _, w := range d.Waits {
		d.Sectors[w.At] = w.Bytes
	}
	d.Waits = nil
	return d
}

// lostFrom returns a valid disk after a power loss, byte by byte.
func lostFrom(d impl.Disk, keep []int64, torn int64) (impl.Disk, int64) {
	for i, n := range keep {
		if n < 0 || n >= int64(len(d.Waits)) || i > 0 && n <= keep[i-1] {
			return impl.Disk{}, impl.ErrRange
		}
	}
	if torn < -1 || torn > 64 {
		return impl.Disk{}, impl.ErrRange
	}
	d = copiedDisk(d)
	for i, n := range keep {
		w := d.Waits[n]
		sector := []byte(d.Sectors[w.At])
		for k := range sector {
			if torn == -1 || i < len(keep)-1 || int64(k) < torn {
				sector[k] = w.Bytes[k]
			}
		}
		d.Sectors[w.At] = string(sector)
	}
	d.Waits = nil
	return d, impl.OK
}

// rottenFrom returns a valid disk with one byte of a sector turned.
func rottenFrom(d impl.Disk, at, pos, by int64) (impl.Disk, int64) {
	if at < 0 || at >= int64(len(d.Sectors)) || pos < 0 || pos > 63 || by < 1 || by > 255 {
		return impl.Disk{}, impl.ErrRange
	}
	d = copiedDisk(d)
	sector := []byte(d.Sectors[at])
	sector[pos] ^= byte(by)
	d.Sectors[at] = string(sector)
	return d, impl.OK
}

// refusedDisk wants nothing to be made of a disk, whatever else is given.
func refusedDisk(t *testing.T, d impl.Disk) {
	t.Helper()
	wantOk(t, "DiskOk", impl.DiskOk(d), false)
	wantDisk(t, "FlushDisk", impl.FlushDisk(d), 0, impl.Disk{}, 0)
	for _, n := range []int64{math.MinInt64, -1, 0, 1, 5, 1300, math.MaxInt64} {
		s, code := impl.ReadSector(d, n)
		wantText(t, "ReadSector", s, code, "", impl.ErrForm)
		for _, bytes := range []string{"", full(1)} {
			got, code := impl.WriteSector(d, n, bytes)
			wantDisk(t, "WriteSector", got, code, impl.Disk{}, impl.ErrForm)
			got, code = impl.WriteAll(d, n, []string{bytes, bytes})
			wantDisk(t, "WriteAll", got, code, impl.Disk{}, impl.ErrForm)
		}
		got, code := impl.WriteAll(d, n, nil)
		wantDisk(t, "WriteAll of nothing", got, code, impl.Disk{}, impl.ErrForm)
		for _, keep := range [][]int64{nil, {0}, {1, 0}, {n}} {
			got, code := impl.PowerLoss(d, keep, n)
			wantDisk(t, "PowerLoss", got, code, impl.Disk{}, impl.ErrForm)
		}
		got, code = impl.RotSector(d, n, n, 7)
		wantDisk(t, "RotSector", got, code, impl.Disk{}, impl.ErrForm)
		got, code = impl.RotSector(d, 0, 0, n)
		wantDisk(t, "RotSector", got, code, impl.Disk{}, impl.ErrForm)
	}
}

// P19: a disk is valid as the document says, and one that is not is refused
// ahead of all else.
func TestDiskOk(t *testing.T) {
	wantSame(t, "the limits", []int{impl.SectorLen, impl.MaxSectors, impl.MaxPending}, []int{64, 1200, 600})
	for _, d := range rightDisks() {
		wantOk(t, "isDisk", isDisk(d), true)
		wantOk(t, "DiskOk", impl.DiskOk(d), true)
	}
	for _, d := range wrongDisks() {
		wantOk(t, "isDisk of a wrong one", isDisk(d), false)
		refusedDisk(t, d)
	}
}

// P19: a disk may have so many sectors and writes, and no more.
func TestNumbersOfSectorsAndWrites(t *testing.T) {
	for _, n := range []int{0, 1, 2, 599, 600, 601, 1199, 1200, 1201, 2400} {
		wantOk(t, "DiskOk by sectors", impl.DiskOk(disk(slices.Repeat(fullOf('s'), n))), n >= 1 && n <= 1200)
		waits := slices.Repeat([]impl.Pending{write(0, full('w'))}, n)
		wantOk(t, "DiskOk by writes", impl.DiskOk(disk(fullOf('s'), waits...)), n <= 600)
	}
}

// P19: a new disk has zero sectors, as many as are asked for.
func TestNewDisk(t *testing.T) {
	for n := int64(1); n <= 1200; n += 1 + n/3 {
		d, code := impl.NewDisk(n)
		wantDisk(t, "NewDisk", d, code, disk(slices.Repeat(fullOf(0), int(n))), impl.OK)
	}
	for _, n := range []int64{1199, 1200} {
		d, code := impl.NewDisk(n)
		wantNumber(t, "NewDisk", int64(len(d.Sectors)), code, n, impl.OK)
	}
	for _, n := range append(farNumbers(), -1200, -2, -1, 0, 1201, 1202, 2400) {
		d, code := impl.NewDisk(n)
		wantDisk(t, "NewDisk", d, code, impl.Disk{}, impl.ErrRange)
	}
}

// strangeIndexes are no indexes into n things.
func strangeIndexes(n int) []int64 {
	return append(farNumbers(), -2, -1, int64(n), int64(n)+1)
}

// P19: a sector is read as it was written last.
func TestReadSector(t *testing.T) {
	for _, d := range rightDisks() {
		for at := range d.Sectors {
			want, _ := readFrom(d, int64(at))
			got, code := impl.ReadSector(d, int64(at))
			wantText(t, "ReadSector", got, code, want, impl.OK)
		}
		for _, at := range strangeIndexes(len(d.Sectors)) {
			got, code := impl.ReadSector(d, at)
			wantText(t, "ReadSector elsewhere", got, code, "", impl.ErrRange)
		}
	}
	for at, want := range fullOf(0, 'z', 'y') {
		got, code := impl.ReadSector(sampleDisk(), int64(at))
		wantText(t, "ReadSector", got, code, want, impl.OK)
	}
}

// P19: a write goes behind the others in the buffer, and nowhere else.
func TestWriteSector(t *testing.T) {
	for _, d := range rightDisks() {
		for _, at := range append(strangeIndexes(len(d.Sectors)), 0, int64(len(d.Sectors))-1, int64(len(d.Sectors))/2) {
			for _, bytes := range []string{full('n'), full(0), "", "short", full('n')[:63], full('n') + "n"} {
				want, wantCode := bufferedIn(d, at, bytes)
				got, code := impl.WriteSector(d, at, bytes)
				wantDisk(t, "WriteSector", got, code, want, wantCode)
				got, code = impl.WriteAll(d, at, []string{bytes})
				wantDisk(t, "WriteAll of one", got, code, want, wantCode)
			}
		}
	}
}

// P19: writes to consecutive sectors go behind the others, in order.
func TestWriteAll(t *testing.T) {
	codes := map[int64]int{}
	lists := [][]string{nil, {}, fullOf('p', 'q'), fullOf('p', 'q', 'r'), fullOf('p', 'p', 'p', 'p'), slices.Repeat(fullOf('m'), 599), slices.Repeat(fullOf('m'), 600), slices.Repeat(fullOf('m'), 601), slices.Repeat(fullOf('m'), 1200), slices.Repeat(fullOf('m'), 1201)}
	lists = append(lists, []string{full('p'), "short"}, []string{"", full('p')}, []string{full('p'), full('q') + "q", full('r')}, append(slices.Repeat(fullOf('m'), 1300), "short"))
	for _, d := range append(rightDisks(), someDisk(source(142), 1200, 0), someDisk(source(143), 601, 1)) {
		size := int64(len(d.Sectors))
		for _, list := range lists {
			for _, at := range append(strangeIndexes(len(d.Sectors)), 0, 1, size-4, size-3, size-2, size-1, size-int64(len(list)), size-int64(len(list))+1) {
				want, wantCode := bufferedIn(d, at, list...)
				got, code := impl.WriteAll(d, at, list)
				wantDisk(t, "WriteAll", got, code, want, wantCode)
				codes[code]++
			}
		}
	}
	for _, code := range []int64{impl.OK, impl.ErrForm, impl.ErrRange, impl.ErrMany} {
		if codes[code] < 20 {
			t.Errorf("code %d was seen %d times", code, codes[code])
		}
	}
}

// P19: of several errors the first in the document's order is returned.
func TestOrderOfErrorsOfWrites(t *testing.T) {
	busy := someDisk(source(144), 3, 600)
	for _, v := range []struct {
		d     impl.Disk
		at    int64
		bytes string
		want  int64
	}{
		{impl.Disk{}, 9, "short", impl.ErrForm}, {impl.Disk{}, 9, full(1), impl.ErrForm}, {busy, 3, "short", impl.ErrForm}, {busy, 0, "short", impl.ErrForm}, {busy, 3, full(1), impl.ErrRange}, {busy, 2, full(1), impl.ErrMany},
	} {
		got, code := impl.WriteSector(v.d, v.at, v.bytes)
		wantDisk(t, "WriteSector", got, code, impl.Disk{}, v.want)
		got, code = impl.WriteAll(v.d, v.at, []string{v.bytes})
		wantDisk(t, "WriteAll", got, code, impl.Disk{}, v.want)
	}
	got, code := impl.WriteAll(busy, 9, nil)
	wantDisk(t, "WriteAll of nothing", got, code, busy, impl.OK)
}

// P19: the document's examples of writes, on a disk of three sectors.
func TestWriteExamples(t *testing.T) {
	d, _ := impl.NewDisk(3)
	got, code := impl.WriteSector(d, 3, full('a'))
	wantDisk(t, "WriteSector", got, code, impl.Disk{}, impl.ErrRange)
	got, code = impl.WriteSector(d, 1, "short")
	wantDisk(t, "WriteSector", got, code, impl.Disk{}, impl.ErrForm)
	got, code = impl.WriteAll(d, 1, fullOf('a', 'b'))
	wantDisk(t, "WriteAll", got, code, disk(fullOf(0, 0, 0), write(1, full('a')), write(2, full('b'))), impl.OK)
	got, code = impl.WriteAll(d, 2, fullOf('a', 'b'))
	wantDisk(t, "WriteAll", got, code, impl.Disk{}, impl.ErrRange)
}

// P19: a flush makes of each sector what was read of it, and empties the buffer.
func TestFlushDisk(t *testing.T) {
	for _, d := range rightDisks() {
		flushed := impl.FlushDisk(d)
		wantDisk(t, "FlushDisk", flushed, impl.OK, flushedFrom(d), impl.OK)
		for at, sector := range flushed.Sectors {
			want, _ := readFrom(d, int64(at))
			wantText(t, "a sector", sector, impl.OK, want, impl.OK)
		}
	}
	wantDisk(t, "FlushDisk", impl.FlushDisk(sampleDisk()), impl.OK, disk(fullOf(0, 'z', 'y')), impl.OK)
}

// P19: what is left after a power loss is what the document says, whichever
// writes are kept, and wherever the last one is torn.
func TestPowerLoss(t *testing.T) {
	for _, d := range append(rightDisks()[:6], someDisk(source(145), 2, 4), someDisk(source(146), 5, 5), someDisk(source(147), 1, 3)) {
		for n := range int64(len(d.Waits)) + 1 {
			for _, keep := range choices(int64(len(d.Waits)), n) {
				for torn := int64(-1); torn <= 64; torn++ {
					want, _ := lostFrom(d, keep, torn)
					got, code := impl.PowerLoss(d, keep, torn)
					wantDisk(t, "PowerLoss", got, code, want, impl.OK)
				}
			}
		}
	}
}

// P19: the document's example, and a torn write above one that was kept.
func TestPowerLossExamples(t *testing.T) {
	d := disk(fullOf(0, 0, 0), write(1, full('a')))
	got, code := impl.PowerLoss(d, []int64{0}, 10)
	wantDisk(t, "PowerLoss", got, code, disk([]string{full(0), full('a')[:10] + full(0)[10:], full(0)}), impl.OK)
	got, code = impl.PowerLoss(sampleDisk(), []int64{0, 1, 2}, 3)
	wantDisk(t, "PowerLoss", got, code, disk([]string{full(0), "zzz" + full('x')[3:], full('y')}), impl.OK)
	got, code = impl.PowerLoss(sampleDisk(), []int64{1, 2}, 3)
	wantDisk(t, "PowerLoss", got, code, disk([]string{full(0), "zzz" + full('b')[3:], full('y')}), impl.OK)
	got, code = impl.PowerLoss(sampleDisk(), []int64{0, 2}, 0)
	wantDisk(t, "PowerLoss", got, code, disk([]string{full(0), full('x'), full('c')}), impl.OK)
	for _, torn := range []int64{-1, 0, 10, 64} {
		got, code = impl.PowerLoss(sampleDisk(), nil, torn)
		wantDisk(t, "PowerLoss of all", got, code, disk(fullOf(0, 'b', 'c')), impl.OK)
	}
}

// P19: a power loss refuses indexes of no write, or in another order, and
// lengths that a sector does not have.
func TestPowerLossRefuses(t *testing.T) {
	d := someDisk(source(148), 3, 4)
	lists := [][]int64{{4}, {-1}, {0, 4}, {-1, 0}, {0, 0}, {1, 0}, {0, 1, 1}, {0, 2, 1}, {3, 2}, {0, 1, 2, 3, 4}, {0, 1, 2, 3, 3}, {math.MinInt64, math.MaxInt64}}
	for _, n := range farNumbers() {
		lists = append(lists, []int64{n}, []int64{n, 3}, []int64{0, n})
	}
	for _, keep := range lists {
		for _, torn := range []int64{-1, 0, 5, 64, 65} {
			got, code := impl.PowerLoss(d, keep, torn)
			wantDisk(t, "PowerLoss of strange writes", got, code, impl.Disk{}, impl.ErrRange)
		}
	}
	for _, keep := range [][]int64{nil, {0}, {0, 3}, {4}} {
		for _, torn := range append(farNumbers(), -65, -3, -2, 65, 66, 128) {
			got, code := impl.PowerLoss(d, keep, torn)
			wantDisk(t, "PowerLoss with a strange length", got, code, impl.Disk{}, impl.ErrRange)
		}
	}
	got, code := impl.PowerLoss(disk(fullOf(1)), []int64{0}, -1)
	wantDisk(t, "PowerLoss without writes", got, code, impl.Disk{}, impl.ErrRange)
}

// someKept returns some of the indexes below n in order.
func someKept(r *rand.Rand, n int) []int64 {
	var keep []int64
	for i := range n {
		if r.IntN(2) == 0 {
			keep = append(keep, int64(i))
		}
	}
	return keep
}

// P19: what was flushed stays, whatever is written and lost afterwards; of what
// was not flushed, each sector is what it was, or what was written, or, if it is
// that of the last write and torn, a beginning of that.
func TestFlushedStaysAndTheRestIsWhole(t *testing.T) {
	r := source(149)
	torn := 0
	for range 400 {
		d := impl.FlushDisk(someDisk(r, 1+r.IntN(5), r.IntN(5)))
		flushed := copiedDisk(d)
		for range r.IntN(7) {
			d, _ = impl.WriteSector(d, r.Int64N(int64(len(d.Sectors))), someBytes(r, 64))
		}
		keep, length := someKept(r, len(d.Waits)), r.Int64N(66)-1
		lost, code := impl.PowerLoss(d, keep, length)
		wantNumber(t, "the writes that wait", int64(len(lost.Waits)), code, 0, impl.OK)
		for at, sector := range lost.Sectors {
			isWhole := sector == flushed.Sectors[at]
			for _, w := range d.Waits {
				isWhole = isWhole || w.At == int64(at) && w.Bytes == sector
			}
			if isWhole {
				continue
			}
			torn++
			if length < 0 || !isTorn(d, keep, int64(at), sector, length) {
				t.Fatalf("sector %d is neither what it was nor what was written", at)
			}
		}
		gone, _ := impl.PowerLoss(d, nil, length)
		wantDisk(t, "PowerLoss of all", gone, impl.OK, flushed, impl.OK)
	}
	if torn < 50 {
		t.Errorf("%d sectors were torn", torn)
	}
}

// isTorn reports whether a sector begins as the last write that was kept, and
// goes on as what was there or was written ahead of it.
func isTorn(d impl.Disk, keep []int64, at int64, sector string, length int64) bool {
	if len(keep) == 0 || d.Waits[keep[len(keep)-1]].At != at || !strings.HasPrefix(sector, d.Waits[keep[len(keep)-1]].Bytes[:length]) {
		return false
	}
	behind := d.Sectors[at]
	for _, n := range keep[:len(keep)-1] {
		if d.Waits[n].At == at {
			behind = d.Waits[n].Bytes
		}
	}
	return sector[length:] == behind[length:]
}

// P19: rot turns one byte of a sector and nothing else.
func TestRotSector(t *testing.T) {
	for _, d := range rightDisks() {
		size := int64(len(d.Sectors))
		for _, at := range []int64{0, size / 2, size - 1} {
			for pos := range int64(64) {
				for _, by := range []int64{1, 7, 128, 255} {
					want, _ := rottenFrom(d, at, pos, by)
					got, code := impl.RotSector(d, at, pos, by)
					wantDisk(t, "RotSector", got, code, want, impl.OK)
					if len(d.Sectors) > 100 {
						break
					}
					back, code := impl.RotSector(got, at, pos, by)
					wantDisk(t, "RotSector again", back, code, d, impl.OK)
				}
			}
		}
	}
	zero, _ := impl.NewDisk(3)
	got, code := impl.RotSector(zero, 2, 5, 7)
	wantDisk(t, "RotSector", got, code, disk([]string{full(0), full(0), "\x00\x00\x00\x00\x00\x07" + full(0)[6:]}), impl.OK)
}

// P19: rot refuses what is no byte of a sector, and what turns nothing.
func TestRotSectorRefuses(t *testing.T) {
	d := sampleDisk()
	for _, v := range [][3]int64{{0, 0, 0}, {0, 0, 256}, {0, 0, -1}, {0, 64, 1}, {0, -1, 1}, {3, 0, 1}, {-1, 0, 1}, {0, 65, 1}, {3, 64, 256}, {1, 5, 257}, {1, 5, 512}, {1, 5, -255}} {
		got, code := impl.RotSector(d, v[0], v[1], v[2])
		wantDisk(t, "RotSector", got, code, impl.Disk{}, impl.ErrRange)
	}
	for _, n := range farNumbers() {
		for i := range 3 {
			v := [3]int64{1, 5, 7}
			v[i] = n
			got, code := impl.RotSector(d, v[0], v[1], v[2])
			wantDisk(t, "RotSector", got, code, impl.Disk{}, impl.ErrRange)
		}
	}
	for by := int64(1); by <= 255; by++ {
		want, _ := rottenFrom(d, 1, 63, by)
		got, code := impl.RotSector(d, 1, 63, by)
		wantDisk(t, "RotSector", got, code, want, impl.OK)
	}
}
