package tests

import (
	"slices"
	"strings"
	"testing"

	"loop.example/g00849/impl"
)

// somePool is the pool of the document's examples.
func somePool() impl.Pool {
	return impl.Pool{Id: 2, Code: impl.Code{K: 2, M: 1}, Min: 2, Pgs: 8, Rule: 1}
}

// isPool holds p against the document's list, point by point.
func isPool(p impl.Pool) bool {
	k, m := p.Code.K, p.Code.M
	isCode := k >= 1 && k <= 4 && m >= 0 && m <= 3
	return p.Id >= 1 && p.Id <= 4 && isCode && p.Min >= k && p.Min <= k+m && p.Pgs >= 1 && p.Pgs <= 16 && p.Rule >= 1 && p.Rule <= 4
}

// rightPools are valid pools of all codes and all numbers of placement groups.
func rightPools() []impl.Pool {
	var list []impl.Pool
	for i, c := range allCodes() {
		for pgs := int64(1); pgs <= 16; pgs++ {
			n := int64(i) + pgs
			list = append(list, impl.Pool{Id: 1 + n%4, Code: c, Min: c.K + n%(c.M+1), Pgs: pgs, Rule: 1 + n/4%4})
		}
	}
	return list
}

// pointers point to all numbers of a pool.
func pointers(p *impl.Pool) []*int64 {
	return []*int64{&p.Id, &p.Code.K, &p.Code.M, &p.Min, &p.Pgs, &p.Rule}
}

// wrongPools have one number or two of a valid pool changed.
func wrongPools() []impl.Pool {
	var list []impl.Pool
	numbers := append(farNumbers(), -2, -1, 0, 1, 2, 3, 4, 5, 8, 17, 18)
	for i := range 6 {
		for j := range i + 1 {
			for _, m := range numbers {
				for _, n := range numbers {
					p := somePool()
					*pointers(&p)[i], *pointers(&p)[j] = m, n
					if !isPool(p) {
						list = append(list, p)
					}
				}
			}
		}
	}
	return list
}

// isName holds a name against the document's sentence, byte by byte.
func isName(name string) bool {
	for _, b := range []byte(name) {
		if !strings.Contains("abcdefghijklmnopqrstuvwxyz0123456789", string(rune(b))) {
			return false
		}
	}
	return len(name) >= 1 && len(name) <= 8
}

// rightNames are all names of at most two bytes and some longer ones.
func rightNames() []string {
	const bytes = "abcdefghijklmnopqrstuvwxyz0123456789"
	list := []string{"obj1", "longname", "zzzzzzzz", "00000000", "a0z9", "aaaaaaab"}
	r := source(91)
	for i := range bytes {
		list = append(list, bytes[i:i+1])
		for j := range bytes {
			list = append(list, bytes[i:i+1]+bytes[j:j+1])
		}
		name := ""
		for range 3 + i%6 {
			name += string(bytes[r.IntN(36)])
		}
		list = append(list, name)
	}
	return list
}

func wrongNames() []string {
	list := []string{"", "longname9", "000000000", strings.Repeat("a", 16), strings.Repeat("a", 264), strings.Repeat("a", 1000), "A", "Z", "a b", " a", "a ", "a_", "a-b", "a/b", "a.b", "a\n", "\x00", "a\x00", "\x80", "a\xff", "é", "aé", "éa", "aéb", "\u0663", "\uff41", "\u212a", "\ufffd"}
	for b := range 256 {
		if c := string([]byte{byte(b)}); !isName(c) {
			list = append(list, c, "a"+c, c+"a", "a"+c+"b", c+c, "abcdefg"+c, c+"bcdefgh", "abcd"+c+"fgh")
		}
	}
	return list
}

// numberOf returns the number of an object's placement group, as the document
// has it.
func numberOf(name string, pgs int64) int64 {
	var words []int64
	for _, b := range []byte(name) {
		words = append(words, int64(b))
	}
	return mixOf(words) % pgs
}

func wantPg(t *testing.T, name string, got impl.Pg, ok bool, want impl.Pg, wantOk bool) {
	t.Helper()
	if got != want || ok != wantOk {
		t.Errorf("%s: %v, %v; want %v, %v", name, got, ok, want, wantOk)
	}
}

// P14: a pool is valid as the document says.
func TestPoolOk(t *testing.T) {
	for _, p := range rightPools() {
		wantOk(t, "PoolOk", impl.PoolOk(p), true)
		for i := range 6 {
			for n := int64(-2); n <= 18; n++ {
				q := p
				*pointers(&q)[i] = n
				if impl.PoolOk(q) != isPool(q) {
					t.Fatalf("PoolOk of %v: %v", q, !isPool(q))
				}
			}
		}
	}
	for _, c := range wrongCodes() {
		for _, least := range []int64{c.K, c.K + c.M, 0, 1, 2} {
			wantOk(t, "PoolOk of a wrong code", impl.PoolOk(impl.Pool{Id: 1, Code: c, Min: least, Pgs: 1, Rule: 1}), false)
		}
	}
}

// P14: a pool that is not valid has no placement groups.
func TestWrongPools(t *testing.T) {
	for _, p := range append(wrongPools(), impl.Pool{}) {
		wantOk(t, "PoolOk", impl.PoolOk(p), false)
		g, ok := impl.PgOf(p, "a")
		wantPg(t, "PgOf", g, ok, impl.Pg{}, false)
		list, ok := impl.PgsIn(p)
		if len(list) != 0 || ok {
			t.Errorf("PgsIn of %v: %v, %v", p, list, ok)
		}
		split, code := impl.Split(p)
		if split != (impl.Pool{}) || code != impl.ErrForm {
			t.Errorf("Split of %v: %v, code %d", p, split, code)
		}
		places, code := impl.PlacePg(sample(), hostRule(true), p, impl.Pg{Pool: p.Id}, nil)
		wantNumbers(t, "PlacePg", places, code, nil, impl.ErrForm)
	}
}

// P14: a name has at least one and at most MaxName of the letters and digits.
func TestNameOk(t *testing.T) {
	for _, name := range rightNames() {
		wantOk(t, "NameOk of "+name, impl.NameOk(name), true)
	}
	for _, name := range wrongNames() {
		wantOk(t, "NameOk", impl.NameOk(name), false)
		g, ok := impl.PgOf(somePool(), name)
		wantPg(t, "PgOf of a wrong name", g, ok, impl.Pg{}, false)
	}
	for n := range 12 {
		wantOk(t, "NameOk", impl.NameOk(strings.Repeat("z", n)), n >= 1 && n <= impl.MaxName)
	}
	for a := range 256 {
		for b := range 256 {
			name := string([]byte{byte(a), byte(b)})
			wantOk(t, "NameOk of two bytes", impl.NameOk(name), isName(name))
		}
	}
}

// P14: each object is in just one of the placement groups of its pool, by the
// hash of its name.
func TestPgOf(t *testing.T) {
	for name, want := range map[string]int64{"a": 7, "obj1": 0} {
		g, ok := impl.PgOf(somePool(), name)
		wantPg(t, "PgOf "+name, g, ok, impl.Pg{Pool: 2, No: want}, true)
	}
	for i, p := range rightPools() {
		all, _ := impl.PgsIn(p)
		for _, name := range rightNames()[i%5*100:][:300] {
			g, ok := impl.PgOf(p, name)
			wantPg(t, "PgOf "+name, g, ok, impl.Pg{Pool: p.Id, No: numberOf(name, p.Pgs)}, true)
			if count(all, g) != 1 {
				t.Fatalf("%v of %v is %d times in %v", g, p, count(all, g), all)
			}
		}
	}
}

func count(list []impl.Pg, g impl.Pg) int {
	n := 0
	for _, other := range list {
		if other == g {
			n++
		}
	}
	return n
}

// P14: every placement group of a pool has some of the objects.
func TestAllPgsAreUsed(t *testing.T) {
	for pgs := int64(1); pgs <= 16; pgs++ {
		p := somePool()
		p.Pgs = pgs
		used := map[impl.Pg]int{}
		for _, name := range rightNames() {
			g, _ := impl.PgOf(p, name)
			used[g]++
		}
		for g, n := range used {
			if int64(len(used)) != pgs || n < len(rightNames())/int(2*pgs) {
				t.Errorf("%v of %d has %d objects", g, pgs, n)
			}
		}
	}
}

// P14: the seed of a placement group is the hash of its two numbers, whatever
// these are.
func TestSeedOf(t *testing.T) {
	for _, a := range append(anyNumbers(), 4, 5, 15) {
		for _, b := range append(anyNumbers(), 4, 5, 15) {
			if got, want := impl.SeedOf(impl.Pg{Pool: a, No: b}), mixOf([]int64{a, b}); got != want {
				t.Errorf("SeedOf(%d, %d): %d; want %d", a, b, got, want)
			}
		}
	}
	wantNumber(t, "SeedOf", impl.SeedOf(impl.Pg{Pool: 2, No: 3}), impl.OK, 1717327502, impl.OK)
}

// P14: the placement groups of a pool are numbered from 0 on.
func TestPgsIn(t *testing.T) {
	for _, p := range rightPools() {
		var want []impl.Pg
		for no := int64(0); no < p.Pgs; no++ {
			want = append(want, impl.Pg{Pool: p.Id, No: no})
		}
		list, ok := impl.PgsIn(p)
		if !slices.Equal(list, want) || !ok {
			t.Errorf("PgsIn of %v: %v, %v", p, list, ok)
		}
	}
}

// P14: when the groups are doubled, an object stays in its group or moves to
// the one that was split from it; some do either.
func TestSplit(t *testing.T) {
	stayed, moved := 0, 0
	for i, p := range rightPools() {
		want, wantCode := p, int64(impl.OK)
		if want.Pgs *= 2; want.Pgs > 16 {
			want, wantCode = impl.Pool{}, impl.ErrMany
		}
		split, code := impl.Split(p)
		if split != want || code != wantCode {
			t.Errorf("Split of %v: %v, code %d", p, split, code)
		}
		if code != impl.OK {
			continue
		}
		for _, name := range rightNames()[i%5*100:][:300] {
			before, _ := impl.PgOf(p, name)
			after, ok := impl.PgOf(split, name)
			switch {
			case ok && after == before:
				stayed++
			case ok && after == impl.Pg{Pool: before.Pool, No: before.No + p.Pgs}:
				moved++
			default:
				t.Errorf("%s is in %v of %v, and in %v of %v", name, before, p, after, split)
			}
		}
	}
	if stayed < 1000 || moved < 1000 {
		t.Errorf("%d objects stayed, %d moved", stayed, moved)
	}
}

// P14: a placement group is placed by the rule of its pool, with its own seed,
// on as many positions as the code has shards.
func TestPlacePg(t *testing.T) {
	for _, x := range placeTrees()[:9] {
		for _, r := range rulesOf(x) {
			for i, p := range rightPools() {
				p.Rule = r.Id
				g := impl.Pg{Pool: p.Id, No: int64(i*7) % p.Pgs}
				out := someOuts()[i%len(someOuts())]
				want, _ := impl.Place(x, r, mixOf([]int64{g.Pool, g.No}), p.Code.K+p.Code.M, out)
				places, code := impl.PlacePg(x, r, p, g, out)
				wantNumbers(t, "PlacePg", places, code, want, impl.OK)
				if int64(len(places)) != p.Code.K+p.Code.M {
					t.Errorf("PlacePg of %v: %v", p, places)
				}
			}
		}
	}
}

// P14: the rows of the document's example in chapter 10, which are placements
// of four groups with and without a device.
func TestPlacePgExamples(t *testing.T) {
	p := impl.Pool{Id: 2, Code: impl.Code{K: 1, M: 1}, Min: 1, Pgs: 4, Rule: 1}
	whole := [][]int64{{2, 4}, {2, 0}, {4, 1}, {0, 3}}
	without := [][]int64{{2, 0}, {2, 0}, {2, 1}, {0, 3}}
	for no := range int64(4) {
		places, code := impl.PlacePg(sample(), hostRule(true), p, impl.Pg{Pool: 2, No: no}, nil)
		wantNumbers(t, "PlacePg", places, code, whole[no], impl.OK)
		places, code = impl.PlacePg(sample(), hostRule(true), p, impl.Pg{Pool: 2, No: no}, []int64{4})
		wantNumbers(t, "PlacePg without device 4", places, code, without[no], impl.OK)
	}
}

// P14: the errors of PlacePg come in the document's order.
func TestPlacePgRefuses(t *testing.T) {
	isBad := func(i, bits int) bool { return bits>>i&1 == 1 }
	want := func(bits int) int64 {
		switch {
		case bits&7 != 0:
			return impl.ErrForm
		case bits&24 != 0:
			return impl.ErrNone
		case bits&32 != 0:
			return impl.ErrRange
		}
		return impl.OK
	}
	for bits := range 64 {
		x, r, p, g, out := sample(), hostRule(true), somePool(), impl.Pg{Pool: 2, No: 7}, []int64{4}
		if isBad(0, bits) {
			x = tree(devices(9), root(-4))
		}
		if isBad(1, bits) {
			r.Root = -3
		}
		if isBad(2, bits) {
			p.Min = 4
		}
		if isBad(3, bits) {
			p.Rule = 2
		}
		if isBad(4, bits) {
			g.No = 8
		}
		if isBad(5, bits) {
			out = []int64{4, 4}
		}
		places, code := impl.PlacePg(x, r, p, g, out)
		if code != want(bits) || code != impl.OK && len(places) > 0 {
			t.Errorf("PlacePg with the errors %b: %v, code %d", bits, places, code)
		}
	}
}

// P14: every group that is not the pool's, every rule that is not its own and
// every wrong list of excluded devices is refused.
func TestPlacePgRefusesEachArgument(t *testing.T) {
	for _, n := range append(anyNumbers(), 4, 5, 15, 16) {
		if n < 0 || n >= 8 {
			places, code := impl.PlacePg(sample(), hostRule(true), somePool(), impl.Pg{Pool: 2, No: n}, nil)
			wantNumbers(t, "PlacePg of no group", places, code, nil, impl.ErrNone)
		}
		if n != 2 {
			places, code := impl.PlacePg(sample(), hostRule(true), somePool(), impl.Pg{Pool: n, No: 3}, nil)
			wantNumbers(t, "PlacePg of another pool's group", places, code, nil, impl.ErrNone)
		}
	}
	for id := int64(2); id <= 4; id++ {
		r := hostRule(true)
		r.Id = id
		places, code := impl.PlacePg(sample(), r, somePool(), impl.Pg{Pool: 2}, nil)
		wantNumbers(t, "PlacePg by another rule", places, code, nil, impl.ErrNone)
	}
	for _, out := range wrongOuts() {
		places, code := impl.PlacePg(sample(), hostRule(true), somePool(), impl.Pg{Pool: 2}, out)
		wantNumbers(t, "PlacePg without a wrong list", places, code, nil, impl.ErrRange)
	}
	for _, x := range wrongTrees() {
		places, code := impl.PlacePg(x, hostRule(true), somePool(), impl.Pg{Pool: 2}, nil)
		wantNumbers(t, "PlacePg in a wrong tree", places, code, nil, impl.ErrForm)
	}
	for _, r := range []impl.Rule{{}, {Id: 0, Root: -4}, {Id: 5, Root: -4}, {Id: 1, Root: -5}, {Id: 1, Root: 0}, {Id: 1, Root: -4, Kind: 3}, {Id: 1, Root: -4, Kind: -1}} {
		places, code := impl.PlacePg(sample(), r, somePool(), impl.Pg{Pool: 2}, nil)
		wantNumbers(t, "PlacePg by a wrong rule", places, code, nil, impl.ErrForm)
	}
}
