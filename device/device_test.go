package device

import (
	"math"
	"slices"
	"testing"

	"cuirass/api"
	"cuirass/dram"
	"cuirass/fault"
	"cuirass/geom"
	"cuirass/raw"
)

// edges are the numbers at the ends of int, and such whose lowest bits are those of small ones.
func edges() []int {
	return []int{
		math.MinInt, math.MinInt + 1, math.MinInt + 2, math.MinInt + 65, math.MinInt / 8, math.MinInt32, -1 << 32, -1 << 23, -1 << 20, -64, -2, -1,
		1 << 23, 1<<23 + 1, math.MaxInt32, 1 << 32, 1<<32 + 1, 1<<32 + 2, 1 << 60, 1 << 62, math.MaxInt / 8, math.MaxInt - 1, math.MaxInt,
	}
}

// wrongModes are numbers that no mode has.
func wrongModes() []int {
	return append(edges(), 0, 3, 4, 9, 36, 256, 257, 258)
}

// geoms are right geometries, from the least to such as are at the limits.
func geoms() []geom.Geom {
	return []geom.Geom{
		{Ranks: 1, Banks: 1, Rows: 1, Cols: 1},
		small(),
		{Ranks: 1, Spares: 7, Banks: 8, Rows: 2, Cols: 4},
		{Ranks: 8, Banks: 16, Rows: 1, Cols: 2},
		{Ranks: 1, Banks: 1, Rows: 1024, Cols: 4},
		{Ranks: 4, Spares: 3, Banks: 1, Rows: 2, Cols: 64},
	}
}

// small has two of all, and a spare.
func small() geom.Geom {
	return geom.Geom{Ranks: 2, Spares: 1, Banks: 2, Rows: 2, Cols: 2}
}

// wrongGeoms are geometries that aren't right, all but the first by one thing.
func wrongGeoms() []geom.Geom {
	l := []geom.Geom{
		{},
		{Ranks: 3, Banks: 1, Rows: 1, Cols: 1},
		{Ranks: 0, Spares: 1, Banks: 1, Rows: 1, Cols: 1},
		{Ranks: 8, Spares: 1, Banks: 1, Rows: 1, Cols: 1},
		{Ranks: 1, Banks: 32, Rows: 1, Cols: 1},
		{Ranks: 1, Banks: 1, Rows: 2048, Cols: 1},
		{Ranks: 1, Banks: 1, Rows: 1, Cols: 128},
		{Ranks: 8, Banks: 16, Rows: 16, Cols: 4},
	}
	for _, n := range edges() {
		l = append(l, geom.Geom{Ranks: n, Banks: 1, Rows: 1, Cols: 1},
			geom.Geom{Ranks: 1, Spares: n, Banks: 1, Rows: 1, Cols: 1},
			geom.Geom{Ranks: 1, Banks: n, Rows: 1, Cols: 1},
			geom.Geom{Ranks: 1, Banks: 1, Rows: n, Cols: 1},
			geom.Geom{Ranks: 1, Banks: 1, Rows: 1, Cols: n})
	}
	return l
}

// shape is a mode with how many chips it has.
type shape struct{ mode, chips int }

func shapes() []shape {
	return []shape{{1, 9}, {2, 36}}
}

// at is a place.
func at(rank, bank, row, col int) geom.Place {
	return geom.Place{Rank: rank, Bank: bank, Row: row, Col: col}
}

// indexOf is the index of a place, by the document's numbers.
func indexOf(p geom.Place) int {
	return 1048576*p.Rank + 65536*p.Bank + 64*p.Row + p.Col
}

// last is a geometry's last place.
func last(g geom.Geom) geom.Place {
	return at(g.Ranks+g.Spares-1, g.Banks-1, g.Rows-1, g.Cols-1)
}

// missing are indices that a geometry hasn't: below 0, between its places, behind them, beyond all indices.
func missing(g geom.Geom) []int {
	l := append(edges(), indexOf(at(g.Ranks+g.Spares, 0, 0, 0)), indexOf(last(g))+1048576, -1048576)
	if g.Cols < 64 {
		l = append(l, g.Cols, indexOf(last(g))+1)
	}
	if g.Rows < 1024 {
		l = append(l, 64*g.Rows, 64*g.Rows+g.Cols-1)
	}
	if g.Banks < 16 {
		l = append(l, 65536*g.Banks, 65536*g.Banks+64*(g.Rows-1))
	}
	return l
}

// counting has each byte another one: its place and some more.
func counting(more int) (r raw.Raw) {
	for i := range r {
		r[i] = byte(i + more)
	}
	return r
}

// filled has all bytes alike.
func filled(x byte) (r raw.Raw) {
	for i := range r {
		r[i] = x
	}
	return r
}

// stray goes to a place.
func stray(p geom.Place) fault.Fault { return fault.Fault{Kind: fault.Stray, Place: p} }

func drop() fault.Fault { return fault.Fault{Kind: fault.Drop} }

func flip(p geom.Place, bit int) fault.Fault {
	return fault.Fault{Kind: fault.Flip, Place: p, Bit: bit}
}

func stuck(p geom.Place, bit, value int) fault.Fault {
	return fault.Fault{Kind: fault.Stuck, Place: p, Bit: bit, Value: value}
}

// ofChip is a fault of a chip of the kind that is asked for.
func ofChip(kind int, p geom.Place, chip, value int) fault.Fault {
	switch kind {
	case fault.Row:
		p.Col = 0
	case fault.Column:
		p.Row = 0
	default:
		p = at(p.Rank, 0, 0, 0)
	}
	return fault.Fault{Kind: kind, Place: p, Chip: chip, Value: value}
}

// straight is where an access goes that goes nowhere else.
func straight(index int) dram.Went { return dram.Went{Index: index} }

func dropped(index int) dram.Went { return dram.Went{Index: index, Dropped: true} }

// slowExposure counts by plain numbers: of each word how many bits, or bytes, are unlike.
func slowExposure(mode int, a, b raw.Raw) int {
	chips, greatest := 9, 0
	if mode == 2 {
		chips = 36
	}
	for from := 0; from < 72; from += chips {
		n := 0
		for i := from; i < from+chips; i++ {
			switch {
			case mode == 2 && a[i] != b[i]:
				n++
			case mode == 1:
				n += unlike(a[i], b[i])
			}
		}
		greatest = max(greatest, n)
	}
	return greatest
}

// unlike is how many bits of two bytes are unlike.
func unlike(a, b byte) (n int) {
	for range 8 {
		if a%2 != b%2 {
			n++
		}
		a, b = a/2, b/2
	}
	return n
}

func slowAstray(a Access) bool {
	switch {
	case a.Went.Dropped:
		return true
	case a.Went.Index == a.Index:
		return false
	}
	return true
}

// made is a device, and what was done to it can't have failed; want are the accesses that it must have.
type made struct {
	*Device
	t    *testing.T
	want []Access
}

func makeDevice(t *testing.T, g geom.Geom, mode int) *made {
	t.Helper()
	d, e := New(g, mode)
	if e != api.OK || d == nil {
		t.Fatalf("%+v, the mode %d: %v, %d", g, mode, d, e)
	}
	return &made{Device: d, t: t}
}

func (m *made) inject(l ...fault.Fault) {
	m.t.Helper()
	for _, f := range l {
		if e := m.Inject(f); e != api.OK {
			m.t.Fatalf("%+v: %d", f, e)
		}
	}
}

// write writes, and holds what is kept of it against what must be.
func (m *made) write(index int, r raw.Raw, went dram.Went) {
	m.t.Helper()
	if e := m.Write(index, r); e != api.OK {
		m.t.Fatalf("written to %d: %d", index, e)
	}
	m.meant(index, r, false)
	m.behind(Access{Write: true, Index: index, Went: went})
}

// mark does so likewise.
func (m *made) mark(index int, r raw.Raw, went dram.Went) {
	m.t.Helper()
	if e := m.Mark(index, r); e != api.OK {
		m.t.Fatalf("marked %d: %d", index, e)
	}
	m.meant(index, r, true)
	m.behind(Access{Write: true, Index: index, Went: went})
}

func (m *made) read(index int, want raw.Raw, went dram.Went, exposure int, marked bool) {
	m.t.Helper()
	if r, e := m.Read(index); r != want || e != api.OK {
		m.t.Fatalf("read from %d: %x, %d, not %x", index, r, e, want)
	}
	m.behind(Access{Index: index, Went: went, Exposure: exposure, Marked: marked})
}

// behind holds the accesses against those that there must be: those ahead, and one more.
func (m *made) behind(a Access) {
	m.t.Helper()
	m.want = append(m.want, a)
	m.holds()
}

func (m *made) holds() {
	m.t.Helper()
	if m.Count() != len(m.want) {
		m.t.Fatalf("%d accesses, not %d", m.Count(), len(m.want))
	}
	// Most that go wrong do so at the last one, so that it is told alone.
	if l := m.from(len(m.want) - 1); len(m.want) > 0 && (len(l) != 1 || l[0] != m.want[len(m.want)-1]) {
		m.t.Fatalf("the last access is %+v, not %+v", l, m.want[len(m.want)-1])
	}
	if l := m.from(0); !slices.Equal(l, m.want) {
		m.t.Fatalf("the accesses are %+v, not %+v", l, m.want)
	}
	if strayed := slices.ContainsFunc(m.want, slowAstray); m.Strayed() != strayed {
		m.t.Fatalf("one is astray: %t, not %t", m.Strayed(), strayed)
	}
}

// from are the accesses from a number on, each of which has its number.
func (m *made) from(n int) (l []Access) {
	m.t.Helper()
	for i, a := range m.Accesses(n) {
		if i != max(n, 0)+len(l) {
			m.t.Fatalf("the number %d, not %d", i, max(n, 0)+len(l))
		}
		l = append(l, a)
	}
	return l
}

// meant holds what was last written to an index against what it must be.
func (m *made) meant(index int, r raw.Raw, marked bool) {
	m.t.Helper()
	if m.Ghost(index) != r || m.Marked(index) != marked {
		m.t.Fatalf("at %d: %x, marked: %t, not %x, %t", index, m.Ghost(index), m.Marked(index), r, marked)
	}
}

// coming holds those that are to come against others.
func (m *made) coming(want []fault.Fault) {
	m.t.Helper()
	if l := m.Dram().Coming(); !slices.Equal(l, want) {
		m.t.Fatalf("those to come are %+v, not %+v", l, want)
	}
}

// looks are what would be read at all places.
func (m *made) looks() (l []raw.Raw) {
	for index := range m.Dram().Geom().All() {
		r, _ := m.Dram().Look(index)
		l = append(l, r)
	}
	return l
}

// P13.1

func TestNew(t *testing.T) {
	for _, g := range geoms() {
		for _, s := range shapes() {
			m := makeDevice(t, g, s.mode)
			if m.Dram().Geom() != g || m.Dram().Mode() != s.mode {
				t.Errorf("%+v, %d", m.Dram().Geom(), m.Dram().Mode())
			}
			m.holds()
			m.coming(nil)
			if len(m.Dram().Faults()) != 0 {
				t.Error(m.Dram().Faults())
			}
			for index := range g.All() {
				m.meant(index, raw.Raw{}, false)
			}
		}
	}
}

func TestNewWrong(t *testing.T) {
	for _, g := range wrongGeoms() {
		if g.Right() {
			continue
		}
		// Of both that are wrong the geometry is told.
		for _, mode := range append(wrongModes(), 1, 2) {
			if d, e := New(g, mode); d != nil || e != api.ErrGeom {
				t.Errorf("%+v, the mode %d: %v, %d", g, mode, d, e)
			}
		}
	}
	for _, g := range geoms() {
		for _, mode := range wrongModes() {
			if d, e := New(g, mode); d != nil || e != api.ErrMode {
				t.Errorf("%+v, the mode %d: %v, %d", g, mode, d, e)
			}
		}
	}
}

// Of one device nothing is told by another one.
func TestDevicesAreApart(t *testing.T) {
	a, b := makeDevice(t, small(), 1), makeDevice(t, small(), 1)
	a.inject(stray(at(0, 0, 0, 1)))
	a.mark(0, filled(7), straight(1))
	a.inject(drop())
	b.coming(nil)
	b.holds()
	b.meant(0, raw.Raw{}, false)
	b.read(1, raw.Raw{}, straight(1), 0, false)
}

// What is injected is no access, and changes nothing of what was meant.
func TestInjectIsNoAccess(t *testing.T) {
	for _, g := range geoms() {
		for _, s := range shapes() {
			m, p := makeDevice(t, g, s.mode), last(g)
			m.mark(indexOf(p), counting(3), straight(indexOf(p)))
			lasting := []fault.Fault{
				stuck(p, 575, 1), ofChip(fault.Row, p, 0, 255),
				ofChip(fault.Column, p, s.chips-1, 0), ofChip(fault.Chip, p, 1, 2),
			}
			m.inject(lasting...)
			m.inject(drop(), flip(p, 0), stray(p), flip(at(0, 0, 0, 0), 575))
			m.holds()
			m.coming([]fault.Fault{drop(), stray(p)})
			if l := m.Dram().Faults(); !slices.Equal(l, lasting) {
				t.Errorf("%+v", l)
			}
			m.meant(indexOf(p), counting(3), true)
			if indexOf(p) != 0 {
				m.meant(0, raw.Raw{}, false)
			}
		}
	}
}

func TestInjectWrong(t *testing.T) {
	for _, s := range shapes() {
		m := makeDevice(t, small(), s.mode)
		m.write(0, counting(1), straight(0))
		p := at(0, 0, 0, 0)
		before := m.looks()
		for _, f := range []fault.Fault{
			{}, {Kind: 8}, {Kind: -1}, {Kind: math.MaxInt}, {Kind: math.MinInt},
			flip(at(3, 0, 0, 0), 0), flip(p, 576), flip(p, -1), stuck(p, 0, 2), stuck(p, math.MaxInt, 0),
			ofChip(fault.Row, p, s.chips, 0), ofChip(fault.Chip, p, -1, 0), ofChip(fault.Column, p, 0, 256),
			stray(at(0, 0, 0, 2)), {Kind: fault.Drop, Value: 1}, {Kind: fault.Stray, Bit: 1},
		} {
			if e := m.Inject(f); e != api.ErrForm {
				t.Errorf("%+v in the mode %d: %d", f, s.mode, e)
			}
		}
		m.holds()
		m.coming(nil)
		m.meant(0, counting(1), false)
		if l := m.looks(); !slices.Equal(l, before) || len(m.Dram().Faults()) != 0 {
			t.Errorf("%x, %+v", l, m.Dram().Faults())
		}
	}
}

func TestInjectFull(t *testing.T) {
	m, p := makeDevice(t, small(), 1), at(1, 0, 0, 0)
	for range 256 {
		m.inject(drop(), ofChip(fault.Chip, p, 0, 0))
	}
	for _, f := range []fault.Fault{drop(), stray(p), stuck(p, 0, 0), ofChip(fault.Chip, p, 0, 0)} {
		if e := m.Inject(f); e != api.ErrFull {
			t.Errorf("%+v: %d", f, e)
		}
	}
	if e := m.Inject(fault.Fault{}); e != api.ErrForm {
		t.Error(e)
	}
	m.inject(flip(p, 20))
	m.holds()
	m.write(0, filled(1), dropped(0))
	m.inject(drop())
	if len(m.Dram().Faults()) != 256 || len(m.Dram().Coming()) != 256 {
		t.Errorf("%d last, %d are to come", len(m.Dram().Faults()), len(m.Dram().Coming()))
	}
}

func TestWriteMarkAndRead(t *testing.T) {
	for _, g := range geoms() {
		for _, s := range shapes() {
			m := makeDevice(t, g, s.mode)
			for _, index := range []int{0, indexOf(last(g)), indexOf(at(g.Ranks+g.Spares-1, 0, 0, 0)), indexOf(at(0, g.Banks-1, 0, 0)), indexOf(at(0, 0, g.Rows-1, 0))} {
				for _, r := range []raw.Raw{filled(255), counting(1), counting(index), {}, {71: 1}} {
					m.write(index, r, straight(index))
					m.read(index, r, straight(index), 0, false)
					m.mark(index, r, straight(index))
					m.read(index, r, straight(index), 0, true)
					m.read(index, r, straight(index), 0, true)
				}
			}
		}
	}
}

// Each place has a ghost of its own.
func TestEachPlaceApart(t *testing.T) {
	g := geom.Geom{Ranks: 1, Spares: 2, Banks: 4, Rows: 4, Cols: 4}
	m, n := makeDevice(t, g, 1), 0
	for index := range g.All() {
		if n++; n%3 == 0 {
			m.mark(index, counting(n), straight(index))
		} else {
			m.write(index, counting(n), straight(index))
		}
	}
	n = 0
	for index := range g.All() {
		n++
		m.meant(index, counting(n), n%3 == 0)
		m.read(index, counting(n), straight(index), 0, n%3 == 0)
	}
}

// Of an index that the geometry hasn't all calls tell so, and nothing is counted, taken or changed.
func TestMissing(t *testing.T) {
	for _, g := range geoms() {
		for _, s := range shapes() {
			m, p := makeDevice(t, g, s.mode), last(g)
			coming := []fault.Fault{drop(), stray(p)}
			m.write(0, counting(9), straight(0))
			m.mark(indexOf(p), counting(8), straight(indexOf(p)))
			for _, l := range [][]fault.Fault{nil, coming} {
				m.inject(l...)
				before, first := m.looks(), m.Ghost(0)
				for _, index := range missing(g) {
					m.refused(index)
				}
				m.holds()
				m.coming(l)
				m.meant(indexOf(p), counting(8), true)
				if !slices.Equal(m.looks(), before) || m.Ghost(0) != first {
					t.Error("something is other than it was")
				}
			}
		}
	}
}

// refused holds that an index that isn't there can be neither written, marked nor read.
func (m *made) refused(index int) {
	m.t.Helper()
	if e := m.Write(index, filled(255)); e != api.ErrRange {
		m.t.Errorf("written to %d: %d", index, e)
	}
	m.meant(index, raw.Raw{}, false)
	if e := m.Mark(index, filled(255)); e != api.ErrRange {
		m.t.Errorf("marked %d: %d", index, e)
	}
	m.meant(index, raw.Raw{}, false)
	if r, e := m.Read(index); r != (raw.Raw{}) || e != api.ErrRange {
		m.t.Errorf("read from %d: %x, %d", index, r, e)
	}
}

func TestMarkAgain(t *testing.T) {
	for _, s := range shapes() {
		m := makeDevice(t, small(), s.mode)
		for i := range 3 {
			m.mark(1, counting(i), straight(1))
			m.read(1, counting(i), straight(1), 0, true)
			m.mark(1, counting(i+1), straight(1))
			m.read(1, counting(i+1), straight(1), 0, true)
			m.write(1, counting(i+1), straight(1))
			m.read(1, counting(i+1), straight(1), 0, false)
			m.write(1, counting(i), straight(1))
			m.read(1, counting(i), straight(1), 0, false)
		}
		// Its neighbours are neither marked nor written.
		m.meant(0, raw.Raw{}, false)
		m.meant(64, raw.Raw{}, false)
	}
}

// How far reads are exposed.

func TestExample(t *testing.T) {
	m := makeDevice(t, small(), raw.Bits)
	m.write(0, filled(255), straight(0))
	m.inject(flip(at(0, 0, 0, 0), 9))
	want := filled(255)
	want[1] = 0xFD
	m.read(0, want, straight(0), 1, false)
}

func TestExposureByHand(t *testing.T) {
	for _, x := range []struct {
		bits            []int
		ofBits, ofChips int
	}{
		{nil, 0, 0},
		{[]int{0}, 1, 1},
		{[]int{575}, 1, 1},
		{[]int{0, 1}, 2, 1},
		{[]int{0, 7, 3, 5, 1, 2, 4, 6}, 8, 1},
		{[]int{0, 8}, 2, 2},
		{[]int{71, 72}, 1, 2},
		{[]int{0, 71}, 2, 2},
		{[]int{287, 288}, 1, 1},
		{[]int{0, 72, 144, 216, 288, 360, 432, 504}, 1, 4},
		{[]int{504, 505, 506, 575, 0, 1}, 4, 2},
		{[]int{5, 5}, 0, 0},
		{[]int{5, 5, 5}, 1, 1},
	} {
		for _, s := range shapes() {
			m, p, want := makeDevice(t, small(), s.mode), at(1, 0, 1, 0), counting(9)
			m.write(indexOf(p), want, straight(indexOf(p)))
			for _, bit := range x.bits {
				m.inject(flip(p, bit))
				want = want.Flip(bit)
			}
			exposure := x.ofBits
			if s.mode == 2 {
				exposure = x.ofChips
			}
			m.read(indexOf(p), want, straight(indexOf(p)), exposure, false)
			m.read(indexOf(p), want, straight(indexOf(p)), exposure, false)
		}
	}
}

func TestExposureOfAllBits(t *testing.T) {
	for _, s := range shapes() {
		m, p := makeDevice(t, small(), s.mode), at(0, 1, 0, 1)
		for bit := range 576 {
			m.inject(flip(p, bit))
		}
		most := 72
		if s.mode == 2 {
			most = 36
		}
		// What was never written was meant to be noughts.
		m.read(indexOf(p), filled(255), straight(indexOf(p)), most, false)
		m.mark(indexOf(p), filled(255), straight(indexOf(p)))
		m.read(indexOf(p), filled(255), straight(indexOf(p)), 0, true)
		m.write(indexOf(p), raw.Raw{}, straight(indexOf(p)))
		m.read(indexOf(p), raw.Raw{}, straight(indexOf(p)), 0, false)
	}
}

// One bit behind the other is turned, and then back.
func TestExposureGrows(t *testing.T) {
	for _, s := range shapes() {
		m, p, r := makeDevice(t, small(), s.mode), at(2, 1, 1, 0), counting(77)
		m.mark(indexOf(p), r, straight(indexOf(p)))
		for range 2 {
			for i := range 96 {
				bit := i * 41 % 576
				m.inject(flip(p, bit))
				r = r.Flip(bit)
				m.read(indexOf(p), r, straight(indexOf(p)), slowExposure(s.mode, r, counting(77)), true)
			}
		}
		if r != counting(77) || m.want[len(m.want)-1].Exposure != 0 {
			t.Error(r)
		}
	}
}

// Whatever was turned or lasts where it goes, a write is neither exposed nor marked.
func TestWritesAreNotExposed(t *testing.T) {
	for _, s := range shapes() {
		m := makeDevice(t, small(), s.mode)
		m.inject(flip(at(0, 0, 0, 0), 3), flip(at(0, 0, 0, 0), 99), ofChip(fault.Chip, at(0, 0, 0, 0), 2, 0x55))
		m.write(0, filled(0xFF), straight(0))
		m.mark(0, filled(0xFF), straight(0))
		m.mark(0, filled(0xAA), straight(0))
		m.write(0, filled(0x55), straight(0))
		m.read(0, filled(0x55), straight(0), 0, false)
	}
}

// What lasts exposes where it isn't as it was meant to be, also what was never written.
func TestExposureOfLasting(t *testing.T) {
	for _, s := range shapes() {
		for _, kind := range []int{fault.Row, fault.Column, fault.Chip} {
			m, p := makeDevice(t, small(), s.mode), at(1, 1, 0, 0)
			index, exposure := indexOf(p), 8
			m.inject(ofChip(kind, p, 4, 0xFF))
			if s.mode == 2 {
				exposure = 1
			}
			m.read(index, raw.Raw{}.Chip(s.mode, 4, 0xFF), straight(index), exposure, false)
			m.write(index, filled(0xFF), straight(index))
			m.read(index, filled(0xFF), straight(index), 0, false)
			m.mark(index, filled(0xFE), straight(index))
			m.read(index, filled(0xFE).Chip(s.mode, 4, 0xFF), straight(index), 1, true)
			m.write(index, filled(0x0F), straight(index))
			m.read(index, filled(0x0F).Chip(s.mode, 4, 0xFF), straight(index), (exposure+1)/2, false)
			m.read(0, raw.Raw{}, straight(0), 0, false)
		}
	}
}

func TestExposureOfStuck(t *testing.T) {
	for _, s := range shapes() {
		m, p := makeDevice(t, small(), s.mode), at(0, 0, 1, 1)
		index := indexOf(p)
		m.inject(stuck(p, 100, 1), stuck(p, 101, 0))
		m.read(index, raw.Raw{12: 16}, straight(index), 1, false)
		m.write(index, raw.Raw{12: 16}, straight(index))
		m.read(index, raw.Raw{12: 16}, straight(index), 0, false)
		m.write(index, raw.Raw{12: 32}, straight(index))
		m.read(index, raw.Raw{12: 16}, straight(index), 3-s.mode, false)
		// A bit that is turned beneath one that is stuck isn't read, so nothing is exposed.
		m.write(index, raw.Raw{12: 16}, straight(index))
		m.inject(flip(p, 100), flip(p, 101))
		m.read(index, raw.Raw{12: 16}, straight(index), 0, false)
	}
}

// Several of all kinds, at all places.
func TestExposureOfMany(t *testing.T) {
	for _, s := range shapes() {
		m := makeDevice(t, small(), s.mode)
		m.inject(ofChip(fault.Chip, at(0, 0, 0, 0), 0, 0x3C), ofChip(fault.Row, at(0, 1, 1, 0), 1, 7), ofChip(fault.Column, at(2, 0, 0, 1), 8, 0),
			stuck(at(0, 1, 1, 1), 300, 1), stuck(at(2, 0, 1, 1), 301, 0), flip(at(1, 1, 1, 1), 5), flip(at(1, 1, 1, 1), 500))
		for round := range 3 {
			for index := range small().All() {
				want, _ := m.Dram().Look(index)
				m.read(index, want, straight(index), slowExposure(s.mode, want, m.Ghost(index)), m.Marked(index))
				if round == 0 {
					m.mark(index, counting(index%90), straight(index))
				} else {
					m.write(index, filled(byte(index)), straight(index))
				}
			}
		}
	}
}

// What goes astray.

// What was meant is changed where it was asked for, wherever that went, and there nothing was meant to change.
func TestStrayWrites(t *testing.T) {
	for _, s := range shapes() {
		m := makeDevice(t, small(), s.mode)
		a, b, c := 0, indexOf(at(1, 1, 0, 0)), indexOf(at(2, 1, 1, 1))
		m.mark(a, filled(1), straight(a))
		m.mark(b, filled(2), straight(b))
		m.inject(stray(at(1, 1, 0, 0)), stray(at(0, 0, 0, 0)), stray(at(2, 1, 1, 1)))
		m.write(a, filled(4), straight(b))
		m.meant(b, filled(2), true)
		m.write(a, filled(8), straight(a))
		m.mark(b, filled(16), straight(c))
		m.meant(a, filled(8), false)
		m.meant(c, raw.Raw{}, false)
		m.coming(nil)
		m.read(a, filled(8), straight(a), 0, false)
		m.read(b, filled(4), straight(b), slowExposure(s.mode, filled(4), filled(16)), true)
		m.read(c, filled(16), straight(c), slowExposure(s.mode, filled(16), raw.Raw{}), false)
	}
}

// What is read is held against what was meant to be where it went, and so is whether it is marked.
func TestStrayReads(t *testing.T) {
	for _, s := range shapes() {
		m := makeDevice(t, small(), s.mode)
		a, b, c := indexOf(at(0, 1, 1, 1)), indexOf(at(1, 0, 0, 0)), indexOf(at(2, 0, 0, 0))
		m.write(a, filled(1), straight(a))
		m.mark(b, filled(2), straight(b))
		m.inject(flip(at(1, 0, 0, 0), 0))
		turned := filled(2).Flip(0)
		m.inject(stray(at(1, 0, 0, 0)), stray(at(0, 1, 1, 1)), stray(at(0, 1, 1, 1)), stray(at(2, 0, 0, 0)), stray(at(1, 0, 0, 0)), stray(at(1, 0, 0, 0)))
		m.read(a, turned, straight(b), 1, true)
		m.read(a, filled(1), straight(a), 0, false)
		m.read(b, filled(1), straight(a), 0, false)
		m.read(b, raw.Raw{}, straight(c), 0, false)
		m.read(c, turned, straight(b), 1, true)
		m.read(b, turned, straight(b), 1, true)
		m.read(a, filled(1), straight(a), 0, false)
		m.meant(a, filled(1), false)
		m.meant(b, filled(2), true)
		m.meant(c, raw.Raw{}, false)
	}
}

// What is dropped was meant all the same; a read that is dropped tells noughts, which aren't marked.
func TestDropped(t *testing.T) {
	for _, s := range shapes() {
		m, a := makeDevice(t, small(), s.mode), indexOf(last(small()))
		one := slowExposure(s.mode, filled(1), raw.Raw{})
		m.inject(drop())
		m.read(a, raw.Raw{}, dropped(a), 0, false)
		m.inject(drop())
		m.mark(a, filled(1), dropped(a))
		m.read(a, raw.Raw{}, straight(a), one, true)
		m.inject(drop())
		m.read(a, raw.Raw{}, dropped(a), one, false)
		m.mark(a, filled(1), straight(a))
		m.inject(drop(), drop())
		m.read(a, raw.Raw{}, dropped(a), one, false)
		m.write(a, filled(3), dropped(a))
		m.read(a, filled(1), straight(a), slowExposure(s.mode, filled(1), filled(3)), false)
		m.write(a, filled(3), straight(a))
		m.read(a, filled(3), straight(a), 0, false)
	}
}

// Noughts that a dropped read tells are held against what was meant, whatever lasts there.
func TestDroppedOverFaults(t *testing.T) {
	for _, s := range shapes() {
		m := makeDevice(t, small(), s.mode)
		m.inject(ofChip(fault.Chip, at(0, 0, 0, 0), 0, 1), drop())
		m.read(0, raw.Raw{}, dropped(0), 0, false)
		m.read(0, raw.Raw{}.Chip(s.mode, 0, 1), straight(0), 1, false)
		m.write(0, raw.Raw{}.Chip(s.mode, 0, 1), straight(0))
		m.inject(drop())
		m.read(0, raw.Raw{}, dropped(0), 1, false)
		m.read(0, raw.Raw{}.Chip(s.mode, 0, 1), straight(0), 0, false)
	}
}

// Strays and Drops in each order, before writes, marks and reads in each order.
func TestEachOrder(t *testing.T) {
	a, b, c := at(0, 1, 0, 1), at(1, 0, 1, 0), at(2, 0, 0, 0)
	kinds := []fault.Fault{stray(a), stray(b), stray(c), drop()}
	for n := range 64 {
		for calls := range 27 {
			y := makePlay(t, 1+calls%2)
			y.mark(indexOf(b), filled(0x10))
			for i := range 3 {
				y.inject(kinds[n>>(2*i)%4])
			}
			for i := range 3 {
				switch calls / []int{1, 3, 9}[i] % 3 {
				case 0:
					y.write(indexOf(a), filled(byte(i+1)))
				case 1:
					y.mark(indexOf(a), filled(byte(i+1)))
				default:
					y.read(indexOf(a))
				}
			}
			for _, p := range []geom.Place{a, b, c} {
				y.meant(indexOf(p))
				y.read(indexOf(p))
			}
			y.all()
		}
	}
}

// P13.2

func TestAstray(t *testing.T) {
	for _, x := range []struct {
		a    Access
		want bool
	}{
		{Access{}, false},
		{Access{Write: true, Index: 7, Went: straight(7)}, false},
		{Access{Index: 7, Went: straight(7), Exposure: 72, Marked: true}, false},
		{Access{Index: 7, Went: straight(8)}, true},
		{Access{Index: 7, Went: straight(6)}, true},
		{Access{Index: 7}, true},
		{Access{Went: straight(7)}, true},
		{Access{Write: true, Went: straight(7)}, true},
		{Access{Went: dropped(0)}, true},
		{Access{Write: true, Went: dropped(0)}, true},
		{Access{Index: 7, Went: dropped(7)}, true},
		{Access{Index: 7, Went: dropped(8)}, true},
		{Access{Index: -1, Went: straight(-1)}, false},
		{Access{Index: -1, Went: straight(1)}, true},
	} {
		if got := x.a.Astray(); got != x.want {
			t.Errorf("%+v: %t", x.a, got)
		}
	}
	for _, n := range edges() {
		for _, k := range edges() {
			if got := (Access{Index: n, Went: straight(k)}).Astray(); got != (n != k) {
				t.Errorf("%d, went to %d: %t", n, k, got)
			}
		}
	}
}

// One that is astray is told wherever it stands among the accesses.
func TestStrayed(t *testing.T) {
	for _, f := range []fault.Fault{drop(), stray(at(1, 1, 1, 1))} {
		for which := range 12 {
			for _, reads := range []bool{false, true} {
				m := makeDevice(t, small(), 1)
				for i := range 12 {
					if i == which {
						m.inject(f)
					}
					if reads {
						m.Read(0)
					} else {
						m.Write(0, filled(1))
					}
					if m.Strayed() != (i >= which) || m.Count() != i+1 {
						t.Errorf("%d of %d: %t", i, m.Count(), m.Strayed())
					}
				}
			}
		}
	}
}

// What goes to its own index, is injected alone, or is refused isn't astray.
func TestNotStrayed(t *testing.T) {
	m := makeDevice(t, small(), 2)
	m.inject(stray(at(0, 0, 0, 1)), stray(at(0, 0, 0, 1)), stray(at(1, 0, 0, 0)), drop())
	m.write(1, filled(2), straight(1))
	m.read(1, filled(2), straight(1), 0, false)
	m.refused(2)
	if m.Strayed() {
		t.Error("one is astray")
	}
	m.write(indexOf(at(1, 0, 0, 0)), filled(2), straight(indexOf(at(1, 0, 0, 0))))
	if m.Strayed() {
		t.Error("one is astray")
	}
	m.write(1, filled(2), dropped(1))
	if !m.Strayed() {
		t.Error("none is astray")
	}
}

// Of what was never written, or isn't there, noughts are told, and no mark.
func TestGhostOfNothing(t *testing.T) {
	for _, s := range shapes() {
		m := makeDevice(t, small(), s.mode)
		m.inject(flip(at(0, 0, 0, 1), 4), ofChip(fault.Chip, at(0, 0, 0, 0), 1, 9), stray(at(0, 0, 0, 1)))
		m.mark(0, filled(9), straight(1))
		m.Read(64)
		for index := range small().All() {
			if index != 0 {
				m.meant(index, raw.Raw{}, false)
			}
		}
		for _, index := range missing(small()) {
			m.meant(index, raw.Raw{}, false)
		}
		m.meant(0, filled(9), true)
	}
}

// What goes wrong in the chips changes nothing of what was meant.
func TestGhostStays(t *testing.T) {
	m, p := makeDevice(t, small(), 1), at(1, 1, 0, 1)
	m.mark(indexOf(p), counting(40), straight(indexOf(p)))
	m.inject(flip(p, 1), stuck(p, 2, 1), ofChip(fault.Chip, p, 3, 4))
	m.Read(indexOf(p))
	m.inject(stray(p))
	m.Write(0, filled(1))
	for range 2 {
		m.meant(indexOf(p), counting(40), true)
		m.Read(indexOf(p))
	}
}

// told is a number with an access.
type told struct {
	number int
	access Access
}

// pairs are what an iterator tells, at most n.
func pairs(seq func(func(int, Access) bool), n int) (l []told) {
	if n == 0 {
		return nil
	}
	for i, a := range seq {
		if l = append(l, told{i, a}); len(l) == n {
			break
		}
	}
	return l
}

// plenty has accesses of all kinds.
func plenty(t *testing.T, mode int) *made {
	m := makeDevice(t, small(), mode)
	m.write(0, filled(1), straight(0))
	m.inject(flip(at(0, 0, 0, 0), 0), stray(at(0, 0, 0, 1)))
	m.mark(64, filled(1), straight(1))
	m.read(0, filled(1).Flip(0), straight(0), 1, false)
	m.read(64, raw.Raw{}, straight(64), slowExposure(mode, filled(1), raw.Raw{}), true)
	m.inject(drop())
	m.read(1, raw.Raw{}, dropped(1), 0, false)
	m.write(65, raw.Raw{}, straight(65))
	return m
}

func TestAccesses(t *testing.T) {
	for _, s := range shapes() {
		m := plenty(t, s.mode)
		var all []told
		for i, a := range m.want {
			all = append(all, told{i, a})
		}
		for _, from := range append(edges(), 0, 1, 2, 3, 4, 5, 6, 7, 8, 100) {
			want := all[min(max(from, 0), len(all)):]
			for range 2 {
				if l := pairs(m.Accesses(from), -1); !slices.Equal(l, want) {
					t.Errorf("from %d: %+v, not %+v", from, l, want)
				}
			}
			// The same one is gone through again, and is left behind each number.
			seq := m.Accesses(from)
			for n := range len(want) + 2 {
				if l := pairs(seq, n); !slices.Equal(l, want[:min(n, len(want))]) {
					t.Errorf("%d from %d: %+v, not %+v", n, from, l, want)
				}
			}
		}
	}
}

func TestAccessesOfNone(t *testing.T) {
	m := makeDevice(t, small(), 1)
	m.refused(-1)
	for _, from := range append(edges(), 0, 1, 2) {
		for i, a := range m.Accesses(from) {
			t.Errorf("from %d: %d, %+v", from, i, a)
		}
	}
}

// What was told stays as it was, whatever is done behind it.
func TestToldStays(t *testing.T) {
	for n := range 12 {
		m := makeDevice(t, small(), 1)
		for i := range n {
			m.write(i%2, counting(i), straight(i%2))
		}
		seq, want, ghost := m.Accesses(0), slices.Clone(m.want), m.Ghost(0)
		kept := pairs(seq, -1)
		m.inject(drop())
		m.mark(0, filled(99), dropped(0))
		for range 20 {
			m.Read(1)
		}
		again := pairs(seq, -1)
		if len(kept) != n || !slices.Equal(again, kept) {
			t.Errorf("%+v, then %+v", kept, again)
		}
		for i := range kept {
			if kept[i] != (told{i, want[i]}) {
				t.Errorf("%d: %+v, not %+v", i, kept[i], want[i])
			}
		}
		if n > 0 && ghost != counting((n-1)/2*2) {
			t.Errorf("%x", ghost)
		}
	}
}

// One that was told earlier is gone through while others are made: it ends.
func TestAccessesWhileReading(t *testing.T) {
	m := plenty(t, 1)
	n := 0
	for i, a := range m.Accesses(0) {
		if i != n || a != m.want[i] {
			t.Fatalf("%d: %+v", i, a)
		}
		m.Read(0)
		n++
	}
	if n != 6 || m.Count() != 12 {
		t.Errorf("%d of %d", n, m.Count())
	}
}

func TestHandedInIsNotKept(t *testing.T) {
	m := makeDevice(t, small(), 1)
	r := counting(5)
	m.write(0, r, straight(0))
	r[0], r[71] = 0xAA, 0xBB
	m.meant(0, counting(5), false)
	x := m.Ghost(0)
	x[3] ^= 0xFF
	m.meant(0, counting(5), false)
	m.read(0, counting(5), straight(0), 0, false)
}

// The dram that is told is the one that is worked on.
func TestDram(t *testing.T) {
	m := makeDevice(t, small(), 1)
	chips := m.Dram()
	m.write(0, counting(5), straight(0))
	m.inject(drop(), stuck(at(0, 0, 0, 0), 3, 0))
	if m.Dram() != chips || m.Dram() == nil {
		t.Error("another one")
	}
	if r, e := chips.Look(0); r != counting(5).Force(3, 0) || e != api.OK {
		t.Errorf("%x, %d", r, e)
	}
	if len(chips.Coming()) != 1 || len(chips.Faults()) != 1 {
		t.Errorf("%+v, %+v", chips.Coming(), chips.Faults())
	}
	// What is done to the dram itself is seen by the device, which counts it not.
	chips.Read(0)
	chips.Inject(flip(at(0, 0, 0, 0), 0))
	m.read(0, counting(5).Flip(0).Force(3, 0), straight(0), 1, false)
}

// All of these, against a slow one that keeps all that happened.

// event is what happened: something was written, or read, and where that went.
type event struct {
	write, marked bool
	index         int
	went          dram.Went
	r             raw.Raw
}

// slow keeps all that happened, and goes through it again for each thing that is asked of it.
type slow struct {
	chips  *dram.Dram
	events []event
}

// meant is what was last written to an index ahead of an event.
func (s *slow) meant(index int, ahead int) (r raw.Raw, marked bool) {
	for _, v := range s.events[:ahead] {
		if v.write && v.index == index {
			r, marked = v.r, v.marked
		}
	}
	return r, marked
}

func (s *slow) write(index int, r raw.Raw, marked bool) api.Errno {
	w, e := s.chips.Write(index, r)
	if e == api.OK {
		s.events = append(s.events, event{true, marked, index, w, r})
	}
	return e
}

func (s *slow) read(index int) (raw.Raw, api.Errno) {
	r, w, e := s.chips.Read(index)
	if e == api.OK {
		s.events = append(s.events, event{false, false, index, w, r})
	}
	return r, e
}

// access is the one of an event.
func (s *slow) access(number int) Access {
	v := s.events[number]
	a := Access{Write: v.write, Index: v.index, Went: v.went}
	if !v.write {
		r, marked := s.meant(v.went.Index, number)
		a.Exposure = slowExposure(s.chips.Mode(), v.r, r)
		if !v.went.Dropped {
			a.Marked = marked
		}
	}
	return a
}

// accesses are all of them.
func (s *slow) accesses() (l []Access) {
	for i := range s.events {
		l = append(l, s.access(i))
	}
	return l
}

// chance tells numbers that follow no simple rule, the same ones in each run.
type chance uint64

func (c *chance) below(n int) int {
	*c = *c*6364136223846793005 + 1442695040888963407
	return int(uint64(*c)>>33) % n
}

// fault is one of any kind, in most cases a right one.
func (c *chance) fault(s shape) fault.Fault {
	p := at(c.below(3), c.below(2), c.below(2), c.below(2))
	switch c.below(12) {
	case 0, 1, 2:
		return flip(p, c.below(576))
	case 3:
		return stuck(p, c.below(577), c.below(2))
	case 4:
		return ofChip(3+c.below(3), p, c.below(s.chips+1), c.below(256))
	case 5, 6, 7:
		return stray(p)
	case 8, 9:
		return drop()
	}
	return fault.Fault{Kind: c.below(9), Place: at(c.below(4), c.below(3), c.below(3), c.below(3)), Chip: c.below(2), Bit: c.below(2), Value: c.below(2)}
}

// index is one that the small geometry has, or, now and then, one that it hasn't.
func (c *chance) index() int {
	if c.below(10) == 0 {
		return missing(small())[c.below(len(missing(small())))]
	}
	return indexOf(at(c.below(3), c.below(2), c.below(2), c.below(2)))
}

// raw has bytes of any kind, or such as are near one another.
func (c *chance) raw() (r raw.Raw) {
	if c.below(2) == 0 {
		return counting(3).Flip(c.below(576))
	}
	for i := range r {
		r[i] = byte(c.below(256))
	}
	return r
}

// play is a device of the small geometry and a slow one, to which the same is done.
type play struct {
	*Device
	t *testing.T
	s *slow
}

func makePlay(t *testing.T, mode int) play {
	t.Helper()
	chips, e := dram.New(small(), mode)
	if e != api.OK {
		t.Fatal(e)
	}
	return play{makeDevice(t, small(), mode).Device, t, &slow{chips: chips}}
}

func (y play) inject(f fault.Fault) {
	y.t.Helper()
	if e, want := y.Inject(f), y.s.chips.Inject(f); e != want {
		y.t.Fatalf("%+v: %d, not %d", f, e, want)
	}
}

func (y play) write(index int, r raw.Raw) {
	y.t.Helper()
	if e, want := y.Write(index, r), y.s.write(index, r, false); e != want {
		y.t.Fatalf("written to %d: %d, not %d", index, e, want)
	}
}

func (y play) mark(index int, r raw.Raw) {
	y.t.Helper()
	if e, want := y.Mark(index, r), y.s.write(index, r, true); e != want {
		y.t.Fatalf("marked %d: %d, not %d", index, e, want)
	}
}

func (y play) read(index int) {
	y.t.Helper()
	r, e := y.Read(index)
	if b, want := y.s.read(index); r != b || e != want {
		y.t.Fatalf("read from %d: %x, %d, not %x, %d", index, r, e, b, want)
	}
}

func (y play) meant(index int) {
	y.t.Helper()
	r, marked := y.s.meant(index, len(y.s.events))
	if y.Ghost(index) != r || y.Marked(index) != marked {
		y.t.Fatalf("at %d: %x, marked: %t, not %x, %t", index, y.Ghost(index), y.Marked(index), r, marked)
	}
}

// last holds the last access, and the lists of faults, against those of the slow one.
func (y play) last() {
	y.t.Helper()
	if y.Count() != len(y.s.events) {
		y.t.Fatalf("%d accesses, not %d", y.Count(), len(y.s.events))
	}
	for i, a := range y.Accesses(len(y.s.events) - 1) {
		if want := y.s.access(i); a != want {
			y.t.Fatalf("the access %d is %+v, not %+v", i, a, want)
		}
	}
	if d, s := y.Dram(), y.s.chips; !slices.Equal(d.Faults(), s.Faults()) || !slices.Equal(d.Coming(), s.Coming()) {
		y.t.Fatalf("%+v, %+v, not %+v, %+v", d.Faults(), d.Coming(), s.Faults(), s.Coming())
	}
}

// all holds all accesses, and all that was meant, against those of the slow one.
func (y play) all() {
	y.t.Helper()
	y.last()
	want := y.s.accesses()
	n := 0
	for i, a := range y.Accesses(0) {
		if i != n || a != want[i] || a.Astray() != slowAstray(a) {
			y.t.Fatalf("the access %d is %+v, not %+v", i, a, want[n])
		}
		n++
	}
	if n != len(want) || y.Strayed() != slices.ContainsFunc(want, slowAstray) {
		y.t.Fatalf("%d of %d accesses, one is astray: %t", n, len(want), y.Strayed())
	}
	for index := range small().All() {
		y.meant(index)
	}
}

func TestLongPlay(t *testing.T) {
	for _, s := range shapes() {
		for seed := range 4 {
			y, c := makePlay(t, s.mode), chance(40*seed+s.mode)
			for i := range 1500 {
				switch c.below(8) {
				case 0, 1:
					y.inject(c.fault(s))
				case 2, 3:
					y.write(c.index(), c.raw())
				case 4:
					y.mark(c.index(), c.raw())
				case 5, 6:
					y.read(c.index())
				default:
					y.meant(c.index())
				}
				y.last()
				if i%300 == 0 {
					y.all()
				}
			}
			y.all()
		}
	}
}

// P1

func FuzzDevice(f *testing.F) {
	f.Add(1, 0, 0, 0, 0, 0, 0, 0, 1)
	f.Add(2, 1, 1, 1, 1, 0, 575, 1, 2)
	f.Add(3, 1, 1, 1, 0, 35, 0, 255, 65)
	f.Add(6, 2, 1, 1, 1, 0, 0, 0, 1<<21)
	f.Add(7, 0, 0, 0, 0, 0, 0, 0, -1)
	f.Add(5, math.MinInt, math.MaxInt, 0, -1, math.MinInt, math.MaxInt, math.MinInt, math.MaxInt)
	f.Fuzz(func(t *testing.T, kind, rank, bank, row, col, chip, bit, value, index int) {
		g := geom.Geom{Ranks: rank, Spares: bank, Banks: row, Rows: col, Cols: chip}
		if d, e := New(g, kind); (d == nil) == (e == api.OK) || (e == api.ErrGeom) == g.Right() {
			t.Errorf("%+v, the mode %d: %v, %d", g, kind, d, e)
		}
		x := fault.Fault{Kind: kind, Place: at(rank, bank, row, col), Chip: chip, Bit: bit, Value: value}
		for _, s := range shapes() {
			y := makePlay(t, s.mode)
			for _, i := range []int{index, rank, 0, indexOf(x.Place), index} {
				y.meant(i)
				y.inject(x)
				y.write(i, counting(value))
				y.inject(x)
				y.read(i)
				y.inject(x)
				y.mark(i, counting(bit))
				y.read(i)
				y.meant(i)
				for n := range y.Accesses(chip) {
					if n < chip || n < 0 {
						t.Errorf("%d from %d", n, chip)
					}
				}
			}
			y.all()
		}
	})
}
