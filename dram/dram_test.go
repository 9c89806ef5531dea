package dram

import (
	"math"
	"slices"
	"testing"

	"cuirass/api"
	"cuirass/fault"
	"cuirass/geom"
	"cuirass/raw"
)

// edges are the numbers at the ends of int, and such whose lowest bits are those of small ones.
func edges() []int {
	return []int{
		math.MinInt, math.MinInt + 1, math.MinInt + 2, math.MinInt + 65, math.MinInt / 8, math.MinInt32, -1 << 32, -1 << 23, -1 << 20, -64, -2, -1,
		1 << 23, 1<<23 + 1, math.MaxInt32, 1 << 32, 1<<32 + 1, 1<<32 + 2, 1 << 60, 1 << 62, math.MaxInt / 8, math.MaxInt - 1, math.MaxInt,
	}
}

// wrongModes are numbers that no mode has.
func wrongModes() []int {
	return append(edges(), 0, 3, 4, 9, 36, 256, 257, 258)
}

// geoms are right geometries, from the least to such as are at the limits.
func geoms() []geom.Geom {
	return []geom.Geom{
		{Ranks: 1, Banks: 1, Rows: 1, Cols: 1},
		small(),
		{Ranks: 1, Spares: 7, Banks: 8, Rows: 2, Cols: 4},
		{Ranks: 8, Banks: 16, Rows: 1, Cols: 2},
		{Ranks: 1, Banks: 1, Rows: 1024, Cols: 4},
		{Ranks: 4, Spares: 3, Banks: 1, Rows: 2, Cols: 64},
	}
}

// small has two of all, and a spare.
func small() geom.Geom {
	return geom.Geom{Ranks: 2, Spares: 1, Banks: 2, Rows: 2, Cols: 2}
}

// wrongGeoms are geometries that aren't right, all but the first by one thing.
func wrongGeoms() []geom.Geom {
	l := []geom.Geom{
		{},
		{Ranks: 3, Banks: 1, Rows: 1, Cols: 1},
		{Ranks: 0, Spares: 1, Banks: 1, Rows: 1, Cols: 1},
		{Ranks: 8, Spares: 1, Banks: 1, Rows: 1, Cols: 1},
		{Ranks: 1, Banks: 32, Rows: 1, Cols: 1},
		{Ranks: 1, Banks: 1, Rows: 2048, Cols: 1},
		{Ranks: 1, Banks: 1, Rows: 1, Cols: 128},
		{Ranks: 8, Banks: 16, Rows: 16, Cols: 4},
	}
	for _, n := range edges() {
		l = append(l, geom.Geom{Ranks: n, Banks: 1, Rows: 1, Cols: 1},
			geom.Geom{Ranks: 1, Spares: n, Banks: 1, Rows: 1, Cols: 1},
			geom.Geom{Ranks: 1, Banks: n, Rows: 1, Cols: 1},
			geom.Geom{Ranks: 1, Banks: 1, Rows: n, Cols: 1},
			geom.Geom{Ranks: 1, Banks: 1, Rows: 1, Cols: n})
	}
	return l
}

// shape is a mode with how many chips it has.
type shape struct{ mode, chips int }

func shapes() []shape {
	return []shape{{1, 9}, {2, 36}}
}

// at is a place.
func at(rank, bank, row, col int) geom.Place {
	return geom.Place{Rank: rank, Bank: bank, Row: row, Col: col}
}

// indexOf is the index of a place, by the document's numbers.
func indexOf(p geom.Place) int {
	return 1048576*p.Rank + 65536*p.Bank + 64*p.Row + p.Col
}

// last is a geometry's last place.
func last(g geom.Geom) geom.Place {
	return at(g.Ranks+g.Spares-1, g.Banks-1, g.Rows-1, g.Cols-1)
}

// missing are indices that a geometry hasn't: below 0, between its places, behind them, beyond all indices.
func missing(g geom.Geom) []int {
	l := append(edges(), indexOf(at(g.Ranks+g.Spares, 0, 0, 0)), indexOf(last(g))+1048576, -1048576)
	if g.Cols < 64 {
		l = append(l, g.Cols, indexOf(last(g))+1)
	}
	if g.Rows < 1024 {
		l = append(l, 64*g.Rows, 64*g.Rows+g.Cols-1)
	}
	if g.Banks < 16 {
		l = append(l, 65536*g.Banks, 65536*g.Banks+64*(g.Rows-1))
	}
	return l
}

// counting has each byte another one: its place and some more.
func counting(more int) (r raw.Raw) {
	for i := range r {
		r[i] = byte(i + more)
	}
	return r
}

// filled has all bytes alike.
func filled(x byte) (r raw.Raw) {
	for i := range r {
		r[i] = x
	}
	return r
}

// slowFlip turns a bit by adding or taking off what it stands for.
func slowFlip(r raw.Raw, bit int) raw.Raw {
	return slowForce(r, bit, 1-int(r[bit/8])>>(bit%8)&1)
}

// slowForce has a bit as value, 0 or 1, likewise.
func slowForce(r raw.Raw, bit, value int) raw.Raw {
	stands := 1
	for range bit % 8 {
		stands *= 2
	}
	x := int(r[bit/8])
	if x/stands%2 < value {
		x += stands
	} else if x/stands%2 > value {
		x -= stands
	}
	r[bit/8] = byte(x)
	return r
}

// slowChip has all bytes of a chip as value, by going through all of them.
func slowChip(mode int, r raw.Raw, chip, value int) raw.Raw {
	chips := 9
	if mode == 2 {
		chips = 36
	}
	for i := range r {
		if i%chips == chip {
			r[i] = byte(value)
		}
	}
	return r
}

// made is a dram, and what was done to it can't have failed.
type made struct {
	*Dram
	t *testing.T
}

func makeDram(t *testing.T, g geom.Geom, mode int) made {
	t.Helper()
	d, e := New(g, mode)
	if e != api.OK || d == nil {
		t.Fatalf("%+v, the mode %d: %v, %d", g, mode, d, e)
	}
	return made{d, t}
}

func (m made) inject(l ...fault.Fault) {
	m.t.Helper()
	for _, f := range l {
		if e := m.Inject(f); e != api.OK {
			m.t.Fatalf("%+v: %d", f, e)
		}
	}
}

func (m made) write(index int, r raw.Raw, want Went) {
	m.t.Helper()
	if w, e := m.Write(index, r); w != want || e != api.OK {
		m.t.Fatalf("written to %d: %+v, %d, not %+v", index, w, e, want)
	}
}

func (m made) read(index int, want raw.Raw, went Went) {
	m.t.Helper()
	if r, w, e := m.Read(index); r != want || w != went || e != api.OK {
		m.t.Fatalf("read from %d: %x, %+v, %d, not %x, %+v", index, r, w, e, want, went)
	}
}

func (m made) look(index int, want raw.Raw) {
	m.t.Helper()
	if r, e := m.Look(index); r != want || e != api.OK {
		m.t.Fatalf("looked at %d: %x, %d, not %x", index, r, e, want)
	}
}

func (m made) holds(faults, coming []fault.Fault) {
	m.t.Helper()
	if l := m.Faults(); !slices.Equal(l, faults) {
		m.t.Fatalf("those that last are %+v, not %+v", l, faults)
	}
	if l := m.Coming(); !slices.Equal(l, coming) {
		m.t.Fatalf("those to come are %+v, not %+v", l, coming)
	}
}

// stray goes to a place.
func stray(p geom.Place) fault.Fault { return fault.Fault{Kind: fault.Stray, Place: p} }

func drop() fault.Fault { return fault.Fault{Kind: fault.Drop} }

func flip(p geom.Place, bit int) fault.Fault {
	return fault.Fault{Kind: fault.Flip, Place: p, Bit: bit}
}

func stuck(p geom.Place, bit, value int) fault.Fault {
	return fault.Fault{Kind: fault.Stuck, Place: p, Bit: bit, Value: value}
}

// ofChip is a fault of a chip of the kind that is asked for.
func ofChip(kind int, p geom.Place, chip, value int) fault.Fault {
	switch kind {
	case fault.Row:
		p.Col = 0
	case fault.Column:
		p.Row = 0
	default:
		p = at(p.Rank, 0, 0, 0)
	}
	return fault.Fault{Kind: kind, Place: p, Chip: chip, Value: value}
}

// straight is where an access goes that goes nowhere else.
func straight(index int) Went { return Went{Index: index} }

func dropped(index int) Went { return Went{Index: index, Dropped: true} }

// full is a list of as many alike as there may be.
func full(f fault.Fault) []fault.Fault { return slices.Repeat([]fault.Fault{f}, 256) }

// P12.1

func TestNew(t *testing.T) {
	for _, g := range geoms() {
		for _, s := range shapes() {
			m := makeDram(t, g, s.mode)
			if m.Geom() != g || m.Mode() != s.mode {
				t.Errorf("%+v, %d", m.Geom(), m.Mode())
			}
			m.holds(nil, nil)
			for index := range g.All() {
				m.look(index, raw.Raw{})
			}
		}
	}
}

func TestNewWrong(t *testing.T) {
	for _, g := range wrongGeoms() {
		if g.Right() {
			continue
		}
		// Of both that are wrong the geometry is told.
		for _, mode := range append(wrongModes(), 1, 2) {
			if d, e := New(g, mode); d != nil || e != api.ErrGeom {
				t.Errorf("%+v, the mode %d: %v, %d", g, mode, d, e)
			}
		}
	}
	for _, g := range geoms() {
		for _, mode := range wrongModes() {
			if d, e := New(g, mode); d != nil || e != api.ErrMode {
				t.Errorf("%+v, the mode %d: %v, %d", g, mode, d, e)
			}
		}
	}
}

// Of one dram nothing is told by another one.
func TestDramsAreApart(t *testing.T) {
	a, b := makeDram(t, small(), 1), makeDram(t, small(), 1)
	a.inject(flip(at(0, 0, 0, 0), 1), stuck(at(0, 0, 0, 1), 2, 1), drop())
	a.write(0, filled(7), dropped(0))
	a.inject(drop())
	b.holds(nil, nil)
	b.look(0, raw.Raw{})
	b.look(1, raw.Raw{})
}

func TestInjectEachKind(t *testing.T) {
	for _, g := range geoms() {
		for _, s := range shapes() {
			for _, p := range []geom.Place{{}, last(g)} {
				m := makeDram(t, g, s.mode)
				lasting := []fault.Fault{
					stuck(p, 0, 1), stuck(p, 575, 0), stuck(p, 575, 1),
					ofChip(fault.Row, p, 0, 0), ofChip(fault.Row, p, s.chips-1, 255),
					ofChip(fault.Column, p, 0, 255), ofChip(fault.Column, p, s.chips-1, 0),
					ofChip(fault.Chip, p, 0, 1), ofChip(fault.Chip, p, s.chips-1, 2),
				}
				coming := []fault.Fault{stray(p), drop(), stray(geom.Place{}), stray(last(g)), drop(), drop()}
				for i := range lasting {
					m.inject(flip(p, i), lasting[i])
					m.holds(lasting[:i+1], coming[:min(i, len(coming))])
					if i < len(coming) {
						m.inject(coming[i])
					}
				}
				m.inject(flip(p, 0), flip(p, 575))
				m.holds(lasting, coming)
			}
		}
	}
}

// wrongFaults are faults that aren't right for the small geometry and a mode.
func wrongFaults(s shape) []fault.Fault {
	p := at(2, 1, 1, 1)
	l := []fault.Fault{
		{}, {Kind: 8}, {Kind: -1}, {Kind: math.MaxInt}, {Kind: math.MinInt},
		flip(at(3, 0, 0, 0), 0), flip(at(0, 2, 0, 0), 0), flip(at(0, 0, 2, 0), 0), flip(at(0, 0, 0, 2), 0), flip(at(-1, 0, 0, 0), 0),
		flip(p, 576), flip(p, -1), flip(p, math.MaxInt), flip(p, math.MinInt),
		stuck(p, 576, 0), stuck(p, 0, 2), stuck(p, 0, -1), stuck(at(3, 0, 0, 0), 0, 0),
		stray(at(3, 0, 0, 0)), stray(at(0, 0, 0, -1)), stray(at(math.MaxInt, 0, 0, 0)),
		{Kind: fault.Flip, Place: p, Value: 1}, {Kind: fault.Flip, Place: p, Chip: 1},
		{Kind: fault.Stuck, Place: p, Chip: 1}, {Kind: fault.Stray, Place: p, Bit: 1}, {Kind: fault.Stray, Value: 1},
		{Kind: fault.Drop, Place: at(0, 0, 0, 1)}, {Kind: fault.Drop, Value: 1}, {Kind: fault.Drop, Chip: 1},
		{Kind: fault.Row, Place: at(0, 0, 0, 1)}, {Kind: fault.Column, Place: at(0, 0, 1, 0)}, {Kind: fault.Chip, Place: at(0, 1, 0, 0)},
	}
	for _, kind := range []int{fault.Row, fault.Column, fault.Chip} {
		for _, n := range []int{s.chips, -1, math.MaxInt, math.MinInt} {
			l = append(l, ofChip(kind, p, n, 0))
		}
		for _, n := range []int{256, -1, math.MaxInt, math.MinInt} {
			l = append(l, ofChip(kind, p, 0, n))
		}
		l = append(l, fault.Fault{Kind: kind, Bit: 1})
	}
	return l
}

// What isn't right is refused, and changes nothing: not where some are written down, and not where all that may be are.
func TestInjectWrong(t *testing.T) {
	for _, s := range shapes() {
		some := []fault.Fault{ofChip(fault.Chip, at(1, 0, 0, 0), 3, 9), stuck(at(0, 1, 0, 1), 5, 1)}
		for _, x := range []struct{ lasting, coming []fault.Fault }{
			{nil, nil},
			{some, []fault.Fault{stray(last(small())), drop()}},
			{full(some[0]), full(drop())},
		} {
			m := makeDram(t, small(), s.mode)
			for index := range small().All() {
				m.write(index, counting(index), straight(index))
			}
			m.inject(x.lasting...)
			m.inject(x.coming...)
			before := m.seen()
			for _, f := range wrongFaults(s) {
				if e := m.Inject(f); e != api.ErrForm {
					t.Errorf("%+v in the mode %d: %d", f, s.mode, e)
				}
			}
			m.holds(x.lasting, x.coming)
			if !slices.Equal(m.seen(), before) {
				t.Error("what is read is other than it was")
			}
		}
	}
}

// seen is what would be read at all places.
func (m made) seen() (l []raw.Raw) {
	for index := range m.Geom().All() {
		r, e := m.Look(index)
		if e != api.OK {
			m.t.Fatalf("looked at %d: %d", index, e)
		}
		l = append(l, r)
	}
	return l
}

// A chip that one mode has is none in the other.
func TestInjectHangsOnTheMode(t *testing.T) {
	f := ofChip(fault.Row, at(0, 0, 0, 0), 9, 1)
	if e := makeDram(t, small(), 1).Inject(f); e != api.ErrForm {
		t.Error(e)
	}
	if e := makeDram(t, small(), 2).Inject(f); e != api.OK {
		t.Error(e)
	}
}

// lastingOf are right faults that last, one of each kind, with other numbers each time.
func lastingOf(i int) fault.Fault {
	p := at(i%3, i/3%2, i/6%2, i/12%2)
	if i%4 == 0 {
		return stuck(p, i, i%2)
	}
	return ofChip(fault.Stuck+i%4, p, i%9, i%256)
}

// comingOf are Strays and Drops, with other places each time.
func comingOf(i int) fault.Fault {
	if i%3 == 1 {
		return drop()
	}
	return stray(at(i%3, i/3%2, i/6%2, i/12%2))
}

// listOf are the first n.
func listOf(of func(int) fault.Fault, n int) (l []fault.Fault) {
	for i := range n {
		l = append(l, of(i))
	}
	return l
}

func TestFullOfLasting(t *testing.T) {
	for _, s := range shapes() {
		m := makeDram(t, small(), s.mode)
		m.inject(listOf(lastingOf, 255)...)
		m.holds(listOf(lastingOf, 255), nil)
		m.inject(lastingOf(255))
		m.holds(listOf(lastingOf, 256), nil)
		before := m.seen()
		for i := range 24 {
			if e := m.Inject(lastingOf(i)); e != api.ErrFull {
				t.Errorf("%+v: %d", lastingOf(i), e)
			}
		}
		m.holds(listOf(lastingOf, 256), nil)
		if !slices.Equal(m.seen(), before) {
			t.Error("what is read is other than it was")
		}
		// The other limit is another one.
		m.inject(stray(last(small())), drop())
		m.inject(listOf(comingOf, 254)...)
		m.holds(listOf(lastingOf, 256), append([]fault.Fault{stray(last(small())), drop()}, listOf(comingOf, 254)...))
	}
}

func TestFullOfComing(t *testing.T) {
	m := makeDram(t, small(), 1)
	m.inject(listOf(comingOf, 255)...)
	m.holds(nil, listOf(comingOf, 255))
	m.inject(comingOf(255))
	for i := range 24 {
		if e := m.Inject(comingOf(i)); e != api.ErrFull {
			t.Errorf("%+v: %d", comingOf(i), e)
		}
	}
	m.holds(nil, listOf(comingOf, 256))
	m.inject(listOf(lastingOf, 256)...)
	m.holds(listOf(lastingOf, 256), listOf(comingOf, 256))
}

// An access makes room for one to come, and for one alone.
func TestRoomBehindAnAccess(t *testing.T) {
	m := makeDram(t, small(), 2)
	want := listOf(comingOf, 256)
	m.inject(want...)
	for i := range 600 {
		if i%2 == 0 {
			m.Read(0)
		} else {
			m.Write(0, filled(1))
		}
		m.inject(comingOf(i))
		if e := m.Inject(drop()); e != api.ErrFull {
			t.Fatalf("%d: %d", i, e)
		}
		want = append(want[1:], comingOf(i))
		m.holds(nil, want)
	}
}

// Nothing makes room for one that lasts.
func TestNoRoomForLasting(t *testing.T) {
	m := makeDram(t, small(), 1)
	m.inject(listOf(lastingOf, 256)...)
	m.inject(drop(), stray(at(1, 0, 0, 0)))
	for index := range small().All() {
		m.Write(index, filled(3))
		m.Read(index)
	}
	if e := m.Inject(lastingOf(0)); e != api.ErrFull {
		t.Error(e)
	}
	m.holds(listOf(lastingOf, 256), nil)
}

// With both limits reached Flips go on, and what isn't right is still told so.
func TestFullOfBoth(t *testing.T) {
	m := makeDram(t, small(), 1)
	far := ofChip(fault.Chip, at(2, 0, 0, 0), 0, 0)
	m.inject(full(far)...)
	m.inject(full(drop())...)
	want := raw.Raw{}
	for bit := range 576 {
		m.inject(flip(at(1, 1, 0, 1), bit))
		want = slowFlip(want, bit)
	}
	m.look(indexOf(at(1, 1, 0, 1)), filled(255))
	if want != filled(255) {
		t.Error(want)
	}
	for _, f := range []fault.Fault{far, stuck(at(0, 0, 0, 0), 0, 0), drop(), stray(at(0, 0, 0, 0))} {
		if e := m.Inject(f); e != api.ErrFull {
			t.Errorf("%+v: %d", f, e)
		}
	}
	for _, f := range wrongFaults(shapes()[0]) {
		if e := m.Inject(f); e != api.ErrForm {
			t.Errorf("%+v: %d", f, e)
		}
	}
	m.holds(full(far), full(drop()))
}

func TestFlip(t *testing.T) {
	for _, g := range geoms() {
		for _, s := range shapes() {
			for _, p := range []geom.Place{{}, last(g)} {
				for _, written := range []bool{false, true} {
					m, want := makeDram(t, g, s.mode), raw.Raw{}
					if written {
						want = counting(3)
						m.write(indexOf(p), want, straight(indexOf(p)))
					}
					for _, bit := range []int{0, 7, 8, 300, 574, 575} {
						m.inject(flip(p, bit))
						want = slowFlip(want, bit)
						m.read(indexOf(p), want, straight(indexOf(p)))
						m.read(indexOf(p), want, straight(indexOf(p)))
					}
				}
			}
		}
	}
}

// One that is turned twice is as it was; a write takes back what was turned, and what is turned behind it is turned in what was written.
func TestFlipAgain(t *testing.T) {
	m, p := makeDram(t, small(), 1), at(1, 0, 1, 1)
	index := indexOf(p)
	m.inject(flip(p, 9))
	m.look(index, raw.Raw{1: 2})
	m.inject(flip(p, 9))
	m.look(index, raw.Raw{})
	m.inject(flip(p, 9), flip(p, 10), flip(p, 9), flip(p, 9))
	m.look(index, raw.Raw{1: 6})
	m.write(index, filled(0x0F), straight(index))
	m.look(index, filled(0x0F))
	m.inject(flip(p, 9))
	want := filled(0x0F)
	want[1] = 0x0D
	m.look(index, want)
	m.write(index, raw.Raw{}, straight(index))
	m.look(index, raw.Raw{})
}

// A bit is turned at its place alone.
func TestFlipNowhereElse(t *testing.T) {
	g := small()
	for flipped := range g.All() {
		m := makeDram(t, g, 2)
		for index := range g.All() {
			m.write(index, counting(index%251), straight(index))
		}
		p, _ := g.At(flipped)
		m.inject(flip(p, 77))
		for index := range g.All() {
			want := counting(index % 251)
			if index == flipped {
				want = slowFlip(want, 77)
			}
			m.read(index, want, straight(index))
		}
	}
}

// A Flip goes where it should, and at once, whatever is to come.
func TestFlipIsNoAccess(t *testing.T) {
	m, p := makeDram(t, small(), 1), at(0, 1, 0, 0)
	m.inject(drop(), stray(at(1, 0, 0, 0)), flip(p, 0))
	m.holds(nil, []fault.Fault{drop(), stray(at(1, 0, 0, 0))})
	m.look(indexOf(p), raw.Raw{0: 1})
	m.look(indexOf(at(1, 0, 0, 0)), raw.Raw{})
}

// P12.2

func TestWriteAndRead(t *testing.T) {
	for _, g := range geoms() {
		for _, s := range shapes() {
			m := makeDram(t, g, s.mode)
			for _, index := range []int{0, indexOf(last(g)), indexOf(at(g.Ranks+g.Spares-1, 0, 0, 0)), indexOf(at(0, g.Banks-1, 0, 0)), indexOf(at(0, 0, g.Rows-1, 0))} {
				for _, r := range []raw.Raw{filled(255), counting(1), counting(index), {}, {71: 1}} {
					m.write(index, r, straight(index))
					m.read(index, r, straight(index))
					m.read(index, r, straight(index))
				}
			}
		}
	}
}

// Each place has bytes of its own.
func TestEachPlaceApart(t *testing.T) {
	for _, g := range []geom.Geom{small(), {Ranks: 1, Spares: 3, Banks: 16, Rows: 16, Cols: 4}, {Ranks: 1, Banks: 1, Rows: 64, Cols: 64}} {
		m, n := makeDram(t, g, 1), 0
		for index := range g.All() {
			m.read(index, raw.Raw{}, straight(index))
			m.write(index, raw.Raw{byte(n), byte(n >> 8), 71: 1}, straight(index))
			n++
		}
		n = 0
		for index := range g.All() {
			m.read(index, raw.Raw{byte(n), byte(n >> 8), 71: 1}, straight(index))
			n++
		}
		if n != g.Banks*g.Rows*g.Cols*(g.Ranks+g.Spares) {
			t.Error(n)
		}
	}
}

// Of an index that the geometry hasn't all calls tell so, and nothing is taken or changed.
func TestMissing(t *testing.T) {
	for _, g := range geoms() {
		for _, s := range shapes() {
			m := makeDram(t, g, s.mode)
			m.write(0, counting(9), straight(0))
			lasting := []fault.Fault{ofChip(fault.Chip, at(0, 0, 0, 0), 2, 8)}
			coming := []fault.Fault{drop(), stray(last(g))}
			m.inject(lasting...)
			for _, l := range [][]fault.Fault{nil, coming} {
				m.inject(l...)
				before := m.seen()
				for _, index := range missing(g) {
					if w, e := m.Write(index, filled(255)); w != (Went{}) || e != api.ErrRange {
						t.Errorf("%+v: written to %d: %+v, %d", g, index, w, e)
					}
					if r, w, e := m.Read(index); r != (raw.Raw{}) || w != (Went{}) || e != api.ErrRange {
						t.Errorf("%+v: read from %d: %x, %+v, %d", g, index, r, w, e)
					}
					if r, e := m.Look(index); r != (raw.Raw{}) || e != api.ErrRange {
						t.Errorf("%+v: looked at %d: %x, %d", g, index, r, e)
					}
				}
				m.holds(lasting, l)
				if !slices.Equal(m.seen(), before) {
					t.Error("what is read is other than it was")
				}
			}
		}
	}
}

func TestExample(t *testing.T) {
	m := makeDram(t, small(), raw.Bits)
	m.inject(stray(at(0, 0, 0, 1)))
	m.write(0, filled(7), Went{Index: 1})
	m.look(0, raw.Raw{})
	m.look(1, filled(7))
}

func TestStrayWrites(t *testing.T) {
	m := makeDram(t, small(), 1)
	a, b, c := indexOf(at(0, 0, 1, 1)), indexOf(at(1, 1, 0, 0)), indexOf(at(2, 1, 1, 1))
	m.write(a, filled(1), straight(a))
	// To another one, then to its own one, then to two others, one behind the other.
	m.inject(stray(at(1, 1, 0, 0)), stray(at(0, 0, 1, 1)), stray(at(2, 1, 1, 1)), stray(at(1, 1, 0, 0)))
	m.write(a, filled(2), Went{Index: b})
	m.look(a, filled(1))
	m.look(b, filled(2))
	m.write(a, filled(3), straight(a))
	m.look(a, filled(3))
	m.write(a, filled(4), Went{Index: c})
	m.write(a, filled(5), Went{Index: b})
	m.write(a, filled(6), straight(a))
	m.look(a, filled(6))
	m.look(b, filled(5))
	m.look(c, filled(4))
	m.holds(nil, nil)
}

func TestStrayReads(t *testing.T) {
	m := makeDram(t, small(), 2)
	a, b, c := 0, indexOf(at(1, 0, 1, 0)), indexOf(at(2, 1, 1, 1))
	m.write(a, filled(1), straight(a))
	m.write(b, filled(2), straight(b))
	m.inject(stray(at(1, 0, 1, 0)), stray(at(0, 0, 0, 0)), stray(at(2, 1, 1, 1)), stray(at(1, 0, 1, 0)))
	m.read(a, filled(2), Went{Index: b})
	m.read(a, filled(1), straight(a))
	m.read(a, raw.Raw{}, Went{Index: c})
	m.read(c, filled(2), Went{Index: b})
	m.read(a, filled(1), straight(a))
	m.holds(nil, nil)
}

func TestDropped(t *testing.T) {
	m := makeDram(t, small(), 1)
	last := indexOf(last(small()))
	m.write(last, filled(9), straight(last))
	m.inject(drop(), drop(), drop())
	m.write(last, filled(8), dropped(last))
	m.look(last, filled(9))
	m.read(last, raw.Raw{}, dropped(last))
	m.read(0, raw.Raw{}, dropped(0))
	m.read(last, filled(9), straight(last))
	m.write(last, filled(7), straight(last))
	m.read(last, filled(7), straight(last))
}

// What is dropped tells noughts, even where faults would tell otherwise.
func TestDroppedOverFaults(t *testing.T) {
	for _, s := range shapes() {
		m := makeDram(t, small(), s.mode)
		m.inject(ofChip(fault.Chip, at(0, 0, 0, 0), 0, 255), stuck(at(0, 0, 0, 0), 100, 1), drop())
		m.write(1, filled(1), dropped(1))
		m.inject(drop())
		m.read(0, raw.Raw{}, dropped(0))
		m.read(0, slowForce(slowChip(s.mode, raw.Raw{}, 0, 255), 100, 1), straight(0))
	}
}

// Strays and Drops in each order, before writes and reads in each order.
func TestEachOrder(t *testing.T) {
	g := small()
	a, b := at(0, 1, 0, 1), at(1, 0, 1, 0)
	kinds := []fault.Fault{stray(a), stray(b), drop()}
	for n := range 81 {
		for reads := range 16 {
			m, l := makeDram(t, g, 1), []fault.Fault{kinds[n%3], kinds[n/3%3], kinds[n/9%3], kinds[n/27]}
			m.inject(l...)
			stored := map[int]raw.Raw{}
			for i, f := range l {
				want := straight(indexOf(f.Place))
				if f.Kind == fault.Drop {
					want = dropped(indexOf(a))
				}
				if reads>>i&1 == 1 {
					r := stored[want.Index]
					if want.Dropped {
						r = raw.Raw{}
					}
					m.read(indexOf(a), r, want)
				} else {
					m.write(indexOf(a), filled(byte(i+1)), want)
					if !want.Dropped {
						stored[want.Index] = filled(byte(i + 1))
					}
				}
				m.holds(nil, l[i+1:])
			}
			m.read(indexOf(a), stored[indexOf(a)], straight(indexOf(a)))
			m.read(indexOf(b), stored[indexOf(b)], straight(indexOf(b)))
		}
	}
}

// What lies where a read went is read, not what lies where it was meant to go.
func TestStrayReadsAndFaults(t *testing.T) {
	for _, s := range shapes() {
		m := makeDram(t, small(), s.mode)
		good, bad := 0, indexOf(at(1, 1, 1, 1))
		m.write(good, counting(1), straight(good))
		m.write(bad, counting(2), straight(bad))
		m.inject(ofChip(fault.Row, at(1, 1, 1, 1), 4, 0xEE), stuck(at(1, 1, 1, 1), 3, 1))
		want := slowForce(slowChip(s.mode, counting(2), 4, 0xEE), 3, 1)
		m.inject(stray(at(1, 1, 1, 1)), stray(at(0, 0, 0, 0)))
		m.read(good, want, straight(bad))
		m.read(bad, counting(1), straight(good))
		m.read(good, counting(1), straight(good))
		m.read(bad, want, straight(bad))
	}
}

// Faults that last over what was written: each one alone, at its place and beside it.
func TestOneLasting(t *testing.T) {
	g := small()
	for _, s := range shapes() {
		for n := range 24 {
			m, f := makeDram(t, g, s.mode), lastingOf(n)
			m.inject(f)
			for index := range g.All() {
				m.write(index, counting(index%199), straight(index))
				p, _ := g.At(index)
				m.read(index, slowOverlay([]fault.Fault{f}, s.mode, p, counting(index%199)), straight(index))
			}
		}
	}
}

// slowLies tells by each part of a place whether it must be alike.
func slowLies(f fault.Fault, p geom.Place) bool {
	q := f.Place
	return q.Rank == p.Rank &&
		(f.Kind == 5 || q.Bank == p.Bank) &&
		(f.Kind == 4 || f.Kind == 5 || q.Row == p.Row) &&
		(f.Kind == 3 || f.Kind == 5 || q.Col == p.Col)
}

// slowOverlay goes through faults that last by layer 11's table.
func slowOverlay(l []fault.Fault, mode int, p geom.Place, r raw.Raw) raw.Raw {
	for _, f := range l {
		switch {
		case !slowLies(f, p):
		case f.Kind == 2:
			r = slowForce(r, f.Bit, f.Value)
		default:
			r = slowChip(mode, r, f.Chip, f.Value)
		}
	}
	return r
}

// Several that meet, of one chip and of one bit, in each order.
func TestSeveralLasting(t *testing.T) {
	p := at(1, 1, 0, 1)
	index := indexOf(p)
	for _, s := range shapes() {
		for _, l := range [][]fault.Fault{
			{stuck(p, 24, 1), stuck(p, 24, 0), ofChip(fault.Row, p, 3, 0x5A)},
			{ofChip(fault.Row, p, 3, 1), ofChip(fault.Column, p, 3, 2), ofChip(fault.Chip, p, 3, 3)},
			{ofChip(fault.Row, p, 3, 1), ofChip(fault.Column, p, 4, 2), ofChip(fault.Chip, p, 5, 3)},
			{stuck(p, 0, 1), stuck(p, 1, 1), stuck(at(1, 1, 0, 0), 2, 1)},
			{stuck(p, 575, 0), ofChip(fault.Chip, p, s.chips-1, 255), ofChip(fault.Column, at(0, 0, 0, 0), 0, 9)},
		} {
			for _, order := range [][]int{{0, 1, 2}, {0, 2, 1}, {1, 0, 2}, {1, 2, 0}, {2, 0, 1}, {2, 1, 0}} {
				m, so := makeDram(t, small(), s.mode), []fault.Fault(nil)
				m.write(index, counting(100), straight(index))
				for _, i := range order {
					m.inject(l[i])
					so = append(so, l[i])
					m.read(index, slowOverlay(so, s.mode, p, counting(100)), straight(index))
				}
				m.holds(so, nil)
				m.write(index, counting(50), straight(index))
				m.read(index, slowOverlay(so, s.mode, p, counting(50)), straight(index))
			}
		}
	}
}

func TestLastingByHand(t *testing.T) {
	m, p := makeDram(t, small(), raw.Chips), at(0, 0, 0, 0)
	m.inject(ofChip(fault.Row, p, 3, 0xF0))
	m.read(0, raw.Raw{3: 0xF0, 39: 0xF0}, straight(0))
	m.inject(stuck(p, 24, 1))
	m.read(0, raw.Raw{3: 0xF1, 39: 0xF0}, straight(0))
	m.read(1, raw.Raw{3: 0xF0, 39: 0xF0}, straight(1))
	m.inject(ofChip(fault.Column, p, 3, 0x0A))
	m.read(0, raw.Raw{3: 0x0A, 39: 0x0A}, straight(0))
	m.read(64, raw.Raw{3: 0x0A, 39: 0x0A}, straight(64))
	m.read(65, raw.Raw{}, straight(65))
	m.inject(ofChip(fault.Chip, p, 4, 0xBB))
	m.read(65, raw.Raw{4: 0xBB, 40: 0xBB}, straight(65))
	m.read(indexOf(at(1, 0, 0, 0)), raw.Raw{}, straight(indexOf(at(1, 0, 0, 0))))
}

// What is stored stays as it was written, whatever is read of it.
func TestStoredStays(t *testing.T) {
	for _, s := range shapes() {
		m, p := makeDram(t, small(), s.mode), at(2, 0, 1, 0)
		index := indexOf(p)
		m.write(index, counting(7), straight(index))
		m.inject(ofChip(fault.Chip, p, 1, 0), stuck(p, 16, 1))
		m.read(index, slowForce(slowChip(s.mode, counting(7), 1, 0), 16, 1), straight(index))
		m.Look(index)
		if m.cells[index] != counting(7) {
			t.Errorf("%x", m.cells[index])
		}
		m.write(index, counting(8), straight(index))
		if m.cells[index] != counting(8) {
			t.Errorf("%x", m.cells[index])
		}
		// A bit is turned beneath those that are read instead of it, and is seen where none is.
		m.inject(flip(p, 16), flip(p, 8), flip(p, 20))
		stored := slowFlip(slowFlip(slowFlip(counting(8), 16), 8), 20)
		if m.cells[index] != stored {
			t.Errorf("%x", m.cells[index])
		}
		m.read(index, slowForce(slowChip(s.mode, stored, 1, 0), 16, 1), straight(index))
	}
}

// What nobody wrote to takes no room, however often it is read.
func TestReadingStoresNothing(t *testing.T) {
	m := makeDram(t, small(), 1)
	m.inject(ofChip(fault.Chip, at(0, 0, 0, 0), 1, 9), drop(), stray(at(1, 1, 1, 1)))
	for index := range small().All() {
		m.Read(index)
		m.Look(index)
	}
	if len(m.cells) != 0 {
		t.Error(len(m.cells))
	}
}

// What is taken isn't kept behind those that are still to come, and takes no more and more room.
func TestTakenIsNotKept(t *testing.T) {
	m := makeDram(t, small(), 1)
	for range 10 {
		m.inject(listOf(comingOf, 200)...)
		for range 200 {
			m.Read(0)
		}
	}
	if room := cap(m.coming); room > 2*api.MaxFaults {
		t.Error(room)
	}
	for _, f := range m.coming[:cap(m.coming)] {
		if f != (fault.Fault{}) {
			t.Error(f)
		}
	}
}

// P12.3

func TestLook(t *testing.T) {
	for _, s := range shapes() {
		m, p := makeDram(t, small(), s.mode), at(2, 1, 0, 1)
		index := indexOf(p)
		lasting := []fault.Fault{ofChip(fault.Column, p, 2, 0x33), stuck(p, 400, 1)}
		m.write(index, filled(0x44), straight(index))
		m.look(index, filled(0x44))
		m.inject(lasting...)
		want := slowOverlay(lasting, s.mode, p, filled(0x44))
		for _, l := range [][]fault.Fault{nil, {drop()}, {stray(at(0, 0, 0, 0))}, {stray(p), drop(), stray(at(1, 0, 0, 0))}} {
			m.inject(l...)
			for range 3 {
				m.look(index, want)
				m.look(0, raw.Raw{})
				m.holds(lasting, l)
			}
			for range l {
				m.Read(index)
			}
			m.read(index, want, straight(index))
		}
	}
}

// A Look tells what the next Read does that goes there.
func TestLookIsWhatIsRead(t *testing.T) {
	for _, s := range shapes() {
		m := makeDram(t, small(), s.mode)
		m.inject(listOf(lastingOf, 40)...)
		for index := range small().All() {
			m.Write(index, counting(index%97))
			r, _ := m.Look(index)
			m.read(index, r, straight(index))
		}
	}
}

func TestFaultsAndComing(t *testing.T) {
	m := makeDram(t, small(), 1)
	for i := range 40 {
		m.inject(lastingOf(i), comingOf(i), flip(at(0, 0, 0, 0), i))
		for range 2 {
			m.holds(listOf(lastingOf, i+1), listOf(comingOf, i+1))
		}
	}
	want := listOf(comingOf, 40)
	for i := range 40 {
		if i%2 == 0 {
			m.Write(i%2, filled(byte(i)))
		} else {
			m.Read(i % 2)
		}
		for range 2 {
			m.holds(listOf(lastingOf, 40), want[i+1:])
		}
	}
	for range 5 {
		m.Read(0)
		m.holds(listOf(lastingOf, 40), nil)
	}
}

func TestGeomAndMode(t *testing.T) {
	for _, g := range geoms() {
		for _, s := range shapes() {
			m := makeDram(t, g, s.mode)
			m.inject(drop(), stuck(last(g), 0, 0), flip(last(g), 9))
			m.Write(0, filled(1))
			m.Read(-1)
			told := m.Geom()
			told.Ranks, told.Cols = 9, 9
			for range 2 {
				if m.Geom() != g || m.Mode() != s.mode {
					t.Errorf("%+v, %d", m.Geom(), m.Mode())
				}
			}
		}
	}
}

// spoil writes over a list that was told, over its spare room too, and behind it.
func spoil(l []fault.Fault) {
	all := l[:cap(l)]
	for i := range all {
		all[i] = fault.Fault{Kind: fault.Drop, Chip: 99}
	}
	_ = append(l, fault.Fault{Kind: fault.Chip, Value: 1})
}

// A change to what was told, or handed in, changes nothing behind.
func TestToldIsNew(t *testing.T) {
	for n := range 12 {
		m := makeDram(t, small(), 1)
		m.inject(listOf(lastingOf, n)...)
		m.inject(listOf(comingOf, n)...)
		m.turnSome(n)
		before := m.seen()
		faults, coming := m.Faults(), m.Coming()
		again, more := m.Faults(), m.Coming()
		spoil(faults)
		spoil(coming)
		if !slices.Equal(again, listOf(lastingOf, n)) || !slices.Equal(more, listOf(comingOf, n)) {
			t.Errorf("%+v, %+v", again, more)
		}
		m.holds(listOf(lastingOf, n), listOf(comingOf, n))
		if !slices.Equal(m.seen(), before) {
			t.Error("what is read is other than it was")
		}
		// What comes behind doesn't change what was told ahead of it.
		m.inject(lastingOf(20), comingOf(20))
		m.Read(0)
		if !slices.Equal(again, listOf(lastingOf, n)) || !slices.Equal(more, listOf(comingOf, n)) {
			t.Errorf("%+v, %+v", again, more)
		}
		spoil(again)
		spoil(more)
		m.holds(append(listOf(lastingOf, n), lastingOf(20)), append(listOf(comingOf, n), comingOf(20))[1:])
	}
}

// turnSome turns bits that are stored at 0 and at 1, which takes nothing that is to come.
func (m made) turnSome(n int) {
	for bit := range n {
		m.inject(flip(at(0, 0, 0, 0), bit), flip(at(0, 0, 0, 1), 2*bit))
	}
}

func TestHandedInIsNotKept(t *testing.T) {
	m := makeDram(t, small(), 1)
	r := counting(5)
	m.write(0, r, straight(0))
	r[0], r[71] = 0xAA, 0xBB
	m.look(0, counting(5))
	f := stuck(at(0, 0, 0, 0), 3, 1)
	m.inject(f)
	f.Bit = 9
	m.holds([]fault.Fault{stuck(at(0, 0, 0, 0), 3, 1)}, nil)
	told, _ := m.Look(0)
	told[0] ^= 0xFF
	m.look(0, slowForce(counting(5), 3, 1))
}

// All of these, against a slow one that keeps all that happened.

// event is what happened: something was injected, or written, or read.
type event struct {
	f     fault.Fault
	write bool
	index int
	r     raw.Raw
}

// slow keeps all that happened, and goes through it again for each thing that is asked of it.
type slow struct {
	g      geom.Geom
	mode   int
	events []event
}

// lastingAndComing are what lasts, and what is to come.
func (s *slow) lastingAndComing() (lasting, coming []fault.Fault) {
	for _, v := range s.events {
		switch {
		case v.f.Kind >= 2 && v.f.Kind <= 5:
			lasting = append(lasting, v.f)
		case v.f.Kind >= 6:
			coming = append(coming, v.f)
		case v.f.Kind == 0 && len(coming) > 0:
			coming = coming[1:]
		}
	}
	return lasting, coming
}

func (s *slow) inject(f fault.Fault) api.Errno {
	if !f.Right(s.g, s.mode) {
		return api.ErrForm
	}
	lasting, coming := s.lastingAndComing()
	if f.Kind >= 6 && len(coming) == 256 || f.Kind >= 2 && f.Kind <= 5 && len(lasting) == 256 {
		return api.ErrFull
	}
	s.events = append(s.events, event{f: f})
	return api.OK
}

// holds is whether one of the geometry's indices is this one.
func (s *slow) holds(index int) bool {
	for have := range s.g.All() {
		if have == index {
			return true
		}
	}
	return false
}

// goes is where the next access to an index goes.
func (s *slow) goes(index int) Went {
	_, coming := s.lastingAndComing()
	switch {
	case len(coming) == 0:
		return Went{Index: index}
	case coming[0].Kind == 7:
		return Went{Index: index, Dropped: true}
	}
	return Went{Index: indexOf(coming[0].Place)}
}

func (s *slow) write(index int, r raw.Raw) (Went, api.Errno) {
	if !s.holds(index) {
		return Went{}, api.ErrRange
	}
	w := s.goes(index)
	s.events = append(s.events, event{write: true, index: index, r: r})
	return w, api.OK
}

func (s *slow) read(index int) (r raw.Raw, w Went, e api.Errno) {
	if !s.holds(index) {
		return r, w, api.ErrRange
	}
	w = s.goes(index)
	if !w.Dropped {
		r, _ = s.look(w.Index)
	}
	s.events = append(s.events, event{index: index})
	return r, w, api.OK
}

func (s *slow) look(index int) (r raw.Raw, e api.Errno) {
	if !s.holds(index) {
		return r, api.ErrRange
	}
	then := slow{g: s.g, mode: s.mode}
	var coming []fault.Fault
	for _, v := range s.events {
		went, isDropped := v.index, false
		switch {
		case v.f.Kind == 1 && indexOf(v.f.Place) == index:
			r = slowFlip(r, v.f.Bit)
		case v.f.Kind >= 6:
			coming = append(coming, v.f)
		case v.f.Kind == 0 && len(coming) > 0:
			isDropped = coming[0].Kind == 7
			went = indexOf(coming[0].Place)
			coming = coming[1:]
		}
		if v.write && !isDropped && went == index {
			r = v.r
		}
		then.events = append(then.events, v)
	}
	lasting, _ := then.lastingAndComing()
	p, _ := s.g.At(index)
	return slowOverlay(lasting, s.mode, p, r), api.OK
}

// chance tells numbers that follow no simple rule, the same ones in each run.
type chance uint64

func (c *chance) below(n int) int {
	*c = *c*6364136223846793005 + 1442695040888963407
	return int(uint64(*c)>>33) % n
}

// fault is one of any kind, in most cases a right one.
func (c *chance) fault(s shape) fault.Fault {
	p := at(c.below(3), c.below(2), c.below(2), c.below(2))
	switch c.below(12) {
	case 0, 1, 2:
		return flip(p, c.below(576))
	case 3:
		return stuck(p, c.below(577), c.below(2))
	case 4, 5, 6:
		return ofChip(3+c.below(3), p, c.below(s.chips+1), c.below(256))
	case 7, 8, 9:
		return stray(p)
	case 10:
		return drop()
	}
	return fault.Fault{Kind: c.below(9), Place: at(c.below(4), c.below(3), c.below(3), c.below(3)), Chip: c.below(2), Bit: c.below(2), Value: c.below(2)}
}

// index is one that the small geometry has, or, now and then, one that it hasn't.
func (c *chance) index() int {
	if c.below(10) == 0 {
		return missing(small())[c.below(len(missing(small())))]
	}
	return indexOf(at(c.below(3), c.below(2), c.below(2), c.below(2)))
}

// raw has bytes of any kind.
func (c *chance) raw() (r raw.Raw) {
	for i := range r {
		r[i] = byte(c.below(256))
	}
	return r
}

// play is a dram and a slow one, to which the same is done.
type play struct {
	made
	s *slow
}

func (y play) inject(f fault.Fault) {
	if e, want := y.Inject(f), y.s.inject(f); e != want {
		y.t.Fatalf("%+v: %d, not %d", f, e, want)
	}
}

func (y play) write(index int, r raw.Raw) {
	w, e := y.Write(index, r)
	if v, want := y.s.write(index, r); w != v || e != want {
		y.t.Fatalf("written to %d: %+v, %d, not %+v, %d", index, w, e, v, want)
	}
}

func (y play) read(index int) {
	r, w, e := y.Read(index)
	if b, v, want := y.s.read(index); r != b || w != v || e != want {
		y.t.Fatalf("read from %d: %x, %+v, %d, not %x, %+v, %d", index, r, w, e, b, v, want)
	}
}

func (y play) look(index int) {
	r, e := y.Look(index)
	if b, want := y.s.look(index); r != b || e != want {
		y.t.Fatalf("looked at %d: %x, %d, not %x, %d", index, r, e, b, want)
	}
}

// lists holds those that last, and those to come, against those of the slow one.
func (y play) lists() {
	y.holds(y.s.lastingAndComing())
	if y.Geom() != y.s.g || y.Mode() != y.s.mode {
		y.t.Fatalf("%+v, %d", y.Geom(), y.Mode())
	}
}

func TestLongPlay(t *testing.T) {
	for _, s := range shapes() {
		for seed := range 4 {
			y := play{makeDram(t, small(), s.mode), &slow{g: small(), mode: s.mode}}
			c := chance(12*seed + s.mode)
			for range 1500 {
				switch c.below(7) {
				case 0, 1:
					y.inject(c.fault(s))
				case 2, 3:
					y.write(c.index(), c.raw())
				case 4, 5:
					y.read(c.index())
				default:
					y.look(c.index())
				}
				y.lists()
			}
			for index := range small().All() {
				y.look(index)
			}
		}
	}
}

// A play that goes past both limits: more is injected than is taken.
func TestPlayPastTheLimits(t *testing.T) {
	for _, s := range shapes() {
		y := play{makeDram(t, small(), s.mode), &slow{g: small(), mode: s.mode}}
		c := chance(77 + s.mode)
		for range 1500 {
			y.inject(c.fault(s))
			if c.below(20) == 0 {
				y.write(c.index(), c.raw())
				y.read(c.index())
			}
			y.lists()
		}
		if len(y.Faults()) != 256 || len(y.Coming()) < 250 {
			t.Errorf("%d last, %d are to come", len(y.Faults()), len(y.Coming()))
		}
		for index := range small().All() {
			y.look(index)
		}
	}
}

// P1

func FuzzDram(f *testing.F) {
	f.Add(1, 0, 0, 0, 0, 0, 0, 0, 1)
	f.Add(2, 1, 1, 1, 1, 0, 575, 1, 2)
	f.Add(3, 1, 1, 1, 0, 35, 0, 255, 65)
	f.Add(6, 2, 1, 1, 1, 0, 0, 0, 1<<21)
	f.Add(7, 0, 0, 0, 0, 0, 0, 0, -1)
	f.Add(5, math.MinInt, math.MaxInt, 0, -1, math.MinInt, math.MaxInt, math.MinInt, math.MaxInt)
	f.Fuzz(func(t *testing.T, kind, rank, bank, row, col, chip, bit, value, index int) {
		g := geom.Geom{Ranks: rank, Spares: bank, Banks: row, Rows: col, Cols: chip}
		if d, e := New(g, kind); (d == nil) == (e == api.OK) || (e == api.ErrGeom) == g.Right() {
			t.Errorf("%+v, the mode %d: %v, %d", g, kind, d, e)
		}
		x := fault.Fault{Kind: kind, Place: at(rank, bank, row, col), Chip: chip, Bit: bit, Value: value}
		for _, s := range shapes() {
			y := play{makeDram(t, small(), s.mode), &slow{g: small(), mode: s.mode}}
			for _, i := range []int{index, rank, 0, indexOf(x.Place), index} {
				y.look(i)
				y.inject(x)
				y.write(i, counting(value))
				y.inject(x)
				y.read(i)
				y.read(i)
				y.lists()
			}
		}
	})
}
