package fault

import (
	"math"
	"slices"
	"testing"

	"cuirass/api"
	"cuirass/geom"
	"cuirass/raw"
)

// edges are the numbers at the ends of int, and such whose lowest bits are those of small ones.
func edges() []int {
	return []int{
		math.MinInt, math.MinInt + 1, math.MinInt + 2, math.MinInt + 9, math.MinInt / 8, math.MinInt32, -1 << 32, -1 << 16, -256, -255,
		1 << 16, 1<<16 + 1, math.MaxInt32, 1 << 32, 1<<32 + 1, 1<<32 + 2, 1 << 60, 1 << 62, math.MaxInt / 8, math.MaxInt - 1, math.MaxInt,
	}
}

// wrongKinds are numbers that no kind has.
func wrongKinds() []int {
	return append(edges(), 0, 8, 9, 10, 16, 256, 257, 258, 263, -1, -2, -7, -8)
}

// wrongModes are numbers that no mode has.
func wrongModes() []int {
	return append(edges(), 0, 3, 4, 9, 36, 256, 257, 258, -1, -2)
}

// outside are numbers that none of count things has.
func outside(count int) []int {
	numbers := []int{-1, -2, -count, count, count + 1, 2 * count}
	for _, n := range edges() {
		if n < 0 || n >= count {
			numbers = append(numbers, n)
		}
	}
	return numbers
}

// kinds are all kinds, by the document's numbers.
func kinds() []int { return []int{1, 2, 3, 4, 5, 6, 7} }

// shape is a mode with how many words and chips it has.
type shape struct{ mode, words, chips int }

func shapes() []shape {
	return []shape{{1, 8, 9}, {2, 2, 36}}
}

// geoms are right geometries, from the least to such as are at the limits.
func geoms() []geom.Geom {
	return []geom.Geom{
		{Ranks: 1, Banks: 1, Rows: 1, Cols: 1},
		{Ranks: 2, Spares: 1, Banks: 2, Rows: 4, Cols: 8},
		{Ranks: 1, Spares: 7, Banks: 8, Rows: 2, Cols: 4},
		{Ranks: 8, Banks: 16, Rows: 1, Cols: 2},
		{Ranks: 1, Banks: 1, Rows: 1024, Cols: 4},
		{Ranks: 4, Spares: 3, Banks: 1, Rows: 2, Cols: 64},
	}
}

// wrongGeoms are geometries that aren't right, all but the first by one thing.
func wrongGeoms() []geom.Geom {
	return []geom.Geom{
		{},
		{Ranks: 3, Banks: 1, Rows: 1, Cols: 1},
		{Ranks: 0, Spares: 1, Banks: 1, Rows: 1, Cols: 1},
		{Ranks: 8, Spares: 1, Banks: 1, Rows: 1, Cols: 1},
		{Ranks: 1, Spares: -1, Banks: 1, Rows: 1, Cols: 1},
		{Ranks: 1, Banks: 32, Rows: 1, Cols: 1},
		{Ranks: 1, Banks: 1, Rows: 2048, Cols: 1},
		{Ranks: 1, Banks: 1, Rows: 1, Cols: 128},
		{Ranks: 8, Banks: 16, Rows: 16, Cols: 4},
		{Ranks: math.MinInt, Banks: 1, Rows: 1, Cols: 1},
		{Ranks: 1, Banks: math.MaxInt, Rows: 1, Cols: 1},
	}
}

// last is a geometry's last place.
func last(g geom.Geom) geom.Place {
	return geom.Place{Rank: g.Ranks + g.Spares - 1, Bank: g.Banks - 1, Row: g.Rows - 1, Col: g.Cols - 1}
}

// at is a place.
func at(rank, bank, row, col int) geom.Place {
	return geom.Place{Rank: rank, Bank: bank, Row: row, Col: col}
}

// namedBy is a place with what a kind doesn't name as 0.
func namedBy(kind int, p geom.Place) geom.Place {
	switch kind {
	case 3:
		return at(p.Rank, p.Bank, p.Row, 0)
	case 4:
		return at(p.Rank, p.Bank, 0, p.Col)
	case 5:
		return at(p.Rank, 0, 0, 0)
	case 7:
		return at(0, 0, 0, 0)
	}
	return p
}

// hasChip, hasBit and greatest are what the document's table tells of the kinds.
func hasChip(kind int) bool { return kind == 3 || kind == 4 || kind == 5 }

func hasBit(kind int) bool { return kind == 1 || kind == 2 }

func greatest(kind int) int {
	switch kind {
	case 2:
		return 1
	case 3, 4, 5:
		return 255
	}
	return 0
}

// rightFaults are faults of each kind that are right for a geometry, at the edges of all that they have.
func rightFaults(g geom.Geom, s shape) (l []Fault) {
	for _, kind := range kinds() {
		for _, p := range []geom.Place{{}, last(g)} {
			chips, bits := []int{0}, []int{0}
			if hasChip(kind) {
				chips = []int{0, 1, s.chips - 1}
			}
			if hasBit(kind) {
				bits = []int{0, 1, 300, 575}
			}
			for _, chip := range chips {
				for _, bit := range bits {
					l = append(l, Fault{kind, namedBy(kind, p), chip, bit, 0})
					l = append(l, Fault{kind, namedBy(kind, p), chip, bit, greatest(kind)})
				}
			}
		}
	}
	return l
}

// counting has each byte another one: its place.
func counting() (r raw.Raw) {
	for i := range r {
		r[i] = byte(i)
	}
	return r
}

// filled has all bytes alike.
func filled(x byte) (r raw.Raw) {
	for i := range r {
		r[i] = x
	}
	return r
}

// some are raw bytes of noughts, of ones, with each byte another one, and half and half.
func some() []raw.Raw {
	return []raw.Raw{{}, filled(0xFF), counting(), filled(0x5A)}
}

// slowForce has a bit as value, 0 or 1, by adding or taking off what it stands for.
func slowForce(r raw.Raw, bit, value int) raw.Raw {
	stands := 1
	for range bit % 8 {
		stands *= 2
	}
	x := int(r[bit/8])
	if x/stands%2 < value {
		x += stands
	} else if x/stands%2 > value {
		x -= stands
	}
	r[bit/8] = byte(x)
	return r
}

// slowChip has all bytes of a chip as value, by going through all of them.
func slowChip(s shape, r raw.Raw, chip, value int) raw.Raw {
	for i := range r {
		if i%s.chips == chip {
			r[i] = byte(value)
		}
	}
	return r
}

// chance tells numbers that follow no simple rule, the same ones in each run.
type chance uint64

func (c *chance) below(n int) int {
	*c = *c*6364136223846793005 + 1442695040888963407
	return int(uint64(*c)>>33) % n
}

func (c *chance) place() geom.Place {
	return at(c.below(2), c.below(2), c.below(2), c.below(2))
}

// fault is a right fault at one of a few places, or one that lies nowhere.
func (c *chance) fault(s shape) Fault {
	kind := 1 + c.below(7)
	f := Fault{Kind: kind, Place: namedBy(kind, c.place())}
	if hasChip(kind) {
		f.Chip = c.below(s.chips)
	}
	if hasBit(kind) {
		f.Bit = c.below(576)
	}
	f.Value = c.below(greatest(kind) + 1)
	return f
}

// P11.1

func TestKinds(t *testing.T) {
	named := []int{Flip, Stuck, Row, Column, Chip, Stray, Drop}
	if !slices.Equal(named, []int{1, 2, 3, 4, 5, 6, 7}) {
		t.Error(named)
	}
}

func TestRight(t *testing.T) {
	for _, g := range geoms() {
		for _, s := range shapes() {
			for _, f := range rightFaults(g, s) {
				if !f.Right(g, s.mode) {
					t.Errorf("%+v isn't right for %+v and the mode %d", f, g, s.mode)
				}
			}
		}
	}
}

func TestRightByHand(t *testing.T) {
	g := geom.Geom{Ranks: 2, Spares: 1, Banks: 2, Rows: 4, Cols: 8}
	for _, x := range []struct {
		f           Fault
		bits, chips bool
	}{
		{Fault{Flip, at(2, 1, 3, 7), 0, 575, 0}, true, true},
		{Fault{Flip, at(2, 1, 3, 7), 0, 575, 1}, false, false},
		{Fault{Flip, at(2, 1, 3, 7), 1, 575, 0}, false, false},
		{Fault{Stuck, at(0, 0, 0, 0), 0, 0, 1}, true, true},
		{Fault{Stuck, at(0, 0, 0, 0), 0, 0, 2}, false, false},
		{Fault{Stuck, at(0, 0, 0, 0), 0, 0, -1}, false, false},
		{Fault{Stuck, at(0, 0, 0, 0), 0, 0, 255}, false, false},
		{Fault{Row, at(1, 1, 2, 0), 8, 0, 255}, true, true},
		{Fault{Row, at(1, 1, 2, 0), 9, 0, 255}, false, true},
		{Fault{Row, at(1, 1, 2, 0), 35, 0, 0}, false, true},
		{Fault{Row, at(1, 1, 2, 0), 36, 0, 0}, false, false},
		{Fault{Row, at(1, 1, 2, 1), 0, 0, 0}, false, false},
		{Fault{Column, at(1, 1, 0, 7), 0, 0, 2}, true, true},
		{Fault{Column, at(1, 1, 1, 7), 0, 0, 2}, false, false},
		{Fault{Column, at(1, 1, 0, 7), 0, 0, 256}, false, false},
		{Fault{Chip, at(2, 0, 0, 0), 0, 0, 1}, true, true},
		{Fault{Chip, at(3, 0, 0, 0), 0, 0, 1}, false, false},
		{Fault{Chip, at(2, 1, 0, 0), 0, 0, 1}, false, false},
		{Fault{Chip, at(2, 0, 1, 0), 0, 0, 1}, false, false},
		{Fault{Chip, at(2, 0, 0, 1), 0, 0, 1}, false, false},
		{Fault{Stray, at(2, 1, 3, 7), 0, 0, 0}, true, true},
		{Fault{Stray, at(2, 1, 4, 7), 0, 0, 0}, false, false},
		{Fault{Drop, at(0, 0, 0, 0), 0, 0, 0}, true, true},
		{Fault{Drop, at(0, 0, 0, 1), 0, 0, 0}, false, false},
		{Fault{}, false, false},
		{Fault{8, at(0, 0, 0, 0), 0, 0, 0}, false, false},
	} {
		if bits, chips := x.f.Right(g, raw.Bits), x.f.Right(g, raw.Chips); bits != x.bits || chips != x.chips {
			t.Errorf("%+v: %v and %v, not %v and %v", x.f, bits, chips, x.bits, x.chips)
		}
	}
}

func TestWrongKinds(t *testing.T) {
	for _, g := range geoms() {
		for _, s := range shapes() {
			for _, kind := range wrongKinds() {
				for _, f := range append(rightFaults(g, s), Fault{}) {
					f.Kind = kind
					if f.Right(g, s.mode) {
						t.Errorf("%+v is right for %+v and the mode %d", f, g, s.mode)
					}
				}
			}
		}
	}
}

func TestWrongPlaces(t *testing.T) {
	for _, g := range geoms() {
		for _, s := range shapes() {
			for _, f := range rightFaults(g, s) {
				for _, p := range wrongPlaces(g, f.Place) {
					wrong := f
					wrong.Place = p
					if wrong.Right(g, s.mode) {
						t.Errorf("%+v is right for %+v and the mode %d", wrong, g, s.mode)
					}
				}
			}
		}
	}
}

// wrongPlaces are a place with one part as the geometry hasn't it.
func wrongPlaces(g geom.Geom, p geom.Place) (l []geom.Place) {
	for _, n := range outside(g.Ranks + g.Spares) {
		l = append(l, at(n, p.Bank, p.Row, p.Col))
	}
	for _, n := range outside(g.Banks) {
		l = append(l, at(p.Rank, n, p.Row, p.Col))
	}
	for _, n := range outside(g.Rows) {
		l = append(l, at(p.Rank, p.Bank, n, p.Col))
	}
	for _, n := range outside(g.Cols) {
		l = append(l, at(p.Rank, p.Bank, p.Row, n))
	}
	return l
}

func TestWrongNumbers(t *testing.T) {
	for _, g := range geoms() {
		for _, s := range shapes() {
			for _, f := range rightFaults(g, s) {
				for _, wrong := range wrongNumbers(f, s) {
					if wrong.Right(g, s.mode) {
						t.Errorf("%+v is right for %+v and the mode %d", wrong, g, s.mode)
					}
				}
			}
		}
	}
}

// wrongNumbers are a right fault with a chip, a bit or a value as it can't have it.
func wrongNumbers(f Fault, s shape) (l []Fault) {
	chips, bits := 1, 1
	if hasChip(f.Kind) {
		chips = s.chips
	}
	if hasBit(f.Kind) {
		bits = 576
	}
	for _, n := range outside(chips) {
		l = append(l, Fault{f.Kind, f.Place, n, f.Bit, f.Value})
	}
	for _, n := range outside(bits) {
		l = append(l, Fault{f.Kind, f.Place, f.Chip, n, f.Value})
	}
	for _, n := range outside(greatest(f.Kind) + 1) {
		l = append(l, Fault{f.Kind, f.Place, f.Chip, f.Bit, n})
	}
	return l
}

// What a kind hasn't is set to what another kind could have: a place that the geometry holds, a chip of the mode, a bit, a value.
func TestWhatTheKindHasNot(t *testing.T) {
	g := geom.Geom{Ranks: 2, Spares: 1, Banks: 2, Rows: 4, Cols: 8}
	whole := at(2, 1, 3, 7)
	for _, s := range shapes() {
		for _, kind := range kinds() {
			f := Fault{Kind: kind, Place: namedBy(kind, whole)}
			var wrong []Fault
			if f.Place != whole {
				for _, p := range []geom.Place{whole, at(2, 1, 0, 0), at(2, 0, 3, 0), at(2, 0, 0, 7), at(0, 0, 0, 1), at(0, 0, 1, 0), at(0, 1, 0, 0), at(1, 0, 0, 0)} {
					if p != namedBy(kind, p) {
						wrong = append(wrong, Fault{Kind: kind, Place: p})
					}
				}
			}
			if !hasChip(kind) {
				wrong = append(wrong, Fault{kind, f.Place, 1, 0, 0}, Fault{kind, f.Place, 8, 0, 0})
			}
			if !hasBit(kind) {
				wrong = append(wrong, Fault{kind, f.Place, 0, 1, 0}, Fault{kind, f.Place, 0, 575, 0})
			}
			if greatest(kind) == 0 {
				wrong = append(wrong, Fault{kind, f.Place, 0, 0, 1}, Fault{kind, f.Place, 0, 0, 255})
			}
			if !f.Right(g, s.mode) {
				t.Errorf("%+v isn't right", f)
			}
			for _, w := range wrong {
				if w.Right(g, s.mode) {
					t.Errorf("%+v is right in the mode %d", w, s.mode)
				}
			}
		}
	}
}

func TestWrongGeometries(t *testing.T) {
	for _, g := range wrongGeoms() {
		for _, s := range shapes() {
			for _, kind := range kinds() {
				if f := (Fault{Kind: kind}); f.Right(g, s.mode) {
					t.Errorf("%+v is right for %+v and the mode %d", f, g, s.mode)
				}
			}
		}
	}
}

func TestWrongModes(t *testing.T) {
	for _, g := range geoms() {
		for _, mode := range wrongModes() {
			for _, kind := range kinds() {
				for _, p := range []geom.Place{{}, last(g)} {
					if f := (Fault{Kind: kind, Place: namedBy(kind, p)}); f.Right(g, mode) {
						t.Errorf("%+v is right for %+v and the mode %d", f, g, mode)
					}
				}
			}
		}
	}
}

// What lasts and what is narrow hang on the kind alone.
func TestLastsAndNarrow(t *testing.T) {
	rest := []Fault{{}, {0, at(1, 2, 3, 4), 5, 6, 7}, {0, at(-1, math.MinInt, 0, math.MaxInt), -1, 576, math.MaxInt}}
	for _, f := range rest {
		for _, kind := range kinds() {
			f.Kind = kind
			if f.Lasts() != (kind >= 2 && kind <= 5) {
				t.Errorf("%+v: it lasts: %v", f, f.Lasts())
			}
			if f.Narrow() != (kind <= 2) {
				t.Errorf("%+v: it is narrow: %v", f, f.Narrow())
			}
		}
		for _, kind := range wrongKinds() {
			f.Kind = kind
			if f.Lasts() || f.Narrow() {
				t.Errorf("%+v: it lasts: %v, it is narrow: %v", f, f.Lasts(), f.Narrow())
			}
		}
	}
}

// slowLies tells by each part of a place whether it must be alike.
func slowLies(f Fault, p geom.Place) bool {
	q := f.Place
	switch f.Kind {
	case 1, 2:
		return q.Rank == p.Rank && q.Bank == p.Bank && q.Row == p.Row && q.Col == p.Col
	case 3:
		return q.Rank == p.Rank && q.Bank == p.Bank && q.Row == p.Row
	case 4:
		return q.Rank == p.Rank && q.Bank == p.Bank && q.Col == p.Col
	case 5:
		return q.Rank == p.Rank
	}
	return false
}

// Each two places that are unlike in one part or in several.
func TestLies(t *testing.T) {
	g := geom.Geom{Ranks: 2, Spares: 1, Banks: 2, Rows: 2, Cols: 4}
	for a := range g.All() {
		for b := range g.All() {
			from, _ := g.At(a)
			to, _ := g.At(b)
			for _, kind := range append(kinds(), wrongKinds()...) {
				f := Fault{Kind: kind, Place: namedBy(kind, from)}
				if f.Lies(to) != slowLies(f, to) {
					t.Fatalf("%+v lies at %+v: %v", f, to, f.Lies(to))
				}
			}
		}
	}
}

func TestLiesByHand(t *testing.T) {
	p := at(3, 5, 700, 9)
	unlike := []geom.Place{at(2, 5, 700, 9), at(3, 4, 700, 9), at(3, 5, 701, 9), at(3, 5, 700, 8), at(3, 5, 1, 1), at(3, 1, 1, 1), at(1, 5, 700, 1), at(0, 0, 0, 0)}
	for _, x := range []struct {
		kind int
		want []bool
	}{
		{1, []bool{false, false, false, false, false, false, false, false}},
		{2, []bool{false, false, false, false, false, false, false, false}},
		{3, []bool{false, false, false, true, false, false, false, false}},
		{4, []bool{false, false, true, false, false, false, false, false}},
		{5, []bool{false, true, true, true, true, true, false, false}},
	} {
		f := Fault{Kind: x.kind, Place: namedBy(x.kind, p)}
		if !f.Lies(p) {
			t.Errorf("%+v doesn't lie at %+v", f, p)
		}
		for i, q := range unlike {
			if f.Lies(q) != x.want[i] {
				t.Errorf("%+v lies at %+v: %v", f, q, f.Lies(q))
			}
		}
	}
}

// A Stray and a Drop lie nowhere, not even at their places; so does what is none.
func TestNowhere(t *testing.T) {
	for _, kind := range append(wrongKinds(), 6, 7) {
		for _, p := range []geom.Place{{}, at(1, 2, 3, 4), at(-1, -1, -1, -1), at(math.MaxInt, math.MinInt, math.MaxInt, math.MinInt)} {
			f := Fault{Kind: kind, Place: p}
			if f.Lies(p) || f.Lies(geom.Place{}) {
				t.Errorf("%+v lies somewhere", f)
			}
		}
	}
}

// At the edges of int parts are held against each other as they are.
func TestLiesAtTheEdges(t *testing.T) {
	for _, n := range edges() {
		for _, kind := range kinds() {
			f := Fault{Kind: kind, Place: at(n, n, n, n)}
			for _, p := range []geom.Place{at(n, n, n, n), at(n^1, n, n, n), at(n, n^1, n, n), at(n, n, n^1, n), at(n, n, n, n^1), at(n, n, n, 0), at(n, 0, 0, 0), {}} {
				if f.Lies(p) != slowLies(f, p) {
					t.Errorf("%+v lies at %+v: %v", f, p, f.Lies(p))
				}
			}
		}
	}
}

// P11.2

func TestApplyStuck(t *testing.T) {
	p := at(1, 2, 3, 4)
	for _, mode := range []int{1, 2} {
		for _, r := range some() {
			for bit := range 576 {
				for value := range 2 {
					f := Fault{Stuck, p, 0, bit, value}
					before := r
					if got, want := f.Apply(mode, p, r), slowForce(r, bit, value); got != want || r != before {
						t.Fatalf("%+v of %x: %x, not %x", f, r, got, want)
					}
				}
			}
		}
	}
}

func TestApplyToChips(t *testing.T) {
	p := at(1, 2, 3, 4)
	for _, s := range shapes() {
		for _, r := range some() {
			for _, kind := range []int{3, 4, 5} {
				for chip := range s.chips {
					for _, value := range []int{0, 1, 0x5A, 254, 255} {
						f := Fault{kind, namedBy(kind, p), chip, 0, value}
						before := r
						if got, want := f.Apply(s.mode, p, r), slowChip(s, r, chip, value); got != want || r != before {
							t.Fatalf("%+v of %x in the mode %d: %x, not %x", f, r, s.mode, got, want)
						}
					}
				}
			}
		}
	}
}

func TestApplyByHand(t *testing.T) {
	p := at(1, 0, 2, 3)
	first := Fault{Stuck, p, 0, 0, 1}.Apply(1, p, raw.Raw{})
	final := Fault{Stuck, p, 0, 575, 1}.Apply(2, p, raw.Raw{})
	if first != (raw.Raw{0: 1}) || final != (raw.Raw{71: 0x80}) {
		t.Errorf("%x, %x", first, final)
	}
	row := Fault{Row, at(1, 0, 2, 0), 0, 0, 0xAB}.Apply(2, p, raw.Raw{})
	col := Fault{Column, at(1, 0, 0, 3), 35, 0, 0xAB}.Apply(2, p, raw.Raw{})
	chip := Fault{Chip, at(1, 0, 0, 0), 8, 0, 0xAB}.Apply(1, p, raw.Raw{})
	if row != (raw.Raw{0: 0xAB, 36: 0xAB}) || col != (raw.Raw{35: 0xAB, 71: 0xAB}) {
		t.Errorf("%x, %x", row, col)
	}
	if chip != (raw.Raw{8: 0xAB, 17: 0xAB, 26: 0xAB, 35: 0xAB, 44: 0xAB, 53: 0xAB, 62: 0xAB, 71: 0xAB}) {
		t.Errorf("%x", chip)
	}
}

func TestExample(t *testing.T) {
	f := Fault{Row, at(0, 1, 2, 0), 4, 0, 255}
	for col := range 8 {
		got := f.Apply(raw.Bits, at(0, 1, 2, col), raw.Raw{})
		for i, x := range got {
			if (x == 0xFF) != (i%9 == 4) || (x == 0) != (i%9 != 4) {
				t.Errorf("the column %d: %x", col, got)
			}
		}
	}
}

// What doesn't lie where it is read changes nothing there.
func TestApplyElsewhere(t *testing.T) {
	p := at(1, 1, 1, 1)
	places := []geom.Place{p}
	for n := range 16 {
		places = append(places, at(n/8, n/4%2, n/2%2, n%2))
	}
	for _, s := range shapes() {
		for _, kind := range kinds() {
			f := Fault{Kind: kind, Place: namedBy(kind, p), Value: greatest(kind)}
			for _, q := range places {
				changed := f.Apply(s.mode, q, raw.Raw{}) != raw.Raw{}
				if want := slowLies(f, q) && kind >= 2 && kind <= 5; changed != want {
					t.Errorf("%+v at %+v in the mode %d: it changes: %v", f, q, s.mode, changed)
				}
			}
		}
	}
}

// What doesn't last changes nothing, wherever it lies.
func TestApplyWhatDoesNotLast(t *testing.T) {
	p := at(1, 2, 3, 4)
	for _, mode := range append(wrongModes(), 1, 2) {
		for _, kind := range append(wrongKinds(), 1, 6, 7) {
			for _, r := range some() {
				f := Fault{kind, p, 3, 9, 1}
				if got := f.Apply(mode, p, r); got != r {
					t.Errorf("%+v of %x: %x", f, r, got)
				}
			}
		}
	}
}

// A bit, a chip or a mode that is none has nothing that could be read otherwise.
func TestApplyOfNone(t *testing.T) {
	p := at(1, 2, 3, 4)
	for _, r := range some() {
		for _, s := range shapes() {
			for _, bit := range outside(576) {
				f := Fault{Stuck, p, 0, bit, 1}
				if got := f.Apply(s.mode, p, r); got != r {
					t.Errorf("%+v of %x: %x", f, r, got)
				}
			}
			for _, chip := range outside(s.chips) {
				for _, kind := range []int{3, 4, 5} {
					f := Fault{kind, namedBy(kind, p), chip, 0, 0x77}
					if got := f.Apply(s.mode, p, r); got != r {
						t.Errorf("%+v of %x: %x", f, r, got)
					}
				}
			}
		}
		for _, mode := range wrongModes() {
			for _, kind := range []int{3, 4, 5} {
				f := Fault{kind, namedBy(kind, p), 0, 0, 0x77}
				if got := f.Apply(mode, p, r); got != r {
					t.Errorf("%+v of %x in the mode %d: %x", f, r, mode, got)
				}
			}
		}
	}
}

// Bits are counted without a mode, so that a bit is stuck in each.
func TestStuckWithoutMode(t *testing.T) {
	p := at(1, 2, 3, 4)
	for _, mode := range wrongModes() {
		f := Fault{Stuck, p, 0, 10, 1}
		if got := f.Apply(mode, p, raw.Raw{}); got != (raw.Raw{1: 4}) {
			t.Errorf("the mode %d: %x", mode, got)
		}
	}
}

// Of a value that is none the lowest bit, or the lowest byte, is read.
func TestApplyOfValues(t *testing.T) {
	p := at(1, 2, 3, 4)
	for _, n := range append(edges(), 2, 3, 256, 257, 511, -1, -2, -3) {
		bit, value := (n%2+2)%2, (n%256+256)%256
		for _, r := range some() {
			if got, want := (Fault{Stuck, p, 0, 9, n}).Apply(1, p, r), slowForce(r, 9, bit); got != want {
				t.Errorf("stuck at %d: %x, not %x", n, got, want)
			}
			for _, s := range shapes() {
				f := Fault{Row, namedBy(Row, p), 2, 0, n}
				if got, want := f.Apply(s.mode, p, r), slowChip(s, r, 2, value); got != want {
					t.Errorf("a row of %d: %x, not %x", n, got, want)
				}
			}
		}
	}
}

func TestOverlayByHand(t *testing.T) {
	p := at(1, 0, 2, 3)
	row := Fault{Row, at(1, 0, 2, 0), 3, 0, 0xF0}
	col := Fault{Column, at(1, 0, 0, 3), 3, 0, 0x0F}
	chip := Fault{Chip, at(1, 0, 0, 0), 4, 0, 0x11}
	one := Fault{Stuck, p, 0, 24, 1}
	nought := Fault{Stuck, p, 0, 24, 0}
	elsewhere := Fault{Row, at(1, 0, 1, 0), 3, 0, 0x99}
	flip := Fault{Flip, p, 0, 0, 0}
	for i, x := range []struct {
		l    []Fault
		want raw.Raw
	}{
		{nil, raw.Raw{}},
		{[]Fault{}, raw.Raw{}},
		{[]Fault{row}, raw.Raw{3: 0xF0, 39: 0xF0}},
		{[]Fault{row, col}, raw.Raw{3: 0x0F, 39: 0x0F}},
		{[]Fault{col, row}, raw.Raw{3: 0xF0, 39: 0xF0}},
		{[]Fault{row, chip}, raw.Raw{3: 0xF0, 39: 0xF0, 4: 0x11, 40: 0x11}},
		{[]Fault{chip, row}, raw.Raw{3: 0xF0, 39: 0xF0, 4: 0x11, 40: 0x11}},
		{[]Fault{row, one}, raw.Raw{3: 0xF1, 39: 0xF0}},
		{[]Fault{one, row}, raw.Raw{3: 0xF0, 39: 0xF0}},
		{[]Fault{one, nought}, raw.Raw{}},
		{[]Fault{nought, one}, raw.Raw{3: 1}},
		{[]Fault{col, nought, row, one}, raw.Raw{3: 0xF1, 39: 0xF0}},
		{[]Fault{elsewhere, flip, {Kind: Stray, Place: p}, {Kind: Drop}, {}}, raw.Raw{}},
		{[]Fault{flip, row, elsewhere, chip, {Kind: Drop}, col}, raw.Raw{3: 0x0F, 39: 0x0F, 4: 0x11, 40: 0x11}},
	} {
		if got := Overlay(x.l, raw.Chips, p, raw.Raw{}); got != x.want {
			t.Errorf("%d: %x, not %x", i, got, x.want)
		}
	}
}

// slowOverlay goes through the faults by the document's table.
func slowOverlay(l []Fault, s shape, p geom.Place, r raw.Raw) raw.Raw {
	for _, f := range l {
		switch {
		case !slowLies(f, p):
		case f.Kind == 2:
			r = slowForce(r, f.Bit, f.Value)
		case hasChip(f.Kind):
			r = slowChip(s, r, f.Chip, f.Value)
		}
	}
	return r
}

func TestOverlay(t *testing.T) {
	c := chance(11)
	for range 2000 {
		for _, s := range shapes() {
			var l []Fault
			for range c.below(12) {
				l = append(l, c.fault(s))
			}
			before := slices.Clone(l)
			p, r := c.place(), some()[c.below(4)]
			if got, want := Overlay(l, s.mode, p, r), slowOverlay(l, s, p, r); got != want {
				t.Fatalf("%+v at %+v in the mode %d: %x, not %x", l, p, s.mode, got, want)
			}
			if !slices.Equal(l, before) {
				t.Fatal("what was handed in is other than it was")
			}
		}
	}
}

// Neither what is handed in nor its spare room is written to.
func TestOverlayLeavesSpareRoom(t *testing.T) {
	room := []Fault{{Row, at(0, 0, 0, 0), 1, 0, 7}, {Stuck, at(0, 0, 0, 0), 0, 3, 1}, {Kind: Chip, Value: 9}, {Kind: Drop}}
	before := slices.Clone(room)
	Overlay(room[:2], raw.Bits, geom.Place{}, counting())
	for range Lasting(room[:2]) {
	}
	if !slices.Equal(room, before) {
		t.Error(room)
	}
}

// P11.3

func TestCoversOfBits(t *testing.T) {
	for _, kind := range []int{1, 2} {
		for _, s := range shapes() {
			for bit := range 576 {
				// Another way than by dividing: the bits of a byte, chip by chip.
				chip := 0
				for i := 8; i <= bit; i += 8 {
					chip++
					if chip == s.chips {
						chip = 0
					}
				}
				if got := (Fault{Kind: kind, Bit: bit}).Covers(s.mode); got != chip {
					t.Fatalf("the kind %d, the bit %d, the mode %d: %d, not %d", kind, bit, s.mode, got, chip)
				}
			}
			for _, bit := range outside(576) {
				if got := (Fault{Kind: kind, Bit: bit}).Covers(s.mode); got != -1 {
					t.Errorf("the kind %d, the bit %d, the mode %d: %d", kind, bit, s.mode, got)
				}
			}
		}
	}
}

func TestCoversByHand(t *testing.T) {
	for _, x := range []struct{ bit, bits, chips int }{
		{0, 0, 0}, {7, 0, 0}, {8, 1, 1}, {71, 8, 8}, {72, 0, 9}, {287, 8, 35}, {288, 0, 0}, {575, 8, 35}, {576, -1, -1}, {-1, -1, -1},
	} {
		f := Fault{Kind: Stuck, Place: at(1, 2, 3, 4), Chip: 5, Bit: x.bit, Value: 1}
		if f.Covers(raw.Bits) != x.bits || f.Covers(raw.Chips) != x.chips {
			t.Errorf("%+v: %d and %d", f, f.Covers(raw.Bits), f.Covers(raw.Chips))
		}
	}
}

func TestCoversOfChips(t *testing.T) {
	for _, kind := range []int{3, 4, 5} {
		for _, s := range shapes() {
			for chip := range s.chips {
				if got := (Fault{Kind: kind, Place: at(1, 2, 3, 4), Chip: chip, Bit: 9}).Covers(s.mode); got != chip {
					t.Errorf("the kind %d, the chip %d, the mode %d: %d", kind, chip, s.mode, got)
				}
			}
			for _, chip := range outside(s.chips) {
				if got := (Fault{Kind: kind, Chip: chip}).Covers(s.mode); got != -1 {
					t.Errorf("the kind %d, the chip %d, the mode %d: %d", kind, chip, s.mode, got)
				}
			}
		}
	}
}

func TestCoversNone(t *testing.T) {
	for _, mode := range []int{1, 2} {
		for _, kind := range append(wrongKinds(), 6, 7) {
			for _, f := range []Fault{{Kind: kind}, {kind, at(1, 0, 0, 0), 3, 9, 1}} {
				if got := f.Covers(mode); got != -1 {
					t.Errorf("%+v covers %d in the mode %d", f, got, mode)
				}
			}
		}
	}
	for _, mode := range wrongModes() {
		for _, kind := range append(wrongKinds(), kinds()...) {
			for _, n := range append(edges(), 0, 1, 8, 35) {
				if got := (Fault{Kind: kind, Chip: n, Bit: n}).Covers(mode); got != -1 {
					t.Errorf("the kind %d with %d covers %d in the mode %d", kind, n, got, mode)
				}
			}
		}
	}
}

// placed is a fault with its place in a list.
type placed struct {
	at int
	f  Fault
}

// lasting takes n at most of those that last, and tells whether any more came though none was asked for.
func lasting(come func(func(int, Fault) bool), n int) (taken []placed, more bool) {
	left := false
	come(func(i int, f Fault) bool {
		if left {
			more = true
			return false
		}
		taken = append(taken, placed{i, f})
		left = len(taken) >= n
		return !left
	})
	return taken, more
}

// slowLasting are those of the kinds from 2 to 5.
func slowLasting(l []Fault) (told []placed) {
	for i := range l {
		if l[i].Kind == 2 || l[i].Kind == 3 || l[i].Kind == 4 || l[i].Kind == 5 {
			told = append(told, placed{i, l[i]})
		}
	}
	return told
}

// ofEach is a list with a fault of each kind and some of none, each with other numbers.
func ofEach() (l []Fault) {
	for i, kind := range []int{0, 1, 2, 3, 6, 4, 5, 7, 8, 5, 4, -1, 3, 2, 1} {
		l = append(l, Fault{kind, at(i, i+1, i+2, i+3), i + 4, i + 5, i + 6})
	}
	return l
}

func lists() [][]Fault {
	return [][]Fault{
		nil,
		{},
		{{Kind: 1}, {Kind: 6}, {Kind: 7}, {}, {Kind: 8}},
		{{Kind: 2}, {Kind: 3}, {Kind: 4}, {Kind: 5}},
		{{Kind: 5, Chip: 3}, {Kind: 5, Chip: 3}},
		{{Kind: math.MaxInt}, {Kind: math.MinInt}, {Kind: 5}},
		ofEach(),
	}
}

func TestLasting(t *testing.T) {
	for _, l := range lists() {
		want := slowLasting(l)
		if got, _ := lasting(Lasting(l), math.MaxInt); !slices.Equal(got, want) {
			t.Errorf("of %+v: %+v, not %+v", l, got, want)
		}
		if !slices.Equal(slowLasting(l), want) {
			t.Error("what was handed in is other than it was")
		}
	}
	if got, _ := lasting(Lasting(ofEach()), math.MaxInt); len(got) != 8 || got[0].at != 2 || got[7].at != 13 || got[7].f != ofEach()[13] {
		t.Error(got)
	}
}

// Left before its end it tells no more, and asked for again it begins anew.
func TestLastingAsFarAsAsked(t *testing.T) {
	for _, l := range lists() {
		want := slowLasting(l)
		come := Lasting(l)
		for n := 1; n <= len(want); n++ {
			if got, more := lasting(come, n); !slices.Equal(got, want[:n]) || more {
				t.Errorf("%d of %+v: %+v, more: %v", n, l, got, more)
			}
		}
		for range 2 {
			if got, _ := lasting(come, math.MaxInt); !slices.Equal(got, want) {
				t.Errorf("again of %+v: %+v", l, got)
			}
		}
	}
}

// One within another, both tell all.
func TestLastingWithinItself(t *testing.T) {
	come, count := Lasting(ofEach()), 0
	for i := range come {
		for k := range come {
			count += 100*i + k
		}
	}
	sum := 2 + 3 + 5 + 6 + 9 + 10 + 12 + 13
	if want := 8 * 101 * sum; count != want {
		t.Errorf("%d, not %d", count, want)
	}
}

// A change to what was handed in, or told, changes nothing of what is told behind it.
func TestLastingKeepsNothing(t *testing.T) {
	l := ofEach()
	want := slowLasting(l)
	come := Lasting(l)
	for i := range l {
		l[i] = Fault{Kind: Drop}
	}
	got, _ := lasting(come, math.MaxInt)
	if !slices.Equal(got, want) {
		t.Errorf("%+v, not %+v", got, want)
	}
	l = ofEach()
	for i, f := range Lasting(l) {
		f.Kind, f.Chip = Drop, i
	}
	if !slices.Equal(l, ofEach()) {
		t.Errorf("%+v", l)
	}
}

// A list as long as a machine may have faults, all of which last.
func TestLastingOfAll(t *testing.T) {
	l := make([]Fault, api.MaxFaults)
	for i := range l {
		l[i] = Fault{Kind: 2 + i%4, Bit: i}
	}
	next := 0
	for i, f := range Lasting(l) {
		if i != next || f != l[i] {
			t.Fatalf("%d: %+v", i, f)
		}
		next++
	}
	if next != api.MaxFaults {
		t.Error(next)
	}
}

// P1

func FuzzFault(f *testing.F) {
	f.Add(1, 0, 0, 0, 0, 0, 0, 0, 1)
	f.Add(2, 1, 1, 1, 1, 0, 575, 1, 2)
	f.Add(3, 1, 1, 1, 0, 35, 0, 255, 2)
	f.Add(5, math.MinInt, math.MaxInt, 0, -1, math.MinInt, math.MaxInt, math.MinInt, math.MaxInt)
	f.Fuzz(func(t *testing.T, kind, rank, bank, row, col, chip, bit, value, mode int) {
		x := Fault{kind, at(rank, bank, row, col), chip, bit, value}
		g := geom.Geom{Ranks: 2, Spares: 1, Banks: 2, Rows: 4, Cols: 8}
		if x.Right(g, mode) && (mode != 1 && mode != 2 || kind < 1 || kind > 7 || !g.Holds(x.Place)) {
			t.Errorf("%+v is right in the mode %d", x, mode)
		}
		x.Right(geom.Geom{Ranks: rank, Spares: bank, Banks: row, Rows: col, Cols: chip}, mode)
		for _, p := range []geom.Place{x.Place, namedBy(kind, x.Place), {}} {
			if x.Lies(p) != slowLies(x, p) {
				t.Errorf("%+v lies at %+v: %v", x, p, x.Lies(p))
			}
			if r := counting(); x.Apply(mode, p, r) != Overlay([]Fault{x, x}, mode, p, r) {
				t.Errorf("%+v twice is other than once", x)
			}
		}
		if got := x.Covers(mode); got < -1 || got >= raw.CountChips(mode) && got != -1 {
			t.Errorf("%+v covers %d in the mode %d", x, got, mode)
		}
		if got, _ := lasting(Lasting([]Fault{{}, x}), 2); len(got) != 0 != x.Lasts() {
			t.Errorf("%+v: %+v", x, got)
		}
	})
}
