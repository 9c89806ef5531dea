package inter

import (
	"math"
	"math/bits"
	"slices"
	"testing"

	"cuirass/api"
	"cuirass/geom"
)

// edges are the numbers at the ends of int, and such by which sums, products and shifts wrap round to small ones.
func edges() []int {
	numbers := []int{math.MinInt, math.MinInt + 1, math.MinInt + 2, math.MinInt + 3, math.MinInt + 64, -math.MaxInt, math.MaxInt, math.MaxInt - 1, math.MaxInt - 3, math.MaxInt - 63, 3 << (bits.UintSize - 6), 3<<(bits.UintSize-6) + 1, 5 << (bits.UintSize - 7)}
	for shift := 18; shift < bits.UintSize-1; shift++ {
		numbers = append(numbers, 1<<shift, 1<<shift+1, 1<<shift+2, 1<<shift-1, -1<<shift, 1-1<<shift, 2-1<<shift)
	}
	return numbers
}

// wrongWays are no ways: those next to the right ones, and such whose lowest bits are those of a right one.
func wrongWays() []int {
	return append(edges(), -1, -2, -3, -4, -5, -8, -256, 4, 5, 6, 7, 8, 16, 64, 255, 256, 257, 65536, 65539)
}

// of is a geometry by its five numbers, listOf several.
func of(ranks, spares, banks, rows, cols int) geom.Geom {
	return geom.Geom{Ranks: ranks, Spares: spares, Banks: banks, Rows: rows, Cols: cols}
}

func listOf(lists ...[5]int) (told []geom.Geom) {
	for _, n := range lists {
		told = append(told, of(n[0], n[1], n[2], n[3], n[4]))
	}
	return told
}

// allRight are all geometries that are right.
func allRight() (told []geom.Geom) {
	for ranks := 1; ranks <= 8; ranks *= 2 {
		for spares := 0; ranks+spares <= 8; spares++ {
			for banks := 1; banks <= 16; banks *= 2 {
				for rows := 1; rows <= 1024; rows *= 2 {
					for cols := 1; cols <= 64; cols *= 2 {
						if (ranks+spares)*banks*rows*cols <= 4096 {
							told = append(told, of(ranks, spares, banks, rows, cols))
						}
					}
				}
			}
		}
	}
	return told
}

// someRight are the least geometry, some of the greatest ones, and some between: with spares and without, with more rows than banks, fewer, and as many.
func someRight() []geom.Geom {
	return listOf([][5]int{
		{1, 0, 1, 1, 1}, {1, 1, 2, 2, 2}, {2, 0, 2, 4, 2}, {2, 1, 2, 4, 2}, {1, 7, 1, 1, 1}, {2, 3, 8, 2, 4}, {4, 3, 1, 2, 64}, {4, 0, 4, 4, 1},
		{8, 0, 16, 8, 4}, {4, 4, 16, 2, 16}, {1, 0, 1, 1024, 4}, {1, 3, 1, 1024, 1}, {2, 6, 16, 1, 32}, {1, 0, 4, 1024, 1}, {2, 2, 16, 16, 4}, {1, 4, 16, 32, 1}, {8, 0, 1, 8, 64},
	}...)
}

// wrong are geometries that miss one condition each, and some that miss several.
func wrong() []geom.Geom {
	told := listOf([][5]int{
		{}, {0, 1, 1, 1, 1}, {3, 0, 1, 1, 1}, {6, 0, 1, 1, 1}, {9, 0, 1, 1, 1}, {16, 0, 1, 1, 1}, {-1, 0, 1, 1, 1}, {-8, 0, 1, 1, 1}, {16, -8, 1, 1, 1},
		{1, -1, 1, 1, 1}, {8, -4, 1, 1, 1}, {1, 8, 1, 1, 1}, {2, 7, 1, 1, 1}, {4, 5, 1, 1, 1}, {8, 1, 1, 1, 1},
		{1, 0, 0, 1, 1}, {1, 0, -2, 1, 1}, {1, 0, 3, 1, 1}, {1, 0, 12, 1, 1}, {1, 0, 17, 1, 1}, {1, 0, 32, 1, 1},
		{1, 0, 1, 0, 1}, {1, 0, 1, -4, 1}, {1, 0, 1, 3, 1}, {1, 0, 1, 1000, 1}, {1, 0, 1, 1025, 1}, {1, 0, 1, 2048, 1},
		{1, 0, 1, 1, 0}, {1, 0, 1, 1, -8}, {1, 0, 1, 1, 3}, {1, 0, 1, 1, 63}, {1, 0, 1, 1, 65}, {1, 0, 1, 1, 128},
		{1, 0, -1, -1, 1}, {1, 0, 1, -2, -2}, {-1, 0, -1, 1, 1}, {2, 0, 0, 0, 2}, {0, 0, 2, 4, 2},
		{1, 0, 16, 8, 64}, {8, 0, 16, 8, 8}, {8, 0, 1, 1024, 1}, {4, 1, 1, 1024, 1}, {1, 1, 1, 64, 64}, {4, 4, 16, 1024, 64}, {1, 0, 16, 1024, 64},
	}...)
	for _, n := range edges() {
		told = append(told, of(n, 0, 1, 1, 1), of(1, n, 1, 1, 1), of(1, 0, n, 1, 1), of(1, 0, 1, n, 1), of(1, 0, 1, 1, n))
		told = append(told, of(n, n, n, n, n), of(n, -n, 1, 1, 1), of(8-n, n, 1, 1, 1))
	}
	return told
}

// numberOf is the number that layer 7 gives a page.
func numberOf(rank, bank, row int) int {
	return (rank*1048576 + bank*65536 + row*64) / 64
}

// slowMix goes through the bits that a bank has one by one.
func slowMix(banks, bank, row int) int {
	for i := 0; 1<<i < banks; i++ {
		if row>>i%2 == 1 {
			if bank>>i%2 == 1 {
				bank -= 1 << i
			} else {
				bank += 1 << i
			}
		}
	}
	return bank
}

// laid are the numbers of the pages that the system's are laid to, in the order of the system's: loops count, the innermost of which changes first.
func laid(g geom.Geom, way int) (told []int) {
	switch way {
	case 0:
		for rank := range g.Ranks {
			for bank := range g.Banks {
				for row := range g.Rows {
					told = append(told, numberOf(rank, bank, row))
				}
			}
		}
	case 1:
		for rank := range g.Ranks {
			for row := range g.Rows {
				for bank := range g.Banks {
					told = append(told, numberOf(rank, bank, row))
				}
			}
		}
	case 2:
		for row := range g.Rows {
			for bank := range g.Banks {
				for rank := range g.Ranks {
					told = append(told, numberOf(rank, bank, row))
				}
			}
		}
	case 3:
		for row := range g.Rows {
			for bank := range g.Banks {
				for rank := range g.Ranks {
					told = append(told, numberOf(rank, slowMix(g.Banks, bank, row), row))
				}
			}
		}
	}
	return told
}

// checkLaid looks whether a page is laid to a number, and that number's page is this one.
func checkLaid(t *testing.T, g geom.Geom, way, page, physical int) {
	t.Helper()
	if got, e := Page(g, way, page); got != physical || e != api.OK {
		t.Fatalf("%v, the way %d: Page(%d) = %d, %d, not %d", g, way, page, got, e, physical)
	}
	if got, e := Back(g, way, physical); got != page || e != api.OK {
		t.Fatalf("%v, the way %d: Back(%d) = %d, %d, not %d", g, way, physical, got, e, page)
	}
}

// checkNoPage, checkNoBack and checkNoLine look for ErrRange, and noughts beside it.
func checkNoPage(t *testing.T, g geom.Geom, way, page int) {
	t.Helper()
	if got, e := Page(g, way, page); got != 0 || e != api.ErrRange {
		t.Fatalf("%v, the way %d: Page(%d) = %d, %d", g, way, page, got, e)
	}
}

func checkNoBack(t *testing.T, g geom.Geom, way, physical int) {
	t.Helper()
	if got, e := Back(g, way, physical); got != 0 || e != api.ErrRange {
		t.Fatalf("%v, the way %d: Back(%d) = %d, %d", g, way, physical, got, e)
	}
}

func checkNoLine(t *testing.T, g geom.Geom, way, line int) {
	t.Helper()
	if page, col, e := Line(g, way, line); page != 0 || col != 0 || e != api.ErrRange {
		t.Fatalf("%v, the way %d: Line(%d) = %d, %d, %d", g, way, line, page, col, e)
	}
}

// checkNothing looks whether all calls refuse a geometry and a way that aren't right, at numbers that others have and at such that none has.
func checkNothing(t *testing.T, g geom.Geom, way int) {
	t.Helper()
	if Right(g, way) {
		t.Fatalf("%v, the way %d is right", g, way)
	}
	for _, n := range []int{0, 1, 2, 7, 63, 1024, 4095, 1 << 14, 1<<17 - 1, 1 << 17, -1, math.MinInt, math.MaxInt} {
		checkNoPage(t, g, way, n)
		checkNoBack(t, g, way, n)
		checkNoLine(t, g, way, n)
	}
}

// P8.1

func TestRight(t *testing.T) {
	for _, g := range allRight() {
		for way := range 4 {
			if !Right(g, way) {
				t.Fatalf("%v, %d", g, way)
			}
		}
		for _, way := range []int{-1, -4, 4, 5, math.MinInt, math.MaxInt} {
			if Right(g, way) {
				t.Fatalf("%v, %d", g, way)
			}
		}
	}
}

func TestWrongWays(t *testing.T) {
	for _, g := range someRight() {
		for _, way := range wrongWays() {
			checkNothing(t, g, way)
		}
	}
}

func TestWrongGeometries(t *testing.T) {
	for _, g := range wrong() {
		for _, way := range []int{0, 1, 2, 3, -1, 4, math.MinInt, math.MaxInt} {
			checkNothing(t, g, way)
		}
		if Lines(g) != 0 {
			t.Errorf("%v: %d lines", g, Lines(g))
		}
	}
}

func TestExample(t *testing.T) {
	g := of(2, 0, 2, 4, 1)
	checkLaid(t, g, 1, 3, 1<<10|1)
	physical, _ := Page(g, 1, 3)
	if p, e := g.At(physical * 64); p != (geom.Place{Rank: 0, Bank: 1, Row: 1}) || e != api.OK {
		t.Error(p, e)
	}
}

// byHand are pages with the rank, the bank and the row that they are laid to.
type byHand struct {
	g                     geom.Geom
	way                   int
	page, rank, bank, row int
}

func checkByHand(t *testing.T, cases []byHand) {
	t.Helper()
	for _, x := range cases {
		checkLaid(t, x.g, x.way, x.page, x.rank<<14|x.bank<<10|x.row)
	}
}

func TestPageByHand(t *testing.T) {
	g := of(4, 1, 8, 16, 2)
	checkByHand(t, []byHand{
		{g, 0, 0, 0, 0, 0}, {g, 0, 1, 0, 0, 1}, {g, 0, 15, 0, 0, 15}, {g, 0, 16, 0, 1, 0}, {g, 0, 127, 0, 7, 15}, {g, 0, 128, 1, 0, 0}, {g, 0, 300, 2, 2, 12}, {g, 0, 511, 3, 7, 15},
		{g, 1, 0, 0, 0, 0}, {g, 1, 1, 0, 1, 0}, {g, 1, 7, 0, 7, 0}, {g, 1, 8, 0, 0, 1}, {g, 1, 127, 0, 7, 15}, {g, 1, 128, 1, 0, 0}, {g, 1, 300, 2, 4, 5}, {g, 1, 511, 3, 7, 15},
		{g, 2, 0, 0, 0, 0}, {g, 2, 1, 1, 0, 0}, {g, 2, 3, 3, 0, 0}, {g, 2, 4, 0, 1, 0}, {g, 2, 31, 3, 7, 0}, {g, 2, 32, 0, 0, 1}, {g, 2, 300, 0, 3, 9}, {g, 2, 511, 3, 7, 15},
		{g, 3, 0, 0, 0, 0}, {g, 3, 1, 1, 0, 0}, {g, 3, 4, 0, 1, 0}, {g, 3, 31, 3, 7, 0}, {g, 3, 32, 0, 1, 1}, {g, 3, 36, 0, 0, 1}, {g, 3, 300, 0, 2, 9}, {g, 3, 511, 3, 0, 15},
	})
}

// More rows than banks (only the lowest bits of the row are mixed in), fewer (all of them are), as many, and one bank alone (none is).
func TestMixedBanksByHand(t *testing.T) {
	more := of(1, 0, 2, 4, 1)
	fewer := of(1, 0, 4, 2, 1)
	same := of(1, 0, 4, 4, 1)
	one := of(2, 2, 1, 2, 1)
	checkByHand(t, []byHand{
		{more, 3, 0, 0, 0, 0}, {more, 3, 1, 0, 1, 0}, {more, 3, 2, 0, 1, 1}, {more, 3, 3, 0, 0, 1}, {more, 3, 4, 0, 0, 2}, {more, 3, 5, 0, 1, 2}, {more, 3, 6, 0, 1, 3}, {more, 3, 7, 0, 0, 3},
		{fewer, 3, 0, 0, 0, 0}, {fewer, 3, 1, 0, 1, 0}, {fewer, 3, 2, 0, 2, 0}, {fewer, 3, 3, 0, 3, 0}, {fewer, 3, 4, 0, 1, 1}, {fewer, 3, 5, 0, 0, 1}, {fewer, 3, 6, 0, 3, 1}, {fewer, 3, 7, 0, 2, 1},
		{same, 3, 3, 0, 3, 0}, {same, 3, 4, 0, 1, 1}, {same, 3, 7, 0, 2, 1}, {same, 3, 8, 0, 2, 2}, {same, 3, 9, 0, 3, 2}, {same, 3, 12, 0, 3, 3}, {same, 3, 13, 0, 2, 3}, {same, 3, 14, 0, 1, 3}, {same, 3, 15, 0, 0, 3},
		{one, 3, 0, 0, 0, 0}, {one, 3, 1, 1, 0, 0}, {one, 3, 2, 0, 0, 1}, {one, 3, 3, 1, 0, 1},
	})
}

// Each page of the system of each right geometry in each way, and those just outside; the pages of the spares are none of the system's.
func TestPageAndBackOfAll(t *testing.T) {
	for _, g := range allRight() {
		for way := range 4 {
			all := laid(g, way)
			for page, physical := range all {
				checkLaid(t, g, way, page, physical)
			}
			for _, page := range []int{-1, -2, -len(all), len(all), len(all) + 1, 2 * len(all), 8 * 16 * 1024, (g.Ranks + g.Spares) * g.Banks * g.Rows} {
				checkNoPage(t, g, way, page)
			}
		}
	}
}

func TestPageAtTheEdgesOfInt(t *testing.T) {
	for _, g := range someRight() {
		for way := range 4 {
			for _, page := range edges() {
				checkNoPage(t, g, way, page)
			}
		}
	}
}

// Each number that may be a page's, and some on both sides: just those that pages are laid to lead back. The others are of a row, a bank or a rank too great, or of a spare.
func TestBackOfAllNumbers(t *testing.T) {
	for _, g := range someRight() {
		for way := range 4 {
			pages := map[int]int{}
			for page, physical := range laid(g, way) {
				pages[physical] = page
			}
			for physical := -2000; physical < 1<<17+1<<14; physical++ {
				want, there := pages[physical]
				if !there {
					checkNoBack(t, g, way, physical)
					continue
				}
				checkLaid(t, g, way, want, physical)
			}
		}
	}
}

// Of all geometries: all pages of the spares, numbers just behind the rows, the banks and the ranks, and past all.
func TestBackOfNoPage(t *testing.T) {
	for _, g := range allRight() {
		last := numberOf(g.Ranks-1, g.Banks-1, g.Rows-1)
		outside := []int{-1, -1024, -1 << 14, last - 1<<17, last + 1<<17, 1 << 17, numberOf(g.Ranks, 0, 0), numberOf(g.Ranks, g.Banks-1, g.Rows-1), numberOf(g.Ranks+g.Spares, 0, 0)}
		for spare := g.Ranks; spare < g.Ranks+g.Spares; spare++ {
			for index := range g.Rank(spare) {
				if index%64 == 0 {
					outside = append(outside, index/64)
				}
			}
		}
		if g.Rows < 1024 {
			outside = append(outside, numberOf(0, 0, g.Rows), last+1)
		}
		if g.Banks < 16 {
			outside = append(outside, numberOf(0, g.Banks, 0), last+1024)
		}
		for way := range 4 {
			for _, physical := range outside {
				checkNoBack(t, g, way, physical)
			}
		}
	}
}

// Some of these have indices that wrap round to those of places.
func TestBackAtTheEdgesOfInt(t *testing.T) {
	for _, g := range someRight() {
		for way := range 4 {
			for _, physical := range edges() {
				checkNoBack(t, g, way, physical)
			}
			for _, physical := range laid(g, way) {
				for shift := bits.UintSize - 6; shift < bits.UintSize; shift++ {
					checkNoBack(t, g, way, physical|1<<shift)
				}
			}
		}
	}
}

func TestLinesByHand(t *testing.T) {
	for i, x := range []struct {
		g    geom.Geom
		want int
	}{
		{of(1, 0, 1, 1, 1), 1}, {of(1, 7, 1, 1, 1), 1}, {of(2, 0, 2, 4, 8), 128},
		{of(2, 6, 2, 4, 8), 128}, {of(8, 0, 16, 8, 4), 4096}, {of(4, 4, 1, 8, 64), 2048},
		{of(1, 0, 1, 1024, 4), 4096}, {geom.Geom{}, 0}, {of(3, 0, 2, 4, 8), 0}, {of(8, 0, 16, 8, 8), 0}, {of(1, 0, 1, 1, 3), 0},
	} {
		if got := Lines(x.g); got != x.want {
			t.Errorf("%d: %d, not %d", i, got, x.want)
		}
	}
}

// Counted from the indices of all ranks without the spares.
func TestLines(t *testing.T) {
	for _, g := range allRight() {
		count := 0
		for rank := range g.Ranks {
			for range g.Rank(rank) {
				count++
			}
		}
		if got := Lines(g); got != count {
			t.Fatalf("%v: %d lines, not %d", g, got, count)
		}
	}
}

// P8.2

func TestLineByHand(t *testing.T) {
	g := of(2, 1, 2, 4, 8)
	for way := range 4 {
		for _, x := range []struct{ line, page, col int }{{0, 0, 0}, {1, 0, 1}, {7, 0, 7}, {8, 1, 0}, {9, 1, 1}, {63, 7, 7}, {64, 8, 0}, {100, 12, 4}, {126, 15, 6}, {127, 15, 7}} {
			if page, col, e := Line(g, way, x.line); page != x.page || col != x.col || e != api.OK {
				t.Errorf("the way %d: Line(%d) = %d, %d, %d", way, x.line, page, col, e)
			}
		}
		for _, line := range []int{-1, 128, 129, 191, 192, 1024} {
			checkNoLine(t, g, way, line)
		}
	}
}

// Each line of each right geometry: columns are counted page by page, in each way alike.
func TestLineOfAll(t *testing.T) {
	for _, g := range allRight() {
		for way := range 4 {
			line := 0
			for page := range g.Ranks * g.Banks * g.Rows {
				for col := range g.Cols {
					if gotPage, gotCol, e := Line(g, way, line); gotPage != page || gotCol != col || e != api.OK {
						t.Fatalf("%v, the way %d: Line(%d) = %d, %d, %d, not %d, %d", g, way, line, gotPage, gotCol, e, page, col)
					}
					line++
				}
			}
			for _, none := range []int{-1, -2, -g.Cols, -line, line, line + 1, line + g.Cols, 2 * line, 1 << 23} {
				checkNoLine(t, g, way, none)
			}
		}
	}
}

func TestLineAtTheEdgesOfInt(t *testing.T) {
	for _, g := range someRight() {
		for way := range 4 {
			for _, line := range edges() {
				checkNoLine(t, g, way, line)
			}
		}
	}
}

// P8.3

// Pages and lines go to unlike ones, and no page of a rank is left out; held against layer 7's own pages, apart from the way's words.
func TestEachPageHasJustOne(t *testing.T) {
	for _, g := range allRight() {
		var want []int
		for index := range g.All() {
			if index < g.Ranks<<20 && index%64 == 0 {
				want = append(want, index/64)
			}
		}
		for way := range 4 {
			var to, back []int
			for page := range g.Pages() {
				physical, e := Page(g, way, page)
				if e != api.OK {
					t.Fatalf("%v, the way %d: Page(%d): %d", g, way, page, e)
				}
				to = append(to, physical)
			}
			for _, physical := range want {
				page, e := Back(g, way, physical)
				if e != api.OK || to[page] != physical {
					t.Fatalf("%v, the way %d: Back(%d) = %d, %d", g, way, physical, page, e)
				}
				back = append(back, page)
			}
			slices.Sort(to)
			slices.Sort(back)
			if !slices.Equal(to, want) || len(slices.Compact(back)) != g.Pages() {
				t.Fatalf("%v, the way %d: %v, not %v; back %v", g, way, to, want, back)
			}
		}
	}
}

// So the system's lines meet each place of the ranks just once.
func TestLinesMeetAllPlaces(t *testing.T) {
	for _, g := range someRight() {
		for way := range 4 {
			var met, want []int
			for line := range Lines(g) {
				page, col, _ := Line(g, way, line)
				physical, _ := Page(g, way, page)
				met = append(met, physical*64+col)
			}
			for rank := range g.Ranks {
				want = slices.AppendSeq(want, g.Rank(rank))
			}
			slices.Sort(met)
			if !slices.Equal(met, want) {
				t.Fatalf("%v, the way %d: %v, not %v", g, way, met, want)
			}
		}
	}
}

// P1: whatever the numbers, every call ends, none panics, and they agree with one another.
func FuzzInter(f *testing.F) {
	f.Add(2, 1, 2, 4, 2, 1, 3)
	f.Add(8, 0, 16, 8, 4, 3, 1023)
	f.Add(1, 3, 16, 1, 4, 2, 1<<14)
	f.Add(1, 0, 1, 1, 1, 4, 0)
	f.Add(math.MaxInt, math.MinInt, -1, 0, 3, -1, math.MinInt)
	f.Fuzz(func(t *testing.T, ranks, spares, banks, rows, cols, way, n int) {
		g := of(ranks, spares, banks, rows, cols)
		if !g.Right() && Lines(g) != 0 {
			t.Fatalf("%v: %d lines", g, Lines(g))
		}
		if !g.Right() || way < 0 || way > 3 {
			checkNothing(t, g, way)
			checkNoPage(t, g, way, n)
			checkNoBack(t, g, way, n)
			checkNoLine(t, g, way, n)
			return
		}
		all := laid(g, way)
		if !Right(g, way) || Lines(g) != len(all)*cols {
			t.Fatalf("%v, %d: %v, %d lines", g, way, Right(g, way), Lines(g))
		}
		if n < 0 || n >= len(all) {
			checkNoPage(t, g, way, n)
		} else {
			checkLaid(t, g, way, n, all[n])
		}
		if page := slices.Index(all, n); page < 0 {
			checkNoBack(t, g, way, n)
		} else {
			checkLaid(t, g, way, page, n)
		}
		if n < 0 || n >= Lines(g) {
			checkNoLine(t, g, way, n)
		} else if page, col, e := Line(g, way, n); page*cols+col != n || col < 0 || col >= cols || e != api.OK {
			t.Fatalf("%v, the way %d: Line(%d) = %d, %d, %d", g, way, n, page, col, e)
		}
	})
}
