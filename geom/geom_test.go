package geom

import (
	"iter"
	"math"
	"math/bits"
	"slices"
	"testing"

	"cuirass/api"
)

// edges are the numbers at the ends of int, and such by which sums, products and shifts wrap round to small ones.
func edges() []int {
	numbers := []int{math.MinInt, math.MinInt + 1, math.MinInt + 2, math.MinInt + 8, -math.MaxInt, math.MaxInt, math.MaxInt - 1, math.MaxInt - 7, math.MinInt / 2, math.MinInt/2 + 1, math.MaxInt/2 + 1, math.MaxInt/2 + 2}
	for shift := 24; shift < bits.UintSize-1; shift++ {
		numbers = append(numbers, 1<<shift, 1<<shift+1, -1<<shift, 1-1<<shift)
	}
	return numbers
}

// slowRight looks each number up among those that the document lets in.
func slowRight(g Geom) bool {
	if !slices.Contains([]int{1, 2, 4, 8}, g.Ranks) ||
		!slices.Contains([]int{0, 1, 2, 3, 4, 5, 6, 7}, g.Spares) ||
		!slices.Contains([]int{1, 2, 4, 8, 16}, g.Banks) ||
		!slices.Contains([]int{1, 2, 4, 8, 16, 32, 64, 128, 256, 512, 1024}, g.Rows) ||
		!slices.Contains([]int{1, 2, 4, 8, 16, 32, 64}, g.Cols) {
		return false
	}
	return g.Ranks+g.Spares <= 8 && (g.Ranks+g.Spares)*g.Banks*g.Rows*g.Cols <= 4096
}

// allRight are all geometries that are right.
func allRight() (told []Geom) {
	for ranks := 1; ranks <= 8; ranks *= 2 {
		for spares := 0; ranks+spares <= 8; spares++ {
			for banks := 1; banks <= 16; banks *= 2 {
				for rows := 1; rows <= 1024; rows *= 2 {
					for cols := 1; cols <= 64; cols *= 2 {
						if (ranks+spares)*banks*rows*cols <= 4096 {
							told = append(told, Geom{ranks, spares, banks, rows, cols})
						}
					}
				}
			}
		}
	}
	return told
}

// someRight are the least geometry, some of the greatest ones, and some between.
func someRight() []Geom {
	return []Geom{
		{1, 0, 1, 1, 1}, {1, 1, 2, 2, 2}, {2, 0, 4, 2, 8}, {2, 1, 2, 4, 2}, {1, 7, 1, 1, 1}, {1, 2, 16, 1, 4}, {4, 3, 1, 2, 64}, {4, 0, 2, 8, 1},
		{8, 0, 16, 8, 4}, {4, 4, 1, 8, 64}, {1, 0, 1, 1024, 4}, {1, 0, 1, 64, 64}, {1, 3, 1, 1024, 1}, {2, 6, 16, 1, 32}, {1, 0, 4, 1024, 1}, {1, 4, 16, 32, 1},
	}
}

// wrong are geometries that miss one condition each, and some that miss several.
func wrong() []Geom {
	told := []Geom{
		{}, {0, 1, 1, 1, 1}, {3, 0, 1, 1, 1}, {5, 0, 1, 1, 1}, {6, 0, 1, 1, 1}, {7, 0, 1, 1, 1}, {9, 0, 1, 1, 1}, {12, 0, 1, 1, 1}, {16, 0, 1, 1, 1}, {-1, 0, 1, 1, 1}, {-2, 4, 1, 1, 1}, {-8, 0, 1, 1, 1}, {16, -8, 1, 1, 1},
		{1, -1, 1, 1, 1}, {2, -1, 1, 1, 1}, {8, -4, 1, 1, 1}, {8, -8, 1, 1, 1}, {1, 8, 1, 1, 1}, {2, 7, 1, 1, 1}, {4, 5, 1, 1, 1}, {8, 1, 1, 1, 1}, {8, 8, 1, 1, 1},
		{1, 0, 0, 1, 1}, {1, 0, -1, 1, 1}, {1, 0, -2, 1, 1}, {1, 0, 3, 1, 1}, {1, 0, 5, 1, 1}, {1, 0, 6, 1, 1}, {1, 0, 12, 1, 1}, {1, 0, 15, 1, 1}, {1, 0, 17, 1, 1}, {1, 0, 24, 1, 1}, {1, 0, 32, 1, 1}, {1, 0, 64, 1, 1},
		{1, 0, 1, 0, 1}, {1, 0, 1, -1, 1}, {1, 0, 1, -4, 1}, {1, 0, 1, 3, 1}, {1, 0, 1, 6, 1}, {1, 0, 1, 100, 1}, {1, 0, 1, 1000, 1}, {1, 0, 1, 1023, 1}, {1, 0, 1, 1025, 1}, {1, 0, 1, 1536, 1}, {1, 0, 1, 2048, 1}, {1, 0, 1, 4096, 1},
		{1, 0, 1, 1, 0}, {1, 0, 1, 1, -1}, {1, 0, 1, 1, -8}, {1, 0, 1, 1, 3}, {1, 0, 1, 1, 7}, {1, 0, 1, 1, 48}, {1, 0, 1, 1, 63}, {1, 0, 1, 1, 65}, {1, 0, 1, 1, 96}, {1, 0, 1, 1, 128}, {1, 0, 1, 1, 4096},
		{1, 0, -1, -1, 1}, {1, 0, 1, -2, -2}, {-1, 0, -1, 1, 1}, {0, 0, 0, 0, 0},
		{1, 0, 16, 8, 64}, {8, 0, 16, 8, 8}, {8, 0, 1, 1024, 1}, {4, 1, 1, 1024, 1}, {1, 1, 1, 64, 64}, {1, 4, 1, 16, 64}, {2, 3, 16, 1, 64}, {4, 4, 16, 1024, 64}, {8, 0, 16, 1024, 64}, {1, 0, 16, 1024, 64},
	}
	for _, n := range edges() {
		told = append(told, Geom{n, 0, 1, 1, 1}, Geom{1, n, 1, 1, 1}, Geom{1, 0, n, 1, 1}, Geom{1, 0, 1, n, 1}, Geom{1, 0, 1, 1, n})
		told = append(told, Geom{n, n, 1, 1, 1}, Geom{1, 0, n, n, 1}, Geom{1, 0, 1, n, n}, Geom{n, n, n, n, n}, Geom{n, -n, 1, 1, 1}, Geom{n, 1 - n, 1, 1, 1}, Geom{8 - n, n, 1, 1, 1})
	}
	return told
}

func slowIndex(rank, bank, row, col int) int {
	return rank*1048576 + bank*65536 + row*64 + col
}

// item is a place, and its index.
type item struct {
	place Place
	index int
}

// itemsOf are all places of a right geometry, ranks first, then the spares.
func itemsOf(g Geom) (told []item) {
	for rank := 0; rank < g.Ranks+g.Spares; rank++ {
		for bank := 0; bank < g.Banks; bank++ {
			for row := 0; row < g.Rows; row++ {
				for col := 0; col < g.Cols; col++ {
					told = append(told, item{Place{rank, bank, row, col}, slowIndex(rank, bank, row, col)})
				}
			}
		}
	}
	return told
}

// indicesOf are the indices of those places that are wanted.
func indicesOf(g Geom, wanted func(Place) bool) (told []int) {
	for _, x := range itemsOf(g) {
		if wanted(x.place) {
			told = append(told, x.index)
		}
	}
	return told
}

func anywhere(Place) bool { return true }

// upTo takes n of what comes, and tells whether any more came though none was asked for.
func upTo(come iter.Seq[int], n int) (taken []int, more bool) {
	left := false
	come(func(index int) bool {
		if left {
			more = true
			return false
		}
		taken = append(taken, index)
		left = len(taken) >= n
		return !left
	})
	return taken, more
}

// checkComes goes to the end, leaves behind items (each, of few; by the step, of many), and goes to the end anew.
func checkComes(t *testing.T, come iter.Seq[int], want []int) {
	t.Helper()
	if got := slices.Collect(come); !slices.Equal(got, want) {
		t.Fatalf("%v, not %v", got, want)
	}
	for n := 1; n <= len(want)+1; n += 1 + len(want)/100 {
		taken, more := upTo(come, n)
		if !slices.Equal(taken, want[:min(n, len(want))]) || more {
			t.Fatalf("asked for %d of %v: %v, more: %v", n, want, taken, more)
		}
	}
	if again := slices.Collect(come); !slices.Equal(again, want) {
		t.Fatalf("again: %v, not %v", again, want)
	}
}

// checkNone looks whether nothing comes.
func checkNone(t *testing.T, come iter.Seq[int]) {
	t.Helper()
	if come == nil {
		t.Fatal("no range at all")
	}
	for range 2 {
		come(func(index int) bool {
			t.Errorf("%d comes", index)
			return false
		})
	}
}

// P7.1

func TestRightByHand(t *testing.T) {
	for _, g := range someRight() {
		if !g.Right() {
			t.Errorf("%v", g)
		}
	}
	for _, g := range wrong() {
		if g.Right() {
			t.Errorf("%v", g)
		}
	}
}

func TestRightOfEachNumberAlone(t *testing.T) {
	for n := -70; n <= 5000; n++ {
		for i, g := range []Geom{
			{n, 0, 1, 1, 1}, {n, 1, 1, 1, 1}, {n, 4, 1, 1, 1}, {1, n, 1, 1, 1}, {2, n, 1, 1, 1}, {4, n, 2, 2, 2}, {8, n, 1, 1, 1},
			{1, 0, n, 1, 1}, {4, 4, n, 1, 1}, {1, 0, 1, n, 1}, {1, 0, 2, n, 2}, {1, 0, 1, n, 4}, {1, 0, 1, 1, n}, {1, 1, 2, 4, n}, {1, 0, 1, 64, n}, {1, 0, 1, 128, n},
		} {
			if got := g.Right(); got != slowRight(g) {
				t.Errorf("%d: %v: %v", i, g, got)
			}
		}
	}
}

func TestRightOfManyTogether(t *testing.T) {
	ranks := []int{-1, 0, 1, 2, 3, 4, 5, 6, 7, 8, 9, 16}
	spares := []int{-8, -1, 0, 1, 2, 3, 4, 5, 6, 7, 8, 9}
	banks := []int{-1, 0, 1, 2, 3, 4, 8, 12, 16, 17, 32}
	rows := []int{-1, 0, 1, 2, 3, 4, 8, 16, 32, 64, 128, 256, 512, 1024, 1025, 2048}
	cols := []int{-1, 0, 1, 2, 3, 4, 8, 16, 32, 64, 65, 128}
	count := 0
	for _, r := range ranks {
		for _, s := range spares {
			for _, b := range banks {
				for _, w := range rows {
					for _, c := range cols {
						g := Geom{r, s, b, w, c}
						if g.Right() != slowRight(g) {
							t.Fatalf("%v: %v", g, g.Right())
						}
						if g.Right() {
							count++
						}
					}
				}
			}
		}
	}
	if count != len(allRight()) {
		t.Errorf("%d are right, not %d", count, len(allRight()))
	}
}

// Just MaxLines lines in all, and with one more spare, or twice as many of something, more.
func TestRightAtTheMostLines(t *testing.T) {
	for _, g := range allRight() {
		if !g.Right() {
			t.Fatalf("%v", g)
		}
		if (g.Ranks+g.Spares)*g.Banks*g.Rows*g.Cols != api.MaxLines {
			continue
		}
		for _, more := range []Geom{
			{g.Ranks, g.Spares + 1, g.Banks, g.Rows, g.Cols}, {g.Ranks * 2, g.Spares, g.Banks, g.Rows, g.Cols}, {g.Ranks, g.Spares, g.Banks * 2, g.Rows, g.Cols},
			{g.Ranks, g.Spares, g.Banks, g.Rows * 2, g.Cols}, {g.Ranks, g.Spares, g.Banks, g.Rows, g.Cols * 2},
		} {
			if more.Right() {
				t.Fatalf("%v", more)
			}
		}
	}
}

func TestExample(t *testing.T) {
	g := Geom{2, 0, 4, 4, 8}
	if index, e := g.Index(Place{1, 2, 3, 4}); index != 1048576+131072+192+4 || e != api.OK {
		t.Error(index, e)
	}
	if p, e := g.At(1048576 + 131072 + 192 + 4); p != (Place{1, 2, 3, 4}) || e != api.OK {
		t.Error(p, e)
	}
}

func TestIndexByHand(t *testing.T) {
	for i, x := range []struct {
		g    Geom
		p    Place
		want int
	}{
		{Geom{1, 0, 1, 1, 1}, Place{}, 0},
		{Geom{8, 0, 16, 1, 1}, Place{7, 15, 0, 0}, 7<<20 | 15<<16},
		{Geom{4, 4, 1, 1, 64}, Place{7, 0, 0, 63}, 7<<20 | 63},
		{Geom{1, 0, 1, 1024, 4}, Place{0, 0, 1023, 3}, 1023<<6 | 3},
		{Geom{1, 1, 1, 1024, 1}, Place{1, 0, 1023, 0}, 1<<20 | 1023<<6},
		{Geom{1, 0, 16, 8, 8}, Place{0, 1, 0, 0}, 65536},
		{Geom{1, 0, 16, 8, 8}, Place{0, 0, 1, 0}, 64},
		{Geom{1, 0, 16, 8, 8}, Place{0, 0, 0, 1}, 1},
		{Geom{1, 0, 4, 1024, 1}, Place{0, 3, 1000, 0}, 3<<16 | 64000},
	} {
		if got, e := x.g.Index(x.p); got != x.want || e != api.OK {
			t.Errorf("%d: %d, %d", i, got, e)
		}
		if p, e := x.g.At(x.want); p != x.p || e != api.OK {
			t.Errorf("%d: %v, %d", i, p, e)
		}
	}
}

// checkPlace looks whether a place is held, or isn't, and what its index is.
func checkPlace(t *testing.T, g Geom, p Place, held bool) {
	t.Helper()
	if g.Holds(p) != held {
		t.Fatalf("%v, %v: %v", g, p, g.Holds(p))
	}
	index, e := g.Index(p)
	if held && (index != slowIndex(p.Rank, p.Bank, p.Row, p.Col) || e != api.OK) {
		t.Fatalf("%v, %v: %d, %d", g, p, index, e)
	}
	if !held && (index != 0 || e != api.ErrRange) {
		t.Fatalf("%v doesn't hold %v: %d, %d", g, p, index, e)
	}
}

// Each of the first and the last place's numbers is moved out alone, by one and by far; the last rank is a spare where there is one.
func TestHoldsAndIndexAtTheEdges(t *testing.T) {
	for _, g := range allRight() {
		first, last := Place{}, Place{g.Ranks + g.Spares - 1, g.Banks - 1, g.Rows - 1, g.Cols - 1}
		for _, p := range []Place{first, last} {
			checkPlace(t, g, p, true)
			for _, out := range []Place{
				{-1, p.Bank, p.Row, p.Col}, {p.Rank, -1, p.Row, p.Col}, {p.Rank, p.Bank, -1, p.Col}, {p.Rank, p.Bank, p.Row, -1},
				{g.Ranks + g.Spares, p.Bank, p.Row, p.Col}, {p.Rank, g.Banks, p.Row, p.Col}, {p.Rank, p.Bank, g.Rows, p.Col}, {p.Rank, p.Bank, p.Row, g.Cols},
				{p.Rank - 8, p.Bank, p.Row, p.Col}, {p.Rank, p.Bank - 16, p.Row, p.Col}, {p.Rank, p.Bank, p.Row - 1024, p.Col}, {p.Rank, p.Bank, p.Row, p.Col - 64},
				{p.Rank + 8, p.Bank, p.Row, p.Col}, {p.Rank, p.Bank + 16, p.Row, p.Col}, {p.Rank, p.Bank, p.Row + 1024, p.Col}, {p.Rank, p.Bank, p.Row, p.Col + 64},
			} {
				checkPlace(t, g, out, false)
			}
		}
	}
}

func TestHoldsAndIndexAtTheEdgesOfInt(t *testing.T) {
	for _, g := range someRight() {
		for _, n := range edges() {
			for _, p := range []Place{{n, 0, 0, 0}, {0, n, 0, 0}, {0, 0, n, 0}, {0, 0, 0, n}, {n, n, n, n}, {n, -n, 0, 0}, {0, 0, n, -n}} {
				checkPlace(t, g, p, false)
			}
		}
	}
}

// All places in and about the geometry: just those within it are held, spares as well as ranks.
func TestHoldsAndIndexAround(t *testing.T) {
	for _, g := range []Geom{{1, 0, 1, 1, 1}, {1, 1, 2, 2, 2}, {2, 3, 4, 2, 1}, {1, 0, 2, 4, 8}, {4, 4, 1, 2, 4}, {8, 0, 2, 1, 2}} {
		for rank := -2; rank <= 10; rank++ {
			for bank := -2; bank <= 6; bank++ {
				for row := -2; row <= 6; row++ {
					for col := -2; col <= 10; col++ {
						inside := rank >= 0 && bank >= 0 && row >= 0 && col >= 0 && rank < g.Ranks+g.Spares && bank < g.Banks && row < g.Rows && col < g.Cols
						checkPlace(t, g, Place{rank, bank, row, col}, inside)
					}
				}
			}
		}
	}
}

func TestIndexAndAtUndoOneAnother(t *testing.T) {
	for _, g := range allRight() {
		for _, x := range itemsOf(g) {
			index, e := g.Index(x.place)
			if index != x.index || e != api.OK || !g.Holds(x.place) {
				t.Fatalf("%v: Index(%v) = %d, %d", g, x.place, index, e)
			}
			if p, e := g.At(index); p != x.place || e != api.OK {
				t.Fatalf("%v: At(%d) = %v, %d", g, index, p, e)
			}
		}
	}
}

// checkNowhere looks for ErrRange, and noughts beside it.
func checkNowhere(t *testing.T, g Geom, index int) {
	t.Helper()
	if p, e := g.At(index); p != (Place{}) || e != api.ErrRange {
		t.Fatalf("%v: At(%d) = %v, %d", g, index, p, e)
	}
}

// All indices, and numbers on both sides of them: a place comes just for those of the places that there are.
func TestAtOfAllIndices(t *testing.T) {
	for _, g := range []Geom{{1, 0, 1, 1, 1}, {2, 1, 4, 8, 2}, {4, 4, 16, 1, 32}, {1, 0, 1, 1024, 4}, {8, 0, 1, 8, 64}} {
		places := map[int]Place{}
		for _, x := range itemsOf(g) {
			places[x.index] = x.place
		}
		count := 0
		for index := -1 << 21; index < 1<<23+1<<21; index++ {
			p, e := g.At(index)
			if e == api.ErrRange && p == (Place{}) {
				continue
			}
			want, there := places[index]
			if e != api.OK || !there || p != want {
				t.Fatalf("%v: At(%d) = %v, %d", g, index, p, e)
			}
			count++
		}
		if count != len(places) {
			t.Errorf("%v: %d places, not %d", g, count, len(places))
		}
	}
}

// Of all geometries: the indices just behind a row of columns, behind the rows, the banks and the ranks, and past all.
func TestAtBetween(t *testing.T) {
	for _, g := range allRight() {
		last := slowIndex(g.Ranks+g.Spares-1, g.Banks-1, g.Rows-1, g.Cols-1)
		checkNowhere(t, g, last+1<<23)
		checkNowhere(t, g, last-1<<23)
		checkNowhere(t, g, last|1<<23)
		for _, index := range []int{-1, -64, -1 << 16, -1 << 20, -1 << 23, 1 << 23, 1<<23 + 1, 1 << 24, (g.Ranks + g.Spares) << 20} {
			checkNowhere(t, g, index)
		}
		if g.Cols < 64 {
			checkNowhere(t, g, g.Cols)
			checkNowhere(t, g, last+1)
		}
		if g.Rows < 1024 {
			checkNowhere(t, g, g.Rows<<6)
			checkNowhere(t, g, last+64)
		}
		if g.Banks < 16 {
			checkNowhere(t, g, g.Banks<<16)
			checkNowhere(t, g, last+1<<16)
		}
	}
}

func TestAtTheEdgesOfInt(t *testing.T) {
	for _, g := range someRight() {
		for _, index := range edges() {
			checkNowhere(t, g, index)
		}
	}
}

func TestPerRankAndPagesByHand(t *testing.T) {
	for i, x := range []struct {
		g              Geom
		perRank, pages int
	}{
		{Geom{1, 0, 1, 1, 1}, 1, 1}, {Geom{1, 7, 1, 1, 1}, 1, 1}, {Geom{1, 1, 2, 2, 2}, 8, 4}, {Geom{2, 0, 2, 2, 2}, 8, 8}, {Geom{2, 6, 2, 4, 8}, 64, 16},
		{Geom{8, 0, 16, 8, 4}, 512, 1024}, {Geom{4, 4, 1, 8, 64}, 512, 32}, {Geom{1, 0, 1, 1024, 4}, 4096, 1024}, {Geom{1, 3, 1, 1024, 1}, 1024, 1024}, {Geom{4, 0, 16, 64, 1}, 1024, 4096},
	} {
		if got := [2]int{x.g.PerRank(), x.g.Pages()}; got != [2]int{x.perRank, x.pages} {
			t.Errorf("%d: %v", i, got)
		}
	}
}

// Counted from the places that are there.
func TestPerRankAndPages(t *testing.T) {
	for _, g := range allRight() {
		perRank, pages := 0, 0
		for _, x := range itemsOf(g) {
			if x.place.Rank == 0 {
				perRank++
			}
			if x.place.Rank < g.Ranks && x.place.Col == 0 {
				pages++
			}
		}
		if g.PerRank() != perRank || g.Pages() != pages {
			t.Fatalf("%v: %d, %d, not %d, %d", g, g.PerRank(), g.Pages(), perRank, pages)
		}
	}
}

// A geometry that isn't right holds nothing, has nothing, and nothing comes of it.
func TestWrongGeometries(t *testing.T) {
	for _, g := range wrong() {
		for _, p := range []Place{{}, {0, 0, 0, 1}, {1, 0, 0, 0}, {1, 2, 3, 4}, {-1, 0, 0, 0}, {math.MaxInt, math.MaxInt, math.MaxInt, math.MaxInt}} {
			checkPlace(t, g, p, false)
		}
		for _, index := range []int{0, 1, 64, 1 << 16, 1 << 20, 1<<23 - 1, 1 << 23, -1, math.MinInt, math.MaxInt} {
			checkNowhere(t, g, index)
			checkNone(t, g.Rank(index))
			checkNone(t, g.Page(index))
		}
		checkNone(t, g.All())
		if g.PerRank() != 0 || g.Pages() != 0 {
			t.Errorf("%v: %d, %d", g, g.PerRank(), g.Pages())
		}
	}
}

// P7.2

func TestAllRankAndPageByHand(t *testing.T) {
	g := Geom{1, 1, 2, 2, 2}
	checkComes(t, g.All(), []int{0, 1, 64, 65, 65536, 65537, 65600, 65601, 1048576, 1048577, 1048640, 1048641, 1114112, 1114113, 1114176, 1114177})
	checkComes(t, g.Rank(0), []int{0, 1, 64, 65, 65536, 65537, 65600, 65601})
	checkComes(t, g.Rank(1), []int{1048576, 1048577, 1048640, 1048641, 1114112, 1114113, 1114176, 1114177})
	checkComes(t, g.Page(0), []int{0, 1})
	checkComes(t, g.Page(1), []int{64, 65})
	checkComes(t, g.Page(1024), []int{65536, 65537})
	checkComes(t, g.Page(1025), []int{65600, 65601})
	checkComes(t, g.Page(16384), []int{1048576, 1048577})
	checkComes(t, g.Page(17409), []int{1114176, 1114177})
	checkComes(t, Geom{1, 0, 1, 1, 1}.All(), []int{0})
}

func TestAll(t *testing.T) {
	for _, g := range someRight() {
		checkComes(t, g.All(), indicesOf(g, anywhere))
	}
	for _, g := range allRight() {
		got := slices.Collect(g.All())
		if !slices.Equal(got, indicesOf(g, anywhere)) || !slices.IsSorted(got) {
			t.Fatalf("%v: %v", g, got)
		}
	}
}

func TestRank(t *testing.T) {
	for _, g := range someRight() {
		for r := range g.Ranks + g.Spares {
			checkComes(t, g.Rank(r), indicesOf(g, func(p Place) bool { return p.Rank == r }))
		}
		for _, r := range append(edges(), -1, -2, -8, g.Ranks+g.Spares, g.Ranks+g.Spares+1, 8, 9, 16, 256) {
			checkNone(t, g.Rank(r))
		}
	}
}

func TestPage(t *testing.T) {
	for _, g := range someRight() {
		all := itemsOf(g)
		for i := 0; i < len(all); i += g.Cols {
			var want []int
			for _, x := range all[i : i+g.Cols] {
				want = append(want, x.index)
			}
			checkComes(t, g.Page(want[0]/64), want)
		}
	}
}

// Of all numbers that may be a page's, and some on both sides, just those of pages that there are have indices.
func TestPagesThatAreNotThere(t *testing.T) {
	for _, g := range someRight() {
		count := 0
		for page := -2000; page < 1<<17+2000; page++ {
			here := page >= 0 && page>>14 < g.Ranks+g.Spares && page>>10%16 < g.Banks && page%1024 < g.Rows
			if !here {
				checkNone(t, g.Page(page))
				continue
			}
			for index := range g.Page(page) {
				if index/64 != page {
					t.Fatalf("%v: %d of the page %d", g, index, page)
				}
				count++
			}
		}
		if count != len(itemsOf(g)) {
			t.Errorf("%v: %d indices, not %d", g, count, len(itemsOf(g)))
		}
		for _, page := range edges() {
			checkNone(t, g.Page(page))
		}
		for _, page := range []int{1 << (bits.UintSize - 6), 1<<(bits.UintSize-6) + 1, -1 << (bits.UintSize - 6), 1 << (bits.UintSize - 7), 3 << (bits.UintSize - 6)} {
			checkNone(t, g.Page(page)) // their indices wrap round to small ones
		}
	}
}

// What comes is of the geometry as it was when it was asked, whatever becomes of the variable that held it.
func TestWhatComesOfAGeometryThatIsChanged(t *testing.T) {
	g := Geom{1, 1, 2, 2, 2}
	all, rank, page := g.All(), g.Rank(1), g.Page(1)
	g = Geom{8, 0, 16, 8, 4}
	checkComes(t, all, indicesOf(Geom{1, 1, 2, 2, 2}, anywhere))
	checkComes(t, rank, []int{1048576, 1048577, 1048640, 1048641, 1114112, 1114113, 1114176, 1114177})
	checkComes(t, page, []int{64, 65})
	checkComes(t, g.Page(1), []int{64, 65, 66, 67})
}

// One range within another of the same kind: neither moves the other on.
func TestRangesWithinOneAnother(t *testing.T) {
	g := Geom{1, 1, 2, 2, 2}
	for _, come := range []iter.Seq[int]{g.All(), g.Rank(1), g.Page(1025)} {
		want := slices.Collect(come)
		var outer []int
		for index := range come {
			outer = append(outer, index)
			if inner := slices.Collect(come); !slices.Equal(inner, want) {
				t.Fatalf("%v, not %v", inner, want)
			}
		}
		if !slices.Equal(outer, want) {
			t.Errorf("%v, not %v", outer, want)
		}
	}
}

// P7.3

// slowParity and slowBytes go through the 23 bits one by one.
func slowParity(index int) (odd int) {
	for i := range 23 {
		odd ^= index >> i & 1
	}
	return odd
}

func slowBytes(index int) (told [3]byte) {
	for i := range 23 {
		if index>>i&1 == 1 {
			told[i/8] |= 1 << (i % 8)
		}
	}
	return told
}

func TestParityAndBytesByHand(t *testing.T) {
	for i, x := range []struct {
		index, parity int
		bytes         [3]byte
	}{
		{0, 0, [3]byte{}},
		{7, 1, [3]byte{7, 0, 0}},
		{1048576 + 131072 + 192 + 4, 1, [3]byte{196, 0, 18}},
		{0x7f1234, 0, [3]byte{0x34, 0x12, 0x7f}},
		{1<<23 - 1, 1, [3]byte{255, 255, 127}},
		{1 << 23, 0, [3]byte{}},
		{1<<24 - 1, 1, [3]byte{255, 255, 127}},
		{1<<23 | 1, 1, [3]byte{1, 0, 0}},
		{-1, 1, [3]byte{255, 255, 127}},
		{-2, 0, [3]byte{254, 255, 127}},
		{-256, 1, [3]byte{0, 255, 127}},
		{-1 << 22, 1, [3]byte{0, 0, 64}},
		{-1 << 23, 0, [3]byte{}},
		{math.MinInt, 0, [3]byte{}},
		{math.MinInt + 3, 0, [3]byte{3, 0, 0}},
		{math.MaxInt, 1, [3]byte{255, 255, 127}},
		{math.MaxInt - 1, 0, [3]byte{254, 255, 127}},
	} {
		if Parity(x.index) != x.parity || Bytes(x.index) != x.bytes {
			t.Errorf("%d: %d: %d, %v", i, x.index, Parity(x.index), Bytes(x.index))
		}
	}
}

func TestParityAndBytesOfSingleBits(t *testing.T) {
	for i := range 23 {
		var want [3]byte
		want[i/8] = 1 << (i % 8)
		if Parity(1<<i) != 1 || Bytes(1<<i) != want {
			t.Errorf("the bit %d: %d, %v", i, Parity(1<<i), Bytes(1<<i))
		}
	}
	for i := 23; i < bits.UintSize; i++ {
		index := 1 << i
		if Parity(index) != 0 || Bytes(index) != [3]byte{} || Parity(index|5<<10|1) != 1 || Bytes(index|5<<10|1) != [3]byte{1, 20, 0} {
			t.Errorf("the bit %d: %d, %v", i, Parity(index), Bytes(index))
		}
	}
}

func TestParityAndBytes(t *testing.T) {
	for index := -1 << 16; index < 1<<23+1<<16; index++ {
		if Parity(index) != slowParity(index) || Bytes(index) != slowBytes(index) {
			t.Fatalf("%d: %d, %v", index, Parity(index), Bytes(index))
		}
	}
	seed := uint64(5)
	numbers := edges()
	for range 10000 {
		seed = seed*6364136223846793005 + 1442695040888963407
		numbers = append(numbers, int(seed>>32|seed<<32))
	}
	for _, index := range numbers {
		if Parity(index) != slowParity(index) || Bytes(index) != slowBytes(index) {
			t.Fatalf("%d: %d, %v", index, Parity(index), Bytes(index))
		}
	}
}

// P1: whatever the numbers, every call ends, none panics, and they agree with one another.
func FuzzGeom(f *testing.F) {
	f.Add(1, 1, 2, 2, 2, 65)
	f.Add(8, 0, 16, 8, 4, 1<<23-1)
	f.Add(1, 0, 1, 1, 1, 1<<23)
	f.Add(math.MaxInt, math.MinInt, -1, 0, 3, -1)
	f.Fuzz(func(t *testing.T, ranks, spares, banks, rows, cols, n int) {
		g := Geom{ranks, spares, banks, rows, cols}
		if g.Right() != slowRight(g) {
			t.Fatalf("%v: %v", g, g.Right())
		}
		all := slices.Collect(g.All())
		if g.Right() && len(all) != (ranks+spares)*g.PerRank() || !g.Right() && len(all)+g.PerRank()+g.Pages() != 0 {
			t.Fatalf("%v: %d lines, %d, %d", g, len(all), g.PerRank(), g.Pages())
		}
		p, e := g.At(n)
		if (e == api.OK) != slices.Contains(all, n) || e == api.OK && !g.Holds(p) || e != api.OK && (e != api.ErrRange || p != Place{}) {
			t.Fatalf("%v: At(%d) = %v, %d", g, n, p, e)
		}
		if index, _ := g.Index(p); e == api.OK && index != n {
			t.Fatalf("%v: Index(%v) = %d, not %d", g, p, index, n)
		}
		checkPlace(t, g, Place{n, n, n, n}, g.Right() && 0 <= n && n < min(ranks+spares, banks, rows, cols))
		for index := range g.Rank(n) {
			if index>>20 != n || !slices.Contains(all, index) {
				t.Fatalf("%v: %d of the rank %d", g, index, n)
			}
		}
		for index := range g.Page(n) {
			if index>>6 != n || !slices.Contains(all, index) {
				t.Fatalf("%v: %d of the page %d", g, index, n)
			}
		}
		if Parity(n) != slowParity(n) || Bytes(n) != slowBytes(n) {
			t.Fatalf("%d: %d, %v", n, Parity(n), Bytes(n))
		}
	})
}
