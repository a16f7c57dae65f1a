package rate

import (
	"cmp"
	"math"
	"math/big"
	"math/rand/v2"
	"slices"
	"testing"
)

var (
	nan   = math.NaN()
	inf   = math.Inf(1)
	low   = math.Inf(-1)
	minus = math.Copysign(0, -1)
	tiny  = math.SmallestNonzeroFloat64
	most  = math.MaxFloat64
)

func above(n float64) float64 { return math.Nextafter(n, inf) }
func below(n float64) float64 { return math.Nextafter(n, low) }

// edges are the numbers that the document names and those beside them; no numbers of several forms are among them.
func edges() []float64 {
	l := []float64{
		nan, math.Copysign(nan, -1), math.Float64frombits(0x7ff0000000000001), math.Float64frombits(0xffffffffffffffff),
		inf, low, 0, minus, tiny, -tiny, most, -most,
		math.Float64frombits(0x000fffffffffffff), math.Float64frombits(0x0010000000000000),
	}
	for _, n := range []float64{0.1, 0.5, 1, 3, 7, 10, 50, 99, 100, 101, 1000, 1e7, 2e7, 2e8, 1 << 30, 1e300} {
		l = append(l, below(n), n, above(n), -n)
	}
	return l
}

// samples are the edges and many others, the same in each run: of any bits, and of a size that is met.
func samples() []float64 {
	l := edges()
	r := rand.New(rand.NewPCG(3, 4))
	for range 300 {
		l = append(l, math.Float64frombits(r.Uint64()), math.Pow(10, r.Float64()*12-3), r.Float64()*110-5)
	}
	return l
}

// reckoned is a number of 53 binary places, as a float64 has, but of any size.
func reckoned(n float64) *big.Float { return new(big.Float).SetPrec(53).SetFloat64(n) }

// floor rounds down what is not below 0; far numbers are cut at 2^40.
func floor(f *big.Float) int {
	if f.Cmp(big.NewFloat(1<<40)) > 0 {
		return 1 << 40
	}
	n, _ := f.Int64()
	return int(n)
}

func same(a, b float64) bool { return math.Float64bits(a) == math.Float64bits(b) }

// P3.1: what is no speed, what is infinite, and what stands between.
func TestCost(t *testing.T) {
	for _, c := range []struct {
		speed float64
		want  int
	}{
		{nan, 200000000}, {math.Copysign(nan, -1), 200000000}, {math.Float64frombits(0x7ff0000000000001), 200000000},
		{0, 200000000}, {minus, 200000000}, {low, 200000000}, {-tiny, 200000000}, {-1000, 200000000}, {-most, 200000000},
		{inf, 1}, {most, 1},
		{tiny, 200000000}, {math.Float64frombits(0x000fffffffffffff), 200000000}, {1e-300, 200000000}, {1e-3, 200000000},
		{1, 20000000}, {3, 6666666}, {10, 2000000}, {100, 200000}, {1000, 20000}, {10000, 2000}, {100000, 200},
		{0.5, 40000000}, {0.3, 66666666}, {2.5, 8000000}, {7, 2857142},
		{3e7, 1}, {1e9, 1}, {6666666, 3}, {6666667, 2}, {19999999, 1},
	} {
		if n := Cost(c.speed); n != c.want {
			t.Errorf("Cost(%v): %d, not %d", c.speed, n, c.want)
		}
	}
}

// P3.1: at the speeds at which the cost is at its ends, and beside them.
func TestCostEnds(t *testing.T) {
	for _, c := range []struct {
		speed               float64
		beneath, at, beyond int
	}{
		{0.1, 200000000, 200000000, 199999999},
		{1e7, 2, 2, 1},
		{2e7, 1, 1, 1},
		{1, 20000000, 20000000, 19999999},
		{1000, 20000, 20000, 19999},
		{tiny, 200000000, 200000000, 200000000},
		{most, 1, 1, 1},
	} {
		for i, want := range []int{c.beneath, c.at, c.beyond} {
			speed := []float64{below(c.speed), c.speed, above(c.speed)}[i]
			if n := Cost(speed); n != want {
				t.Errorf("Cost(%v): %d, not %d", speed, n, want)
			}
		}
	}
}

// P3.1: held against what numbers of any size tell.
func TestCostAsReckoned(t *testing.T) {
	for _, speed := range samples() {
		want := 200000000
		if speed > 0 && speed <= most {
			way := new(big.Float).SetPrec(53).Quo(reckoned(20000000), reckoned(speed))
			want = min(max(floor(way), 1), 200000000)
		} else if speed == inf {
			want = 1
		}
		if n := Cost(speed); n != want {
			t.Errorf("Cost(%v): %d, not %d", speed, n, want)
		}
	}
}

// P3.2: percentages at 0, at 100 and beside them, capacities at their ends, and what is none.
func TestLimit(t *testing.T) {
	const top = 1 << 30
	for _, c := range []struct {
		percent  float64
		capacity int
		want     int
	}{
		{50, 7, 3}, {50, 8, 4}, {10, 100, 10}, {33.4, 3, 1}, {33.3, 3, 0}, {99.9, 1000, 999}, {1, 99, 0}, {1, 100, 1},
		{nan, 7, 0}, {math.Copysign(nan, -1), 7, 0}, {nan, top, 0},
		{0, 7, 0}, {minus, 7, 0}, {0, top, 0}, {minus, top, 0}, {-tiny, 7, 0}, {-1, 7, 0}, {-100, top, 0}, {low, 7, 0},
		{tiny, 7, 0}, {tiny, top, 0}, {above(0), 1, 0},
		{below(100), 1, 0}, {below(100), 7, 6}, {below(100), 4, 3}, {below(100), top, top - 1}, {below(100), top - 1, top - 2},
		{100, 1, 1}, {100, 7, 7}, {100, top, top}, {above(100), 7, 7}, {200, 7, 7}, {most, 7, 7}, {inf, 7, 7}, {inf, top, top},
		{50, 0, 0}, {100, 0, 0}, {inf, 0, 0}, {50, -1, 0}, {-50, -7, 0}, {200, -1, 0}, {-50, 7, 0}, {100, math.MinInt, 0}, {nan, -1, 0},
		{50, 1, 0}, {99, 1, 0}, {50, 2, 1},
		{50, top, top / 2}, {50, top - 1, top/2 - 1}, {50, top + 1, top / 2}, {50, 1 << 40, top / 2}, {50, math.MaxInt, top / 2},
		{100, top - 1, top - 1}, {100, top + 1, top}, {200, 1 << 40, top}, {inf, math.MaxInt, top}, {0, math.MaxInt, 0}, {nan, math.MaxInt, 0},
	} {
		if n := Limit(c.percent, c.capacity); n != c.want {
			t.Errorf("Limit(%v, %d): %d, not %d", c.percent, c.capacity, n, c.want)
		}
	}
}

// P3.2: divided first, then times: the other order, and a share of its own, tell others of these.
func TestLimitInOrder(t *testing.T) {
	for _, c := range []struct {
		percent  float64
		capacity int
		want     int
	}{
		{29, 100, 28}, {57, 100, 56}, {58, 100, 57}, {7, 100, 7}, {14, 50, 7},
	} {
		if n := Limit(c.percent, c.capacity); n != c.want {
			t.Errorf("Limit(%v, %d): %d, not %d", c.percent, c.capacity, n, c.want)
		}
	}
}

func capacities() []int {
	l := []int{math.MinInt, -1 << 30, -7, -1, 0, 1, 2, 3, 7, 8, 9, 100, 1000, 1<<30 - 1, 1 << 30, 1<<30 + 1, 1 << 31, 1 << 40, math.MaxInt}
	r := rand.New(rand.NewPCG(5, 6))
	for range 40 {
		l = append(l, r.IntN(1<<30), r.IntN(200))
	}
	return l
}

// P3.2: held against what numbers of any size tell.
func TestLimitAsReckoned(t *testing.T) {
	for _, percent := range samples() {
		for _, capacity := range capacities() {
			want, whole := 0, min(capacity, 1<<30)
			if capacity > 0 && percent >= 100 {
				want = whole
			} else if capacity > 0 && percent > 0 {
				share := new(big.Float).SetPrec(53).Quo(reckoned(percent), reckoned(100))
				want = min(floor(share.Mul(share, reckoned(float64(whole)))), whole)
			}
			if n := Limit(percent, capacity); n != want {
				t.Errorf("Limit(%v, %d): %d, not %d", percent, capacity, n, want)
			}
		}
	}
}

// P3.3: in the order in which they stand here; those of one row are the same.
func TestCompare(t *testing.T) {
	rows := [][]float64{
		{low}, {-most}, {-2}, {below(-1)}, {-1}, {above(-1)}, {-tiny}, {minus}, {0}, {tiny}, {below(1)}, {1, 1}, {above(1)}, {2}, {1000}, {most}, {inf},
		{nan, math.Copysign(nan, -1), math.Float64frombits(0x7ff0000000000001), math.Float64frombits(0xffffffffffffffff)},
	}
	for i, row := range rows {
		for j, other := range rows {
			for _, a := range row {
				for _, b := range other {
					if n := Compare(a, b); n != cmp.Compare(i, j) {
						t.Errorf("Compare(%v, %v): %d", a, b, n)
					}
				}
			}
		}
	}
}

// rank is a number's place among all, told by its bits.
func rank(n float64) uint64 {
	bits := math.Float64bits(n)
	switch {
	case n != n:
		return math.MaxUint64
	case bits>>63 == 1:
		return ^bits
	}
	return bits | 1<<63
}

// P3.3 and P3.5: an order of all: as ranks are, and those are one.
func TestCompareIsAnOrder(t *testing.T) {
	l := samples()
	for _, a := range l {
		if Compare(a, a) != 0 {
			t.Errorf("%v is not the same as itself", a)
		}
		for _, b := range l {
			if n := Compare(a, b); n != cmp.Compare(rank(a), rank(b)) || n != -Compare(b, a) {
				t.Errorf("Compare(%v, %v): %d", a, b, n)
			}
		}
	}
}

// P3.5: what is not behind a second, that is not behind a third, is not behind the third.
func TestCompareGoesOn(t *testing.T) {
	l := edges()
	for _, a := range l {
		for _, b := range l {
			for _, c := range l {
				if Compare(a, b) <= 0 && Compare(b, c) <= 0 && Compare(a, c) > 0 {
					t.Errorf("%v, %v, %v", a, b, c)
				}
			}
		}
	}
}

// P3.4: Mean of those that are finite; to the bit, so that 0 is told from -0.
func TestMean(t *testing.T) {
	for _, c := range []struct {
		l    []float64
		want float64
		is   bool
	}{
		{nil, 0, false}, {[]float64{}, 0, false},
		{[]float64{nan}, 0, false}, {[]float64{inf}, 0, false}, {[]float64{low}, 0, false}, {[]float64{nan, inf, low, nan}, 0, false},
		{[]float64{5}, 5, true}, {[]float64{-5}, -5, true}, {[]float64{1, 2}, 1.5, true}, {[]float64{1, 2, 4, 8}, 3.75, true},
		{[]float64{1, nan, 2, inf}, 1.5, true}, {[]float64{low, 3, nan, inf, 5}, 4, true}, {[]float64{inf, low, 7}, 7, true},
		{[]float64{0}, 0, true}, {[]float64{minus}, 0, true}, {[]float64{minus, minus, nan}, 0, true}, {[]float64{0, 0, 6}, 2, true},
		{[]float64{-1, 1}, 0, true}, {[]float64{tiny}, tiny, true}, {[]float64{-tiny, 0, 0}, minus, true},
		{[]float64{most}, most, true}, {[]float64{-most}, -most, true}, {[]float64{most, nan, -most}, 0, true},
		{[]float64{0.1, 0.2, 0.3}, 0.20000000000000004, true}, {[]float64{0.3, 0.2, 0.1}, 0.19999999999999998, true},
		{[]float64{1e16, 1, -1e16}, 0, true}, {[]float64{1e16, -1e16, 3}, 1, true},
	} {
		if m, is := Mean(c.l); !same(m, c.want) || is != c.is {
			t.Errorf("Mean(%v): %v, %v, not %v, %v", c.l, m, is, c.want, c.is)
		}
	}
}

// P3.4: a sum that is not finite, though all are; once it is so, it stays so.
func TestMeanNotFinite(t *testing.T) {
	for _, l := range [][]float64{
		{most, most}, {-most, -most}, {most, most, -most, -most}, {-most, -most, most, most, 1}, {1e308, 1e308, nan}, {1, most, inf, most},
	} {
		if m, is := Mean(l); !same(m, 0) || is {
			t.Errorf("Mean(%v): %v, %v", l, m, is)
		}
	}
	for _, l := range [][]float64{{most, -most, most, -most}, {most, 1}, {most / 2, most / 2}} {
		if m, is := Mean(l); !is {
			t.Errorf("Mean(%v): %v, %v", l, m, is)
		}
	}
}

// lists are the same in each run; most have some that do not count.
func lists() [][]float64 {
	l, all := [][]float64{nil, {}}, samples()
	r := rand.New(rand.NewPCG(7, 8))
	for range 2000 {
		var one []float64
		for range r.IntN(9) {
			one = append(one, all[r.IntN(len(all))])
		}
		l = append(l, one)
	}
	for range 500 {
		var one []float64
		for range 1 + r.IntN(6) {
			one = append(one, float64(r.IntN(4)-1))
		}
		l = append(l, one)
	}
	return l
}

// P3.4: held against sums over a list from which what is not finite was taken away.
func TestMeanOfMany(t *testing.T) {
	for _, l := range lists() {
		left := slices.DeleteFunc(slices.Clone(l), func(n float64) bool { return n-n != 0 })
		sum := 0.0
		for _, n := range left {
			sum += n
		}
		want, wantIs := sum/float64(len(left)), true
		if len(left) == 0 || sum-sum != 0 {
			want, wantIs = 0, false
		}
		if m, is := Mean(l); !same(m, want) || is != wantIs {
			t.Errorf("Mean(%v): %v, %v, not %v, %v", l, m, is, want, wantIs)
		}
	}
}

// P3.4: Best is the first of the greatest.
func TestBest(t *testing.T) {
	for _, c := range []struct {
		l    []float64
		want int
	}{
		{nil, -1}, {[]float64{}, -1},
		{[]float64{0}, -1}, {[]float64{minus}, -1}, {[]float64{nan}, -1}, {[]float64{low}, -1}, {[]float64{-1}, -1}, {[]float64{-tiny}, -1},
		{[]float64{nan, 0, minus, low, -5, math.Copysign(nan, -1)}, -1},
		{[]float64{tiny}, 0}, {[]float64{inf}, 0}, {[]float64{most}, 0}, {[]float64{0, tiny}, 1},
		{[]float64{nan, 3, 7, 7, -9}, 2}, {[]float64{7, 7, 7}, 0}, {[]float64{1, 2, 3}, 2}, {[]float64{3, 2, 1}, 0}, {[]float64{2, 3, 1, 3, 2}, 1},
		{[]float64{1, nan}, 0}, {[]float64{nan, 1}, 1}, {[]float64{inf, nan, inf}, 0}, {[]float64{most, inf, inf, nan}, 1}, {[]float64{1, low}, 0},
		{[]float64{below(1), 1, above(1), 1}, 2}, {[]float64{-9, -8, 1}, 2},
	} {
		if n := Best(c.l); n != c.want {
			t.Errorf("Best(%v): %d, not %d", c.l, n, c.want)
		}
	}
}

// P3.4: what Best names counts; none that counts is greater, and none as great stands ahead of it.
func TestBestOfMany(t *testing.T) {
	for _, l := range lists() {
		best := Best(l)
		if best < -1 || best >= len(l) || best >= 0 && !(l[best] > 0) {
			t.Fatalf("Best(%v): %d", l, best)
		}
		for place, n := range l {
			if n > 0 && (best < 0 || n > l[best] || n == l[best] && place < best) {
				t.Errorf("Best(%v): %d, but %d is better", l, best, place)
			}
		}
	}
}

// P3.5: a greater speed costs no more.
func TestCostFalls(t *testing.T) {
	speeds := slices.DeleteFunc(samples(), math.IsNaN)
	slices.SortFunc(speeds, Compare)
	for i, speed := range speeds[1:] {
		if Cost(speed) > Cost(speeds[i]) {
			t.Errorf("%v costs %d, but %v %d", speeds[i], Cost(speeds[i]), speed, Cost(speed))
		}
	}
}

// P3.5: a greater percentage lets no fewer through, and none more than the capacity.
func TestLimitRises(t *testing.T) {
	percents := slices.DeleteFunc(samples(), math.IsNaN)
	slices.SortFunc(percents, Compare)
	for _, capacity := range capacities() {
		last := 0
		for _, percent := range percents {
			n := Limit(percent, capacity)
			if n < last || n > max(capacity, 0) {
				t.Errorf("Limit(%v, %d): %d behind %d", percent, capacity, n, last)
			}
			last = n
		}
	}
}

// R3: lists stay as they are, to the bit.
func TestListsStay(t *testing.T) {
	for _, l := range lists() {
		kept := slices.Clone(l)
		Mean(l)
		Best(l)
		if !slices.EqualFunc(l, kept, same) {
			t.Errorf("%v became %v", kept, l)
		}
	}
}

// P1: no list is too long for what is kept of it, and the answers hang on nothing but the list.
func TestLongLists(t *testing.T) {
	l := make([]float64, 1<<20)
	for i := range l {
		l[i] = float64(i % 1000)
	}
	for range 2 {
		if m, is := Mean(l); !is || m < 499 || m > 500 {
			t.Error(m, is)
		}
		if n := Best(l); n != 999 {
			t.Error(n)
		}
	}
}
