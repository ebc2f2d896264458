package tests

import (
	"math"
	"math/big"
	"slices"
	"testing"

	"loop.example/panework/impl"
)

// shared is something, and the weights by which it is shared.
type shared struct {
	total   int
	weights []int
}

// sameWeights is one weight so many times.
func sameWeights(n int, weight int) []int {
	return slices.Repeat([]int{weight}, n)
}

func together(list []int) int {
	sum := 0
	for _, n := range list {
		sum += n
	}
	return sum
}

// goodShares may all be shared: edges, all small ones of three weights, and many that are rolled.
func goodShares() []shared {
	list := []shared{
		{0, nil}, {7, nil}, {impl.ShrMax, nil}, {7, []int{}}, {0, []int{0}}, {7, []int{0}}, {7, []int{1}}, {0, []int{3, 4}},
		{impl.ShrMax, []int{impl.ShrMax}}, {impl.ShrMax, []int{0, impl.ShrMax}}, {1, []int{impl.ShrMax, impl.ShrMax}},
		{impl.ShrMax, []int{1, impl.ShrMax}}, {impl.ShrMax, []int{impl.ShrMax, 1, 0}}, {99, []int{0, 0, impl.ShrMax, 1}},
	}
	for _, total := range []int{0, 1, 99, 100, 101, impl.ShrMax - 1, impl.ShrMax} {
		for _, weight := range []int{0, 1, 3, impl.ShrMax} {
			list = append(list, shared{total, sameWeights(impl.ShrMany, weight)}, shared{total, sameWeights(impl.ShrMany-1, weight)})
		}
	}
	for i := range 5 * 5 * 5 * 14 {
		list = append(list, shared{i / 125, []int{i % 5, i / 5 % 5, i / 25 % 5}})
	}
	d := &dice{state: 4}
	for range 2000 {
		list = append(list, rolledShare(d))
	}
	return list
}

// rolledShare has a few kinds of weights, so that some are the same and some are 0.
func rolledShare(d *dice) shared {
	totals := []int{10, 40, 300, impl.ShrMax + 1}
	mosts := []int{2, 4, 60, 1000, impl.ShrMax + 1}
	s := shared{total: d.roll(totals[d.roll(len(totals))])}
	most := mosts[d.roll(len(mosts))]
	many := d.roll(12)
	if d.roll(10) == 0 {
		many = d.roll(impl.ShrMany + 1)
	}
	for range many {
		s.weights = append(s.weights, d.roll(most))
	}
	return s
}

// badShares may not be shared, each for one reason.
func badShares() []shared {
	list := []shared{
		{1, sameWeights(impl.ShrMany+1, 1)}, {0, sameWeights(impl.ShrMany+1, 0)}, {impl.ShrMax, sameWeights(5000, 1)},
	}
	for _, n := range []int{math.MinInt, -impl.ShrMax, -1, impl.ShrMax + 1, math.MaxInt} {
		list = append(list,
			shared{n, nil}, shared{n, []int{1}}, shared{n, []int{0, 0}}, shared{n, []int{1, 2, 3}},
			shared{1, []int{n}}, shared{0, []int{n}}, shared{5, []int{n, 1, 1}}, shared{5, []int{1, n, 1}}, shared{5, []int{1, 1, n}},
			shared{5, append(sameWeights(impl.ShrMany-1, 1), n)})
	}
	return list
}

// plainlyDue is what is due to one, as a fraction.
func plainlyDue(total int, weight int, all int) *big.Rat {
	due := big.NewRat(int64(total), int64(all))
	return due.Mul(due, big.NewRat(int64(weight), 1))
}

func wholeOf(r *big.Rat) int {
	return int(new(big.Int).Div(r.Num(), r.Denom()).Int64())
}

// plainlyShared hands the rest out one by one, each to the first one of whom most is left over, and who has none of it yet.
func plainlyShared(total int, weights []int) []int {
	if together(weights) == 0 {
		weights = sameWeights(len(weights), 1)
	}
	gets := make([]int, len(weights))
	over := make([]*big.Rat, len(weights))
	for k, weight := range weights {
		due := plainlyDue(total, weight, together(weights))
		gets[k] = wholeOf(due)
		over[k] = due.Sub(due, big.NewRat(int64(gets[k]), 1))
	}
	for len(weights) > 0 && together(gets) < total {
		most := 0
		for k := range over {
			if over[k].Cmp(over[most]) > 0 {
				most = k
			}
		}
		gets[most]++
		over[most] = big.NewRat(-1, 1)
	}
	return gets
}

func TestWhatMayBeShared(t *testing.T) {
	for _, s := range goodShares() {
		if !impl.ShrOk(s.total, s.weights) {
			t.Fatalf("%v may not be shared", s)
		}
	}
	for _, s := range badShares() {
		if impl.ShrOk(s.total, s.weights) {
			t.Errorf("%v may be shared", s)
		}
	}
	for many := range 2 * impl.ShrMany {
		if impl.ShrOk(1, sameWeights(many, 1)) != (many <= 100) {
			t.Errorf("%d weights", many)
		}
	}
	for _, n := range []int{-2, -1, 0, 1, 99999, 100000, 100001} {
		ok := n >= 0 && n <= 100000
		if impl.ShrOk(n, []int{1, 2}) != ok || impl.ShrOk(n, nil) != ok || impl.ShrOk(0, []int{2, n}) != ok {
			t.Errorf("%d, as a total or a weight", n)
		}
	}
}

func TestWhatMayNotBeShared(t *testing.T) {
	for _, s := range badShares() {
		if gets := impl.ShrShare(s.total, s.weights); len(gets) != 0 {
			t.Errorf("%v is shared: %v", s, gets)
		}
		if gets, left := impl.ShrUpTo(s.total, s.weights); len(gets) != 0 || left != 0 {
			t.Errorf("%v is shared: %v and %d", s, gets, left)
		}
		for _, k := range []int{-1, 0, 1, 2, len(s.weights)} {
			if due := impl.ShrDue(s.total, s.weights, k); due != 0 {
				t.Errorf("%v: %d is due", s, due)
			}
		}
	}
}

func TestPromise5AllOfItIsShared(t *testing.T) {
	for _, s := range goodShares() {
		gets := impl.ShrShare(s.total, s.weights)
		if len(gets) != len(s.weights) || len(gets) > 0 && together(gets) != s.total {
			t.Fatalf("%v: %v", s, gets)
		}
		if together(s.weights) == 0 {
			continue
		}
		for k, n := range gets {
			due := impl.ShrDue(s.total, s.weights, k)
			if n != due && n != due+1 || s.weights[k] == 0 && n != 0 {
				t.Fatalf("%v: %v, but %d is due to %d", s, gets, due, k)
			}
		}
	}
}

func TestPromise5WhoGetsTheRest(t *testing.T) {
	for _, s := range goodShares() {
		if gets, want := impl.ShrShare(s.total, s.weights), plainlyShared(s.total, s.weights); !slices.Equal(gets, want) {
			t.Fatalf("%v: %v, not %v", s, gets, want)
		}
	}
}

func TestPromise5SharesWrittenOut(t *testing.T) {
	cases := []struct {
		shared
		want []int
	}{
		{shared{10, []int{1, 1, 1}}, []int{4, 3, 3}},
		{shared{11, []int{1, 1, 1}}, []int{4, 4, 3}},
		{shared{7, []int{3, 0, 4}}, []int{3, 0, 4}},
		{shared{1, []int{1, 2, 2}}, []int{0, 1, 0}},
		{shared{2, []int{1, 2, 2}}, []int{0, 1, 1}},
		{shared{5, []int{2, 3, 2}}, []int{2, 2, 1}},
		{shared{3, []int{5, 0, 5, 1}}, []int{2, 0, 1, 0}},
		{shared{5, []int{0, 0, 0}}, []int{2, 2, 1}},
		{shared{2, []int{0, 0, 0}}, []int{1, 1, 0}},
		{shared{0, []int{0, 2}}, []int{0, 0}},
		{shared{100000, []int{100000, 100000, 100000}}, []int{33334, 33333, 33333}},
		{shared{100000, []int{1, 100000}}, []int{1, 99999}},
		{shared{99999, []int{1, 100000}}, []int{1, 99998}},
		{shared{50000, []int{1, 100000}}, []int{0, 50000}},
		{shared{4, nil}, nil},
	}
	for _, c := range cases {
		if gets := impl.ShrShare(c.total, c.weights); !slices.Equal(gets, c.want) {
			t.Errorf("%v: %v, not %v", c.shared, gets, c.want)
		}
	}
}

func TestPromise21GreaterWeightsGetNoLess(t *testing.T) {
	for _, s := range goodShares() {
		gets := impl.ShrShare(s.total, s.weights)
		for i := range gets {
			for k := range gets {
				if s.weights[i] > s.weights[k] && gets[i] < gets[k] {
					t.Fatalf("%v: %v, place %d has the greater weight, not %d", s, gets, i, k)
				}
				if i < k && s.weights[i] == s.weights[k] && gets[i] != gets[k] && gets[i] != gets[k]+1 {
					t.Fatalf("%v: %v, places %d and %d have one weight", s, gets, i, k)
				}
			}
		}
	}
}

func TestPromise22WeightsThreeTimesAsMuch(t *testing.T) {
	for _, s := range goodShares() {
		more := make([]int, len(s.weights))
		for k, weight := range s.weights {
			more[k] = 3 * weight
		}
		if !impl.ShrOk(s.total, more) {
			continue
		}
		if a, b := impl.ShrShare(s.total, s.weights), impl.ShrShare(s.total, more); !slices.Equal(a, b) {
			t.Fatalf("%v: %v, but three times as much %v", s, a, b)
		}
	}
}

func TestPromise22NoughtsGetAlike(t *testing.T) {
	for many := 1; many <= impl.ShrMany; many++ {
		for _, total := range []int{0, 1, many - 1, many, many + 1, 3*many + many/2, 777, impl.ShrMax} {
			gets := impl.ShrShare(total, make([]int, many))
			if len(gets) != many {
				t.Fatalf("%d among %d: %v", total, many, gets)
			}
			for k, n := range gets {
				want := total / many
				if k < total%many {
					want++
				}
				if n != want {
					t.Fatalf("%d among %d: %v", total, many, gets)
				}
			}
		}
	}
}

func TestPromise23NobodyGetsMoreThanItsWeight(t *testing.T) {
	for _, s := range goodShares() {
		gets, left := impl.ShrUpTo(s.total, s.weights)
		if len(gets) != len(s.weights) || together(gets)+left != s.total || left < 0 {
			t.Fatalf("%v: %v, and %d is left", s, gets, left)
		}
		for k, n := range gets {
			if n < 0 || n > s.weights[k] || left > 0 && n != s.weights[k] {
				t.Fatalf("%v: %v, and %d is left", s, gets, left)
			}
		}
	}
}

func TestPromise23TooLittleIsShared(t *testing.T) {
	for _, s := range goodShares() {
		gets, left := impl.ShrUpTo(s.total, s.weights)
		want, rest := s.weights, s.total-together(s.weights)
		if rest < 0 {
			want, rest = plainlyShared(s.total, s.weights), 0
		}
		if !slices.Equal(gets, want) || left != rest {
			t.Fatalf("%v: %v and %d, not %v and %d", s, gets, left, want, rest)
		}
	}
}

func TestPromise24DueIsNoMoreThanTotal(t *testing.T) {
	for _, s := range goodShares() {
		sum := 0
		for k := range s.weights {
			sum += impl.ShrDue(s.total, s.weights, k)
		}
		if together(s.weights) == 0 {
			if sum != 0 {
				t.Fatalf("%v: %d is due, without weights", s, sum)
			}
			continue
		}
		if sum > s.total || s.total-sum >= len(s.weights) {
			t.Fatalf("%v: %d is due", s, sum)
		}
	}
}

func TestPromise24WhatIsWholeOfIt(t *testing.T) {
	for _, s := range goodShares() {
		all := together(s.weights)
		for k, weight := range s.weights {
			want := 0
			if all > 0 {
				want = wholeOf(plainlyDue(s.total, weight, all))
			}
			if due := impl.ShrDue(s.total, s.weights, k); due != want {
				t.Fatalf("%v: %d is due to %d, not %d", s, due, k, want)
			}
		}
		for _, k := range []int{math.MinInt, -len(s.weights), -1, len(s.weights), len(s.weights) + 1, math.MaxInt} {
			if k != 0 || len(s.weights) == 0 {
				if due := impl.ShrDue(s.total, s.weights, k); due != 0 {
					t.Fatalf("%v: %d is due to %d", s, due, k)
				}
			}
		}
	}
}

func TestSharesAreNew(t *testing.T) {
	for _, s := range goodShares() {
		room := append(slices.Clone(s.weights), 71, 72, 73)
		before := slices.Clone(room)
		weights := room[:len(s.weights)]
		gets := impl.ShrShare(s.total, weights)
		upTo, left := impl.ShrUpTo(s.total, weights)
		impl.ShrDue(s.total, weights, 0)
		spoil(gets)
		spoil(upTo)
		if !slices.Equal(room, before) {
			t.Fatalf("%v became %v", before, room)
		}
		again, rest := impl.ShrUpTo(s.total, weights)
		if !slices.Equal(impl.ShrShare(s.total, weights), plainlyShared(s.total, s.weights)) || rest != left || together(again)+rest != s.total {
			t.Fatalf("%v is shared in another way again", s)
		}
	}
}

// spoil writes over a list, spare room included.
func spoil(list []int) {
	list = list[:cap(list)]
	for k := range list {
		list[k] = -9
	}
}
