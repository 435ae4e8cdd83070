package limit

import (
	"cmp"
	"container/heap"
)

// coin is a symbol that occurs, and how often.
type coin struct{ symbol, count int }

// purse is a heap of coins: the least count comes out first, and of equal ones the lowest symbol.
type purse []coin

// Len has a pointer as its receiver, so that its method value tells how many coins there are by now.
func (p *purse) Len() int { return len(*p) }

func (p *purse) Less(i, j int) bool {
	a, b := (*p)[i], (*p)[j]
	return cmp.Or(cmp.Compare(a.count, b.count), cmp.Compare(a.symbol, b.symbol)) < 0
}

func (p *purse) Swap(i, j int) { (*p)[i], (*p)[j] = (*p)[j], (*p)[i] }

func (p *purse) Push(x any) { *p = append(*p, x.(coin)) }

func (p *purse) Pop() any {
	last := len(*p) - 1
	c := (*p)[last]
	*p = (*p)[:last]
	return c
}

// coinsOf is the coins of counts in ascending order.
func coinsOf(counts []int) []coin {
	p := &purse{}
	for symbol, n := range counts {
		if n > 0 {
			heap.Push(p, coin{symbol, n})
		}
	}
	var coins []coin
	left := p.Len
	for left() > 0 {
		coins = append(coins, heap.Pop(p).(coin))
	}
	return coins
}
