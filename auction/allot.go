package auction

import (
	"maps"
	"slices"

	"treasury/api"
	"treasury/money"
)

// allot returns how many lots each bid gets, and the cut-off price. The bids are in order.
func allot(o api.Offer, l []api.Bid) ([]int, int) {
	lots := make([]int, len(l))
	left := o.Amount / api.Lot
	var free []int
	atPrice := map[int][]int{}
	for i, b := range l {
		switch {
		case b.Free:
			free = append(free, i)
		case b.Price >= o.Least:
			atPrice[b.Price] = append(atPrice[b.Price], i)
		}
	}
	left -= serve(l, free, left*o.Share/maxPercent, lots)
	cut := 0
	for _, price := range slices.Backward(slices.Sorted(maps.Keys(atPrice))) {
		if served := serve(l, atPrice[price], left, lots); served > 0 {
			left -= served
			cut = price
		}
	}
	return lots, cut
}

// serve gives some bids what they ask for, or parts of the lots there are if these are less, and returns how many they get.
func serve(l []api.Bid, places []int, most int, lots []int) int {
	asked := 0
	var weights []int
	for _, i := range places {
		weights = append(weights, l[i].Amount/api.Lot)
		asked += l[i].Amount / api.Lot
	}
	given := weights
	if asked > most {
		// The lots of a bid are a weight, and there are not too many bids.
		given, _ = money.Parts(most, weights)
	}
	for k, i := range places {
		lots[i] = given[k]
	}
	return min(asked, most)
}

// freePrice returns the price of free bids: the cut-off, or the average of what the others pay, rounded up.
func freePrice(o api.Offer, l []api.Bid, lots []int, cut int) int {
	switch {
	case cut == 0:
		return o.Least
	case o.Uniform:
		return cut
	}
	paid, sold := 0, 0
	for i, b := range l {
		if !b.Free {
			paid += b.Price * lots[i]
			sold += lots[i]
		}
	}
	return (paid + sold - 1) / sold
}
