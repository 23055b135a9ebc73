package rights

import "treasury/api"

// Right reports whether a right is valid.
func Right(r api.Right) bool {
	return isCode(r.Code) && within(r.Year, 0, maxYear) && isTotal(r.Granted) && isTotal(r.Asked) && within(r.Returned, 0, r.Granted)
}

// Learn returns a right after a message of the treasury. Its numbers only grow, so that late and doubled messages do no harm.
func Learn(r api.Right, m api.Message) (api.Right, api.Errno) {
	switch {
	case !Right(r) || m.From != 0 || m.Code != r.Code || m.Year != r.Year:
		return api.Right{}, api.ErrInvalid
	case !isTotal(m.Granted) || !isTotal(m.Asked):
		return api.Right{}, api.ErrRange
	}
	r.Granted, r.Asked = max(r.Granted, m.Granted), max(r.Asked, m.Asked)
	return r, api.OK
}

// Return makes what an office has returned greater.
func Return(r api.Right, used, amount int) (api.Right, api.Errno) {
	switch {
	case !fits(r, used):
		return api.Right{}, api.ErrInvalid
	case !within(amount, 1, api.MaxTotal):
		return api.Right{}, api.ErrRange
	case amount > r.Granted-r.Returned-used:
		return api.Right{}, api.ErrFunds
	}
	r.Returned += amount
	return r, api.OK
}

// Wanted returns how much of what is asked can be returned now.
func Wanted(r api.Right, used int) int {
	if !fits(r, used) {
		return 0
	}
	return max(min(r.Asked-r.Returned, r.Granted-r.Returned-used), 0)
}

// fits reports whether a right is valid, and lets its office use so much.
func fits(r api.Right, used int) bool { return Right(r) && within(used, 0, r.Granted-r.Returned) }
