package step

import "auspice/api"

// Most reckons no further than MaxLive, so that no number leaves the numbers.
func Most(a api.Auto, k int) int {
	switch {
	case k < 1:
		return 0
	case k > api.MaxLive:
		return api.MaxLive
	}
	total, manys := 0, make([]int, len(a.States))
	for i, s := range a.States {
		if s.Parent >= 0 && s.Parent < i {
			manys[i] = manys[s.Parent]
		}
		if s.Many {
			manys[i]++
		}
		for range s.Ends {
			total = min(total+share(k, manys[i]), api.MaxLive)
		}
	}
	return total
}

// share is what one End adds.
func share(k, manys int) int {
	n := 2 * k
	for i := 0; i < manys && n < api.MaxLive; i++ {
		n *= k + 1
	}
	return n
}
