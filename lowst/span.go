package lowst

import (
	"slices"

	"rung/api"
)

// span: numbers from low to high, which an arm is done for.
type span struct {
	low, high int64
	arm       int
}

// nobody: no arm.
const nobody = -1

// spansOf tells the spans of arms, in order, and apart from one another: a number
// that several arms have is the first one's.
func spansOf(arms []api.Arm) []span {
	cuts := cutsOf(arms)
	owners := slices.Repeat([]int{nobody}, len(cuts)) // of the numbers from a cut to the next
	free := make([]int, len(cuts))                    // at which cut to look on for what is nobody's
	for i := range free {
		free[i] = i
	}
	for arm, a := range arms {
		for _, bounds := range a.Labels {
			from, _ := slices.BinarySearch(cuts, bounds[0].N)
			to, _ := slices.BinarySearch(cuts, bounds[1].N+1)
			for i := nextFree(free, from); i < to; i = nextFree(free, i) {
				owners[i] = arm
				free[i] = i + 1
			}
		}
	}
	return joined(cuts, owners)
}

// cutsOf tells the numbers at which a label begins, or behind which one ends, in
// order.
func cutsOf(arms []api.Arm) []int64 {
	var cuts []int64
	for _, a := range arms {
		for _, bounds := range a.Labels {
			cuts = append(cuts, bounds[0].N, bounds[1].N+1)
		}
	}
	slices.Sort(cuts)
	return slices.Compact(cuts)
}

// nextFree tells the first cut from i on behind which the numbers are nobody's,
// and shortens the way there. Behind the last cut they always are.
func nextFree(free []int, i int) int {
	for free[i] != i {
		free[i] = free[free[i]]
		i = free[i]
	}
	return i
}

// joined tells spans; neighbours of one arm are one.
func joined(cuts []int64, owners []int) []span {
	var spans []span
	for i, arm := range owners {
		if arm == nobody {
			continue
		}
		if i > 0 && owners[i-1] == arm {
			spans[len(spans)-1].high = cuts[i+1] - 1
			continue
		}
		spans = append(spans, span{cuts[i], cuts[i+1] - 1, arm})
	}
	return spans
}
