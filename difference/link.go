package difference

import (
	"math"
	"slices"

	"scarfjoint/api"
)

// maxPlaces counts the variables, and the place without one.
const maxPlaces = maxVars + 1

// none stands for the sum of a walk where there is no walk.
const none = math.MaxInt

// link is a use that leads from one place to another one: the value of from is at most that of to, plus most.
type link struct {
	use      api.Use
	from, to int
	most     int
}

// place returns the place of a variable, or that of no variable (-1), which is 0.
func place(i int) int {
	return i + 1
}

// links returns all uses of tests, in the order in which refutations are compared.
func links(l []api.Test) []link {
	var all []link
	for i := range l {
		for _, sign := range []int{1, -1} {
			if x, ok := find(l, api.Use{Test: i, Sign: sign}); ok {
				all = append(all, x)
			}
		}
	}
	return all
}

// find returns the link of a use, and whether the tests have this use.
func find(l []api.Test, u api.Use) (link, bool) {
	if u.Test < 0 || u.Test >= len(l) {
		return link{}, false
	}
	x := l[u.Test]
	from, to, most := place(x.Left.Var), place(x.Right.Var), x.Right.Add-x.Left.Add
	switch {
	case u.Sign == 1:
		return link{u, from, to, most}, true
	case u.Sign == -1 && x.Kind == api.Equal:
		return link{u, to, from, -most}, true
	}
	return link{}, false
}

// opposite returns the link that holds of integers exactly if x does not.
func (x link) opposite() link {
	return link{from: x.to, to: x.from, most: -x.most - 1}
}

// implies reports whether tests without an error imply one: with the opposite of any of its uses they have no solution.
func implies(n int, l []api.Test, x api.Test) bool {
	all := links(l)
	for _, u := range links([]api.Test{x}) {
		if _, ok := greatest(n, append(slices.Clip(all), u.opposite())); ok {
			return false
		}
	}
	return true
}

// greatest returns the greatest values of all places that are at most 0, and whether there are such values.
func greatest(n int, all []link) ([]int, bool) {
	values := make([]int, n+1)
	// Where there are such values, the walks that make them lowest meet no place twice, so the last round changes none.
	for range n + 1 {
		if !lower(values, all) {
			return values, true
		}
	}
	return nil, false
}

// lower makes values so low that each link has been satisfied once, and reports whether it changed any.
func lower(values []int, all []link) bool {
	changed := false
	for _, x := range all {
		if most := values[x.to] + x.most; values[x.from] > most {
			values[x.from] = most
			changed = true
		}
	}
	return changed
}

// sums has the least sums of the walks of some length, by the places where they begin and end.
type sums [maxPlaces][maxPlaces]int

// standing returns the sums of the walks of the length 0.
func standing() sums {
	var s sums
	for from := range s {
		for to := range s[from] {
			if from != to {
				s[from][to] = none
			}
		}
	}
	return s
}

// behind returns the sums of the walks that are longer by a link, which comes first.
func (s sums) behind(all []link) sums {
	var longer sums
	for from := range longer {
		for to := range longer[from] {
			longer[from][to] = none
		}
	}
	for _, x := range all {
		for to, rest := range s[x.to] {
			if rest != none {
				longer[x.from][to] = min(longer[x.from][to], x.most+rest)
			}
		}
	}
	return longer
}

// shortest returns the first refutation that is one link longer than the longest walks, if there is one.
func shortest(walks []sums, all []link) []api.Use {
	for _, x := range all {
		rest := walks[len(walks)-1][x.to][x.from]
		if rest != none && x.most+rest < 0 {
			return complete(walks, all, x)
		}
	}
	return nil
}

// complete returns the first refutation that begins with a link: each step takes the first link behind which the rest can be negative.
func complete(walks []sums, all []link, first link) []api.Use {
	r := []api.Use{first.use}
	at, sum := first.to, first.most
	for _, s := range slices.Backward(walks[:len(walks)-1]) {
		i := slices.IndexFunc(all, func(x link) bool {
			rest := s[x.to][first.from]
			return x.from == at && rest != none && sum+x.most+rest < 0
		})
		r = append(r, all[i].use)
		at = all[i].to
		sum += all[i].most
	}
	return r
}
