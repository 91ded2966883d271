package tests

import (
	"math"
	"math/rand/v2"
	"slices"
	"strconv"
	"testing"

	"loop.example/g00016/impl"
)

func clonePlan(p impl.Plan) impl.Plan {
	p.Keys = slices.Clone(p.Keys)
	return p
}

func samePlan(a, b impl.Plan) bool {
	return a.Order == b.Order && a.Parts == b.Parts && slices.Equal(a.Keys, b.Keys)
}

func describedPlan(p impl.Plan) string {
	text := "order " + strconv.Itoa(p.Order) + ", parts " + strconv.Itoa(p.Parts) + ", keys"
	for _, key := range p.Keys {
		text += " " + strconv.Itoa(key)
	}
	return text
}

// folded says where a number stands in 0, -1, 1, -2, 2 ..
func folded(n int) int {
	if n < 0 {
		return -2*n - 1
	}
	return 2 * n
}

func slowKeyCost(part []int, key int) int {
	sum := 0
	for _, n := range part {
		if key == 25 {
			sum += 32
		} else {
			sum += folded(n)/(1<<key) + 1 + key
		}
	}
	return sum
}

// residueParts has the parts of a list, or false where the plan's order and parts may not be.
func residueParts(p impl.Plan, list []int) ([][]int, bool) {
	if p.Order < 0 || p.Order > 4 || p.Order > len(list) || p.Parts < 0 || p.Parts > 4 {
		return nil, false
	}
	many := []int{1, 2, 4, 8, 16}[p.Parts]
	each := len(list) / many
	if each*many != len(list) || each < p.Order {
		return nil, false
	}
	rest := slowResidue(p.Order, list)[p.Order:]
	parts := [][]int{rest[:each-p.Order]}
	for rest = rest[each-p.Order:]; len(parts) < many; rest = rest[each:] {
		parts = append(parts, rest[:each])
	}
	return parts, true
}

func slowCost(p impl.Plan, list []int) int {
	if !isList(list) {
		return -1
	}
	parts, ok := residueParts(p, list)
	if !ok || len(p.Keys) != len(parts) {
		return -1
	}
	cost := 3 + 26*p.Order + 3
	for i, part := range parts {
		if p.Keys[i] < 0 || p.Keys[i] > 25 {
			return -1
		}
		cost += 5 + slowKeyCost(part, p.Keys[i])
	}
	return cost
}

// A choosing is a plan that was chosen, and what else would have cost the same.
type choosing struct {
	plan                impl.Plan
	cost                int
	orders, parts, keys int
}

func slowChoose(list []int) choosing {
	best := choosing{cost: math.MaxInt}
	for order := range 5 {
		for cut := range 5 {
			p := impl.Plan{Order: order, Parts: cut}
			parts, ok := residueParts(p, list)
			if !ok {
				continue
			}
			others := 0
			for _, part := range parts {
				var costs []int
				for key := range 26 {
					costs = append(costs, slowKeyCost(part, key))
				}
				least := slices.Min(costs)
				p.Keys = append(p.Keys, slices.Index(costs, least))
				if len(part) > 0 {
					others += len(slices.DeleteFunc(costs, func(cost int) bool { return cost > least })) - 1
				}
			}
			cost := slowCost(p, list)
			switch {
			case cost < best.cost:
				best = choosing{plan: p, cost: cost, keys: others}
			case cost == best.cost && order > best.plan.Order:
				best.orders++
			case cost == best.cost:
				best.parts++
			}
		}
	}
	return best
}

func costMade(t *testing.T, p impl.Plan, list []int) int {
	t.Helper()
	around, handed := amidLists([][]int{list, p.Keys}, 7)
	was := cloneLists(around)
	p.Keys = handed[1]
	got := impl.PlanCost(p, handed[0])
	if !sameLists(around, was) {
		t.Fatalf("%s: an argument was written", describedPlan(p))
	}
	return got
}

func checkCost(t *testing.T, p impl.Plan, list []int) int {
	t.Helper()
	got, want := costMade(t, p, list), slowCost(p, list)
	if got != want {
		t.Fatalf("%s, of %v: %d, not %d", describedPlan(p), list, got, want)
	}
	return got
}

// planMade plans a list amid other memory twice.
func planMade(t *testing.T, list []int) impl.Plan {
	t.Helper()
	around, handed := amid(list, 77777777)
	was := slices.Clone(around)
	got, again := impl.BestPlan(handed), impl.BestPlan(handed)
	if !slices.Equal(around, was) || !samePlan(got, again) {
		t.Fatalf("%v: an argument was written, or two calls are not alike", list)
	}
	kept := clonePlan(got)
	checkApart(t, "a plan", [][]int{around}, got.Keys, again.Keys)
	return kept
}

func checkPlan(t *testing.T, list []int) choosing {
	t.Helper()
	got, want := planMade(t, list), slowChoose(list)
	if !samePlan(got, want.plan) {
		t.Fatalf("of %v\n%s (%d), not\n%s (%d)", list, describedPlan(got), impl.PlanCost(got, list), describedPlan(want.plan), want.cost)
	}
	if cost := checkCost(t, got, list); cost != want.cost {
		t.Fatalf("%s, of %v: %d, not %d", describedPlan(got), list, cost, want.cost)
	}
	return want
}

func TestPlanCostByHand(t *testing.T) {
	for _, c := range []struct {
		p    impl.Plan
		list []int
		want int
	}{
		{impl.Plan{Keys: []int{0}}, nil, 11},
		{impl.Plan{Keys: []int{25}}, nil, 11},
		{impl.Plan{Parts: 4, Keys: make([]int, 16)}, nil, 86},
		{impl.Plan{Keys: []int{0}}, []int{0, -1, 1, -2, 2}, 11 + 1 + 2 + 3 + 4 + 5},
		{impl.Plan{Keys: []int{2}}, []int{0, -1, 1, -2, 2}, 11 + 3 + 3 + 3 + 3 + 4},
		{impl.Plan{Keys: []int{24}}, []int{0, -1, 1, -2, 2}, 11 + 5*25},
		{impl.Plan{Keys: []int{25}}, []int{0, -1, 1, -2, 2}, 11 + 5*32},
		{impl.Plan{Order: 4, Keys: []int{3}}, []int{7, 8, 9, 10}, 3 + 104 + 3 + 5},
		{impl.Plan{Order: 2, Parts: 1, Keys: []int{0, 1}}, []int{7, 9, 11, 14}, 3 + 52 + 3 + 5 + 5 + 2 + 3},
		{impl.Plan{Order: 1, Parts: 2, Keys: []int{0, 1, 2, 25}}, []int{5, 5, 6, 9}, 3 + 26 + 3 + 5 + 5 + 2 + 5 + 3 + 5 + 32},
	} {
		if got := checkCost(t, c.p, c.list); got != c.want {
			t.Errorf("%s, of %v: %d, not %d", describedPlan(c.p), c.list, got, c.want)
		}
	}
}

// Each order and each cut of each length up to one that has 16 parts of more than 4 numbers.
func TestPlanCostOfLengths(t *testing.T) {
	r := rand.New(rand.NewPCG(10, 20))
	for long := range 100 {
		list := someSoundList(r, long)
		for order := -1; order <= 5; order++ {
			for cut := -1; cut <= 5; cut++ {
				many := 1 << max(cut, 0)
				p := impl.Plan{Order: order, Parts: cut, Keys: someNoise(r, many, 0)}
				for i := range p.Keys {
					p.Keys[i] = r.IntN(26)
				}
				good := order >= 0 && order <= 4 && cut >= 0 && cut <= 4 && long%many == 0 && long/many >= order
				if got := checkCost(t, p, list); (got >= 0) != good {
					t.Errorf("%s, of %d numbers: %d", describedPlan(p), long, got)
				}
			}
		}
	}
}

func TestPlanCostOfFarNumbers(t *testing.T) {
	list := []int{1, 2, 3, 4, 5, 6, 7, 8, 9, 10, 11, 12, 13, 14, 15, 16}
	for _, n := range append(slices.Clone(farNumbers), -2, -1, 5, 6, 63, 64, 65, 256) {
		for _, p := range []impl.Plan{{Order: n, Keys: []int{0}}, {Parts: n, Keys: []int{0}}, {Order: n, Parts: n, Keys: []int{0}}} {
			if got := checkCost(t, p, list); got != -1 {
				t.Errorf("%s: %d", describedPlan(p), got)
			}
			if got := checkCost(t, p, nil); got != -1 {
				t.Errorf("%s, of the empty list: %d", describedPlan(p), got)
			}
		}
	}
}

func TestPlanCostOfKeys(t *testing.T) {
	lists := [][]int{nil, {0, 0}, {1, -5}, alike(leastInList, 16), alike(3, 16)}
	for _, key := range append(slices.Clone(farNumbers), -25, -1, 0, 1, 23, 24, 25, 26, 31, 32, 63, 64) {
		for _, list := range lists {
			for cut := range 2 {
				for at := range 1 << cut {
					p := impl.Plan{Parts: cut, Keys: alike(4, 1<<cut)}
					p.Keys[at] = key
					if got := checkCost(t, p, list); (got >= 0) != (key >= 0 && key <= 25) {
						t.Errorf("%s, of %v: %d", describedPlan(p), list, got)
					}
				}
			}
		}
	}
	for cut := range 5 {
		for many := range 40 {
			p := impl.Plan{Parts: cut, Keys: alike(4, many)}
			for _, list := range [][]int{nil, make([]int, 32)} {
				if got := checkCost(t, p, list); (got >= 0) != (many == 1<<cut) {
					t.Errorf("%s, of %v: %d", describedPlan(p), list, got)
				}
			}
		}
	}
}

func TestPlanCostOfListsThatAreNone(t *testing.T) {
	p := impl.Plan{Keys: []int{3}}
	for _, number := range append(slices.Clone(extremes()), around(2, leastInList, greatestInList)...) {
		for at := range 3 {
			list := []int{4, 5, 6}
			list[at] = number
			good := number >= leastInList && number <= greatestInList
			if got := checkCost(t, p, list); (got >= 0) != good {
				t.Errorf("%d at %d: %d", number, at, got)
			}
			if got := planMade(t, list); (len(got.Keys) > 0) != good || !good && !samePlan(got, impl.Plan{}) {
				t.Errorf("%d at %d: %s", number, at, describedPlan(got))
			}
		}
	}
	for _, many := range []int{3999, 4000, 4001, 4016, 8000} {
		list := make([]int, many)
		if got := checkCost(t, p, list); (got >= 0) != (many <= 4000) {
			t.Errorf("%d numbers: %d", many, got)
		}
		if got := planMade(t, list); (len(got.Keys) > 0) != (many <= 4000) {
			t.Errorf("%d numbers: %s", many, describedPlan(got))
		}
	}
}

// With small keys large numbers cost as many bits as they have worth.
func TestPlanCostOfLargeNumbers(t *testing.T) {
	list := make([]int, 4000)
	for i := range list {
		list[i] = []int{greatestInList, leastInList}[i%2]
	}
	for order := range 5 {
		for _, key := range []int{0, 1, 12, 23, 24, 25} {
			checkCost(t, impl.Plan{Order: order, Keys: []int{key}}, list)
		}
	}
	if got := impl.PlanCost(impl.Plan{Order: 0, Keys: []int{0}}, list); got != 11+4000+2000*(1<<27-2)+2000*(1<<27-1) {
		t.Errorf("%d", got)
	}
	if got := impl.PlanCost(impl.Plan{Order: 4, Keys: []int{25}}, list); got != 11+4*26+3996*32 {
		t.Errorf("%d", got)
	}
}

func TestBestPlanByHand(t *testing.T) {
	for _, c := range []struct {
		what string
		list []int
		want impl.Plan
	}{
		{"the empty list", nil, impl.Plan{Keys: []int{0}}},
		{"a number", []int{5}, impl.Plan{Keys: []int{2}}},
		{"an end alone: 26 bits are the fewest", []int{greatestInList}, impl.Plan{Order: 1, Keys: []int{0}}},
		{"both ends", []int{greatestInList, leastInList, greatestInList}, impl.Plan{Order: 3, Keys: []int{0}}},
		{"ends by turns: large residues as they are", []int{greatestInList, leastInList, greatestInList, leastInList, greatestInList, leastInList}, impl.Plan{Order: 4, Keys: []int{25}}},
		{"one value", alike(1000, 64), impl.Plan{Order: 1, Keys: []int{0}}},
		{"two halves unlike each other", slices.Concat(alike(0, 8), []int{900, -900, 900, -900, 900, -900, 900, -900}), impl.Plan{Parts: 1, Keys: []int{0, 10}}},
		{"two halves, of which the second one's keys 9 and 10 cost the same", slices.Concat(alike(0, 8), []int{700, -700, 700, -700, 700, -700, 700, -700}), impl.Plan{Parts: 1, Keys: []int{0, 9}}},
		{"the keys 1 and 2 cost the same", []int{2}, impl.Plan{Keys: []int{1}}},
		{"the orders 0 and 1 cost the same, and the keys 23 and 24", []int{1 << 23}, impl.Plan{Keys: []int{23}}},
		{"the keys 24 and 25 cost the same", []int{0, 0, 0, 0, greatestInList, leastInList, greatestInList, leastInList}, impl.Plan{Parts: 1, Keys: []int{0, 24}}},
	} {
		got := planMade(t, c.list)
		if !samePlan(got, c.want) {
			t.Errorf("%s: %s, not %s (%d and %d)", c.what, describedPlan(got), describedPlan(c.want), impl.PlanCost(got, c.list), impl.PlanCost(c.want, c.list))
		}
		checkPlan(t, c.list)
	}
	for _, c := range []struct {
		list []int
		a, b impl.Plan
	}{
		{[]int{2}, impl.Plan{Keys: []int{1}}, impl.Plan{Keys: []int{2}}},
		{[]int{1 << 23}, impl.Plan{Keys: []int{23}}, impl.Plan{Keys: []int{24}}},
		{[]int{1 << 23}, impl.Plan{Keys: []int{23}}, impl.Plan{Order: 1, Keys: []int{0}}},
		{[]int{greatestInList, leastInList}, impl.Plan{Keys: []int{24}}, impl.Plan{Keys: []int{25}}},
	} {
		if a, b := impl.PlanCost(c.a, c.list), impl.PlanCost(c.b, c.list); a != b {
			t.Errorf("%v: %d and %d", c.list, a, b)
		}
	}
}

// One value is told by order 1, what rises by it is told by order 2, what rises by that is by order 3, and so on.
func TestBestPlanOfEachOrder(t *testing.T) {
	list := slices.Concat([]int{40, -70, 30, 20}, alike(1, 76))
	for order := 1; order <= 4; order++ {
		if got := checkPlan(t, list).plan; got.Order != order {
			t.Errorf("order %d, %v: %s", order, list, describedPlan(got))
		}
		for i := 1; i < len(list); i++ {
			list[i] += list[i-1]
		}
	}
}

func TestBestPlanOfShortLists(t *testing.T) {
	numbers := []int{leastInList, -1 << 24, -3, 0, 1, 40, 1 << 23, greatestInList}
	lists := [][]int{nil}
	for at := 0; at < len(lists); at++ {
		checkPlan(t, lists[at])
		if len(lists[at]) < 4 {
			for _, number := range numbers {
				lists = append(lists, append(slices.Clone(lists[at]), number))
			}
		}
	}
}

func TestBestPlanOfLengths(t *testing.T) {
	r := rand.New(rand.NewPCG(10, 21))
	orders, cuts := map[int]int{}, map[int]int{}
	for long := range 140 {
		for range 12 {
			plan := checkPlan(t, someSoundList(r, long)).plan
			orders[plan.Order]++
			cuts[plan.Parts]++
		}
	}
	// Lists whose parts are unlike each other, so that it is well worth to cut them.
	for _, long := range []int{16, 32, 48, 64, 80, 512, 1000, 4000} {
		for range 20 {
			var list []int
			for len(list) < long {
				list = append(list, someNoise(r, long/[]int{2, 4, 8, 16}[r.IntN(4)]+1, 1<<r.IntN(26))...)
			}
			plan := checkPlan(t, list[:long]).plan
			orders[plan.Order]++
			cuts[plan.Parts]++
		}
	}
	if len(orders) != 5 || len(cuts) != 5 {
		t.Errorf("orders %v, parts %v", orders, cuts)
	}
}

func TestBestPlanOfManyNumbers(t *testing.T) {
	r := rand.New(rand.NewPCG(10, 22))
	for _, many := range []int{3984, 3999, 4000} {
		for range 8 {
			checkPlan(t, someSoundList(r, many))
		}
	}
}

// Lists for which several plans cost the same.
func TestBestPlanOfTies(t *testing.T) {
	r := rand.New(rand.NewPCG(10, 23))
	orders, parts, keys := 0, 0, 0
	for range 6000 {
		list := someNoise(r, 2*(1+r.IntN(5)), []int{2, 10, 100}[r.IntN(3)])
		if r.IntN(2) == 0 {
			list = someLine(r, 1+r.IntN(5), -1<<24, 1<<24)
		}
		c := checkPlan(t, list)
		orders += min(1, c.orders)
		parts += min(1, c.parts)
		keys += min(1, c.keys)
	}
	if orders < 10 || parts < 10 || keys < 100 {
		t.Errorf("other orders %d, other parts %d, other keys %d", orders, parts, keys)
	}
}

// eachKeys goes through all lists of so many keys of those.
func eachKeys(many int, of []int, see func(keys []int)) {
	keys := make([]int, many)
	var fill func(at int)
	fill = func(at int) {
		if at == many {
			see(keys)
			return
		}
		for _, key := range of {
			keys[at] = key
			fill(at + 1)
		}
	}
	fill(0)
}

// triedKeys are all for one part and for two, and some for more.
func triedKeys(cut int) []int {
	switch cut {
	case 2:
		return []int{0, 1, 2, 3, 9, 10, 23, 24, 25}
	case 3:
		return []int{0, 1, 25}
	}
	return around(13, 13)[:26]
}

// Of all plans, in the order in which of several the first is to be taken, the first one that costs the least.
func TestBestPlanOfAllPlans(t *testing.T) {
	r := rand.New(rand.NewPCG(10, 24))
	lists := [][]int{{greatestInList, leastInList}, {0, 0, 0, 1}, {0, 100, 0, -100}, {3, 3, 3, 3, 900, -900, 900, 800}}
	for range 12 {
		lists = append(lists, someSoundList(r, r.IntN(9)))
	}
	for _, list := range lists {
		best, least := impl.Plan{}, math.MaxInt
		for order := range 5 {
			for cut := range 4 {
				eachKeys(1<<cut, triedKeys(cut), func(keys []int) {
					p := impl.Plan{Order: order, Parts: cut, Keys: keys}
					if cost := impl.PlanCost(p, list); cost >= 0 && cost < least {
						best, least = clonePlan(p), cost
					}
				})
			}
		}
		if got := checkPlan(t, list).plan; !samePlan(got, best) {
			t.Errorf("of %v\n%s, not\n%s", list, describedPlan(got), describedPlan(best))
		}
	}
}

// No other key of one part costs less, and no lesser one as little.
func TestBestPlanOfEachKey(t *testing.T) {
	r := rand.New(rand.NewPCG(10, 25))
	for range 300 {
		list := someSoundList(r, 16*r.IntN(8))
		best := impl.BestPlan(list)
		cost := impl.PlanCost(best, list)
		for at, was := range best.Keys {
			for key := range 26 {
				other := clonePlan(best)
				other.Keys[at] = key
				if got := impl.PlanCost(other, list); got < cost || got == cost && key < was {
					t.Fatalf("of %v: %s costs %d, %s %d", list, describedPlan(best), cost, describedPlan(other), got)
				}
			}
		}
	}
}

// A part of large residues in a list that a higher order tells well.
func TestBestPlanOfPlainParts(t *testing.T) {
	r := rand.New(rand.NewPCG(10, 26))
	plain := 0
	for range 40 {
		list := make([]int, 256)
		step, from := 100000+r.IntN(100000), 32*r.IntN(8)
		for i := range list {
			list[i] = step*i - 1<<24
			if i >= from && i < from+24 {
				list[i] = []int{greatestInList, leastInList}[i%2]
			}
		}
		if plan := checkPlan(t, list).plan; len(plan.Keys) > 1 && slices.Contains(plan.Keys, 25) {
			plain++
		}
	}
	if plain < 10 {
		t.Errorf("%d", plain)
	}
}

// The planners of several calls do not come across each other.
func TestBestPlanManyAtOnce(t *testing.T) {
	r := rand.New(rand.NewPCG(10, 27))
	var lists [][]int
	var want []impl.Plan
	for range 24 {
		lists = append(lists, someSoundList(r, 16*(1+r.IntN(20))))
		want = append(want, slowChoose(lists[len(lists)-1]).plan)
	}
	done := make(chan string)
	for i := range 4 * len(lists) {
		go func() {
			at := i % len(lists)
			if got := impl.BestPlan(lists[at]); !samePlan(got, want[at]) {
				done <- describedPlan(got) + ", not " + describedPlan(want[at])
			}
			done <- ""
		}()
	}
	for left := 4 * len(lists); left > 0; {
		if text := <-done; text != "" {
			t.Error(text)
		} else {
			left--
		}
	}
}
