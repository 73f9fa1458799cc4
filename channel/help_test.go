package channel_test

import (
	"math"
	"slices"
	"testing"

	"monocoque/api"
	"monocoque/channel"
)

type (
	end   = channel.End
	route = channel.Route
	goods = channel.Goods
)

var outside = end{Part: channel.Outside}

// far are numbers that are neither partitions nor ports, whatever one cuts off.
var far = []int{math.MinInt, -1 << 32, -256, -16, -2, 16, 17, 32, 255, 256, 1 << 16, 1 << 32, 1<<32 + 1, math.MaxInt}

// wrong are ends that are none.
func wrong() (l []end) {
	for _, n := range far {
		l = append(l, end{n, 0}, end{n, 3}, end{0, n}, end{15, n}, end{-1, n}, end{n, n})
	}
	for n := 1; n < 16; n++ {
		l = append(l, end{-1, n}, end{n, -1})
	}
	return append(l, end{0, -1}, end{-1, -1})
}

// numbers are partitions and others.
func numbers() (l []int) {
	for n := -1; n <= 16; n++ {
		l = append(l, n)
	}
	return append(l, far...)
}

// ends are all ports of partitions.
func ends() (l []end) {
	for part := range 16 {
		for port := range 16 {
			l = append(l, end{part, port})
		}
	}
	return l
}

// sampling returns a route that is no queuing one.
func sampling(from end, to ...end) route { return route{From: from, To: to} }

// queuing returns one that is.
func queuing(from end, to ...end) route { return route{From: from, To: to, Queue: true} }

// of returns a net, whose routes may be.
func of(t *testing.T, routes ...route) *channel.Net {
	t.Helper()
	n, e := channel.New(routes)
	if e != api.OK || n == nil {
		t.Fatalf("New(%v) = %v, %d", routes, n, e)
	}
	return n
}

// refused tells whether New answers this error.
func refused(t *testing.T, want api.Errno, routes ...route) {
	t.Helper()
	if n, e := channel.New(routes); e != want || n != nil {
		t.Errorf("New(%v) = %v, %d, want %d", routes, n, e, want)
	}
}

func sameRoute(a, b route) bool {
	return a.From == b.From && a.Queue == b.Queue && slices.Equal(a.To, b.To)
}

func sameGoods(a, b goods) bool { return a.At == b.At && slices.Equal(a.Message, b.Message) }

// has tells whether a net has these routes.
func has(t *testing.T, n *channel.Net, want ...route) {
	t.Helper()
	if l := n.Routes(); !slices.EqualFunc(l, want, sameRoute) {
		t.Errorf("Routes() = %v, want %v", l, want)
	}
}

// leads tells whether these are the goals of an end.
func leads(t *testing.T, n *channel.Net, e end, want ...end) {
	t.Helper()
	if l := n.Goals(e); !slices.Equal(l, want) {
		t.Errorf("Goals(%v) = %v, want %v", e, l, want)
	}
}

// comes tells whether an end is a goal, and of which source.
func comes(t *testing.T, n *channel.Net, e, want end, is bool) {
	t.Helper()
	if from, ok := n.Source(e); from != want || ok != is {
		t.Errorf("Source(%v) = %v, %v, want %v, %v", e, from, ok, want, is)
	}
}

// moves tells whether goods are moved there.
func moves(t *testing.T, n *channel.Net, l []goods, want ...goods) {
	t.Helper()
	if got := n.Move(l); !slices.EqualFunc(got, want, sameGoods) {
		t.Errorf("Move(%v) = %v, want %v", l, got, want)
	}
}

type pair struct{ a, b int }

// tells tells whether this is true for these pairs and for no others.
func tells(t *testing.T, f func(a, b int) bool, want ...pair) {
	t.Helper()
	for _, a := range numbers() {
		for _, b := range numbers() {
			if is := slices.Contains(want, pair{a, b}); f(a, b) != is {
				t.Errorf("from %d to %d it is not %v", a, b, is)
			}
		}
	}
}

// flows tells whether information can flow by one route between these pairs and no others.
func flows(t *testing.T, n *channel.Net, want ...pair) {
	t.Helper()
	tells(t, n.Flows, want...)
}

// reaches tells whether it can do so by any routes.
func reaches(t *testing.T, n *channel.Net, want ...pair) {
	t.Helper()
	tells(t, n.Reach, want...)
}

// spoil overwrites a list with all memory that belongs to it.
func spoil[T any](l []T) { clear(l[:cap(l)]) }
