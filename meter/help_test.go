package meter

import (
	"math"
	"testing"

	"evenhand/api"
)

const (
	least = math.MinInt64
	most  = math.MaxInt64
	limit = 1099511627776 // 2^40, as the chapter says it
)

// below are numbers below 0, as small and as near to it as may be; among them such
// as would be small ones above it, were they cut to fewer bits.
func below() []int64 {
	return []int64{
		least, least + 1, least + 5, -3 * limit, -2 * limit, -limit - 1, -limit, -limit + 1, -limit + 5,
		-1<<32 - 1, -1 << 32, -1<<32 + 1, -1<<32 + 3, -1 << 31, -65536, -256, -5, -4, -3, -2, -1,
	}
}

// above are numbers above 2^40, as large and as near to it as may be; among them
// such as would be small ones, were they cut to fewer bits.
func above() []int64 {
	return []int64{
		limit + 1, limit + 2, limit + 3, limit + 1<<20, limit + 1<<32, 2*limit - 1, 2 * limit, 2*limit + 1, 3 * limit, 1 << 48,
		1 << 61, 1 << 62, most - 2*limit, most - limit, most - 2, most - 1, most,
	}
}

// between are numbers that may be charged, the smallest and the largest among them.
func between() []int64 {
	return []int64{
		0, 1, 2, 3, 4, 5, 127, 128, 255, 256, 65535, 65536, 1<<20 - 1, 1 << 20, 1<<31 - 1, 1 << 31, 1<<32 - 1, 1 << 32, 1<<32 + 1,
		limit / 2, limit/2 + 1, limit - 2, limit - 1, limit,
	}
}

// second is the chapter, told a second way: it has what is left of the fuel, which
// is below 0 when it is over, and what was used.
type second struct{ used, left int64 }

func (s *second) charge(n int64) api.Errno {
	switch {
	case n <= -1 || n >= limit+1:
		return api.ErrArg
	case s.left < 0:
		return api.ErrFuel
	}
	s.used, s.left = s.used+n, s.left-n
	if s.left <= -1 {
		return api.ErrFuel
	}
	return api.OK
}

// pair is a meter, and what it should be.
type pair struct {
	*testing.T
	fuel  int64 // as New was handed it
	meter *Meter
	want  second
}

// of is a meter that New made of asked, and should have this fuel, and charges of
// these numbers.
func of(t *testing.T, asked, fuel int64, charges ...int64) *pair {
	t.Helper()
	p := &pair{T: t, fuel: asked, meter: New(asked), want: second{left: fuel}}
	p.all()
	for _, n := range charges {
		p.charge(n)
	}
	return p
}

// had is what fuel there is, of what is asked for.
func had(fuel int64) int64 {
	switch {
	case fuel <= -1:
		return 0
	case fuel >= limit+1:
		return limit
	}
	return fuel
}

// charge is one, and what is told behind it.
func (p *pair) charge(n int64) api.Errno {
	p.Helper()
	was := p.want
	err, want := p.meter.Charge(n), p.want.charge(n)
	if err != want {
		p.Fatalf("New(%d), %d used: Charge(%d) is %v, want %v", p.fuel, was.used, n, err, want)
	}
	p.all()
	return want
}

func (p *pair) all() {
	p.Helper()
	if now := p.meter.Now(); now != p.want.used {
		p.Fatalf("New(%d), %d left: Now is %d, want %d", p.fuel, p.want.left, now, p.want.used)
	}
	if over, want := p.meter.Over(), p.want.left < 0; over != want {
		p.Fatalf("New(%d), %d used: Over is %v, want %v", p.fuel, p.want.used, over, want)
	}
}

// The second way sees what is wrong: else it would prove nothing.
func TestL1SecondWay(t *testing.T) {
	s := second{left: 3}
	for at, x := range []struct {
		n    int64
		err  api.Errno
		want second
	}{
		{-1, api.ErrArg, second{0, 3}}, {limit + 1, api.ErrArg, second{0, 3}}, {0, api.OK, second{0, 3}}, {2, api.OK, second{2, 1}}, {1, api.OK, second{3, 0}}, {0, api.OK, second{3, 0}},
		{limit, api.ErrFuel, second{limit + 3, -limit}}, {0, api.ErrFuel, second{limit + 3, -limit}}, {-1, api.ErrArg, second{limit + 3, -limit}},
	} {
		if err := s.charge(x.n); err != x.err || s != x.want {
			t.Error(at, err, s)
		}
	}
	for _, x := range [][2]int64{{least, 0}, {-1, 0}, {0, 0}, {1, 1}, {limit - 1, limit - 1}, {limit, limit}, {limit + 1, limit}, {most, limit}} {
		if n := had(x[0]); n != x[1] {
			t.Error(x, n)
		}
	}
}
