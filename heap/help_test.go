package heap

import (
	"math"
	"testing"

	"evenhand/api"
)

const (
	least = math.MinInt64
	most  = math.MaxInt64
)

// far are numbers as small, and as large, as may be; among them such as would be
// small ones, were they cut to fewer bits.
func far() []int64 {
	return []int64{
		least, least + 1, least + 4096, least / 2, -1<<32 - 1, -1 << 32, -1<<32 + 1, -1<<32 + 3, -1 << 31, -65536, -4097, -4096, -256, -5, -2, -1,
		1 << 16, 1<<16 + 1, 1 << 20, 1<<20 + 1, 1<<31 - 1, 1 << 31, 1<<32 - 1, 1 << 32, 1<<32 + 1, 1<<32 + 3, 1 << 61, 1<<61 + 1, 1 << 62, most - 4096, most - 1, most,
	}
}

// second is the chapter, told a second way: each array is a map of its own, with
// what was put into it.
type second struct {
	quota, used int64
	sizes       []int64
	puts        []map[int64]int64
}

func (s *second) make(n int64) (int, api.Errno) {
	if n <= 0 || n >= 4097 {
		return 0, api.ErrArg
	}
	if s.used+n > s.quota {
		return 0, api.ErrQuota
	}
	s.used += n
	s.sizes = append(s.sizes, n)
	s.puts = append(s.puts, map[int64]int64{})
	return len(s.sizes) - 1, api.OK
}

func (s *second) size(id int) int64 {
	if id < 0 || id >= len(s.sizes) {
		return 0
	}
	return s.sizes[id]
}

func (s *second) get(id int, i int64) (int64, bool) {
	if i < 0 || i >= s.size(id) {
		return 0, false
	}
	return s.puts[id][i], true
}

func (s *second) set(id int, i, v int64) bool {
	if i < 0 || i >= s.size(id) {
		return false
	}
	s.puts[id][i] = v
	return true
}

// pair is a heap, and what it should be.
type pair struct {
	*testing.T
	heap *Heap
	want second
}

// of is a heap with this quota, that is from 0 to 2^20, and with arrays of these
// sizes.
func of(t *testing.T, quota int64, sizes ...int64) *pair {
	t.Helper()
	p := &pair{T: t, heap: New(quota), want: second{quota: quota}}
	for _, n := range sizes {
		p.make(n)
	}
	return p
}

func (p *pair) make(n int64) api.Errno {
	p.Helper()
	id, err := p.heap.Make(n)
	wantID, wantErr := p.want.make(n)
	if id != wantID || err != wantErr {
		p.Fatalf("quota %d, sizes %v: Make(%d) is %d, %v, want %d, %v", p.want.quota, p.want.sizes, n, id, err, wantID, wantErr)
	}
	p.used()
	return wantErr
}

func (p *pair) get(id int, i int64) {
	p.Helper()
	n, ok := p.heap.Get(id, i)
	if want, wantOK := p.want.get(id, i); n != want || ok != wantOK {
		p.Fatalf("sizes %.9v: Get(%d, %d) is %d, %v, want %d, %v", p.want.sizes, id, i, n, ok, want, wantOK)
	}
}

func (p *pair) set(id int, i, v int64) {
	p.Helper()
	if ok, want := p.heap.Set(id, i, v), p.want.set(id, i, v); ok != want {
		p.Fatalf("sizes %.9v: Set(%d, %d, %d) is %v, want %v", p.want.sizes, id, i, v, ok, want)
	}
}

func (p *pair) len(id int) {
	p.Helper()
	if n, want := p.heap.Len(id), p.want.size(id); n != want {
		p.Fatalf("sizes %.9v: Len(%d) is %d, want %d", p.want.sizes, id, n, want)
	}
}

func (p *pair) used() {
	p.Helper()
	if n := p.heap.Used(); n != p.want.used {
		p.Fatalf("sizes %.9v: Used is %d, want %d", p.want.sizes, n, p.want.used)
	}
}

// all asks of all that a heap has, and of what is around it.
func (p *pair) all() {
	p.Helper()
	p.used()
	for id := -2; id < len(p.want.sizes)+2; id++ {
		p.len(id)
		for i := int64(-2); i < p.want.size(id)+2; i++ {
			p.get(id, i)
		}
	}
}

// fill puts into each cell a number that no other one has.
func (p *pair) fill() {
	p.Helper()
	for id, size := range p.want.sizes {
		for i := range size {
			p.set(id, i, int64(id)*10000+i+1)
		}
	}
}

// ids are ids of arrays that are not there.
func (p *pair) ids() (l []int) {
	for _, n := range append(far(), 4095, 4096, 4097) {
		l = append(l, int(n), len(p.want.sizes)+int(n)&0xffff)
	}
	return append(l, -1, -len(p.want.sizes), -len(p.want.sizes)-1, len(p.want.sizes), len(p.want.sizes)+1)
}

// The second way sees what is wrong: else it would prove nothing.
func TestK1SecondWay(t *testing.T) {
	s := second{quota: 5}
	for _, x := range []struct {
		n   int64
		id  int
		err api.Errno
	}{{0, 0, api.ErrArg}, {3, 0, api.OK}, {3, 0, api.ErrQuota}, {4097, 0, api.ErrArg}, {2, 1, api.OK}, {1, 0, api.ErrQuota}} {
		if id, err := s.make(x.n); id != x.id || err != x.err {
			t.Error(x, id, err)
		}
	}
	if s.set(0, 3, 9) || s.set(2, 0, 9) || !s.set(1, 0, 9) || s.size(0) != 3 || s.size(1) != 2 || s.size(2) != 0 || s.used != 5 {
		t.Error(s)
	}
	if n, ok := s.get(1, 0); n != 9 || !ok {
		t.Error(n, ok)
	}
	if n, ok := s.get(0, 2); n != 0 || !ok {
		t.Error(n, ok)
	}
}
