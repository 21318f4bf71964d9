package meter

import (
	"testing"

	"evenhand/api"
)

// step is a charge, and what is told behind it.
type step struct {
	n    int64
	err  api.Errno
	now  int64
	over bool
}

func steps(t *testing.T, m *Meter, l ...step) {
	t.Helper()
	for at, x := range l {
		if err := m.Charge(x.n); err != x.err {
			t.Errorf("%d: Charge(%d) is %v, want %v", at, x.n, err, x.err)
		}
		if now := m.Now(); now != x.now {
			t.Errorf("%d: behind Charge(%d) Now is %d, want %d", at, x.n, now, x.now)
		}
		if over := m.Over(); over != x.over {
			t.Errorf("%d: behind Charge(%d) Over is %v, want %v", at, x.n, over, x.over)
		}
	}
}

// L1: the chapter's example.
func TestL1Example(t *testing.T) {
	m := New(3)
	if err := m.Charge(2); err != api.OK {
		t.Error(err)
	}
	if err := m.Charge(2); err != api.ErrFuel {
		t.Error(err)
	}
	if now := m.Now(); now != 4 {
		t.Error(now)
	}
	if err := m.Charge(1); err != api.ErrFuel {
		t.Error(err)
	}
	if now := m.Now(); now != 4 {
		t.Error(now)
	}
}

// L1: a clock begins at 0, and is not over.
func TestL1Begins(t *testing.T) {
	for _, fuel := range []int64{0, 1, 2, 100, limit} {
		if m := New(fuel); m.Now() != 0 || m.Over() {
			t.Errorf("New(%d): %d, %v", fuel, m.Now(), m.Over())
		}
	}
}

// L1: several charges, one behind the other.
func TestL1Charges(t *testing.T) {
	steps(t, New(100),
		step{1, api.OK, 1, false}, step{2, api.OK, 3, false}, step{40, api.OK, 43, false}, step{0, api.OK, 43, false},
		step{57, api.OK, 100, false}, step{0, api.OK, 100, false}, step{30, api.ErrFuel, 130, true}, step{1, api.ErrFuel, 130, true},
	)
	steps(t, New(100), step{99, api.OK, 99, false}, step{1, api.OK, 100, false}, step{1, api.ErrFuel, 101, true}, step{1, api.ErrFuel, 101, true})
	steps(t, New(100), step{99, api.OK, 99, false}, step{2, api.ErrFuel, 101, true})
	steps(t, New(100), step{101, api.ErrFuel, 101, true}, step{0, api.ErrFuel, 101, true})
}

// L1: the same charge again and again, until the fuel is used up.
func TestL1SameCharge(t *testing.T) {
	for _, fuel := range []int64{0, 1, 2, 3, 6, 7, 59, 60, 61, 1000} {
		for _, n := range []int64{1, 2, 3, 7, 60, 1001} {
			m, done := New(fuel), int64(0)
			for done += n; done <= fuel; done += n {
				if err := m.Charge(n); err != api.OK || m.Now() != done || m.Over() {
					t.Fatalf("New(%d), Charge(%d): %v, %d, %v", fuel, n, err, m.Now(), m.Over())
				}
			}
			for range 3 {
				if err := m.Charge(n); err != api.ErrFuel || m.Now() != done || !m.Over() {
					t.Fatalf("New(%d), Charge(%d): %v, %d, %v, want %d", fuel, n, err, m.Now(), m.Over(), done)
				}
			}
		}
	}
}

// L1: Now and Over change nothing, however often they are asked.
func TestL1Asked(t *testing.T) {
	m := New(2)
	for charges, want := range []struct {
		now  int64
		over bool
	}{{0, false}, {1, false}, {2, false}, {3, true}, {3, true}} {
		for range 100 {
			if now, over := m.Now(), m.Over(); now != want.now || over != want.over {
				t.Fatal(charges, now, over)
			}
		}
		m.Charge(1)
	}
}

// L1, R4: the same calls have the same answers.
func TestL1Again(t *testing.T) {
	for range 50 {
		steps(t, New(9),
			step{4, api.OK, 4, false}, step{-4, api.ErrArg, 4, false}, step{limit + 1, api.ErrArg, 4, false}, step{5, api.OK, 9, false},
			step{limit, api.ErrFuel, limit + 9, true}, step{least, api.ErrArg, limit + 9, true}, step{0, api.ErrFuel, limit + 9, true},
		)
	}
}
