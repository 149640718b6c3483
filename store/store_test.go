package store_test

import (
	"math"
	"math/rand"
	"slices"
	"strconv"
	"testing"

	"tipstaff/api"
	"tipstaff/store"
	"tipstaff/value"
)

const latest = 1 << 40

func text(s string) api.Value { return api.Value{Kind: api.KText, S: s} }

// samples are values of each kind but KNone.
func samples() []api.Value {
	return []api.Value{
		text("x"), text(""),
		{Kind: api.KList, L: []string{"b", "a", "b"}},
		{Kind: api.KHash, H: []api.Pair{{Name: "a", Val: "1"}, {Name: "b", Val: "2"}}},
		{Kind: api.KSet, L: []string{"a", "b"}},
		{Kind: api.KSorted, Z: []api.Mark{{Name: "b", N: 1}, {Name: "a", N: 2}}},
	}
}

// with makes a store whose keys have the texts of their names.
func with(keys ...string) *store.Store {
	s := store.New()
	for _, key := range keys {
		s.Put(key, text(key))
	}
	return s
}

func has(t *testing.T, s *store.Store, key string, want api.Value) {
	t.Helper()
	if v := s.Get(key); !value.Same(v, want) {
		t.Errorf("Get(%q) = %v, not %v", key, v, want)
	}
}

func none(t *testing.T, s *store.Store, keys ...string) {
	t.Helper()
	for _, key := range keys {
		has(t, s, key, api.Value{})
		due(t, s, key, 0, false)
	}
}

func due(t *testing.T, s *store.Store, key string, at int, on bool) {
	t.Helper()
	if n, ok := s.Due(key); n != at || ok != on {
		t.Errorf("Due(%q) = %d, %v, not %d, %v", key, n, ok, at, on)
	}
}

func setDue(t *testing.T, s *store.Store, key string, at int, on, want bool) {
	t.Helper()
	if s.SetDue(key, at, on) != want {
		t.Errorf("SetDue(%q, %d, %v) is not %v", key, at, on, want)
	}
}

func now(t *testing.T, s *store.Store, want int) {
	t.Helper()
	if n := s.Now(); n != want {
		t.Errorf("Now() = %d, not %d", n, want)
	}
}

func keys(t *testing.T, s *store.Store, want ...string) {
	t.Helper()
	if l := s.Keys(); !slices.Equal(l, want) {
		t.Errorf("Keys() = %q, not %q", l, want)
	}
}

func version(t *testing.T, s *store.Store, key string, want int) {
	t.Helper()
	if n := s.Version(key); n != want {
		t.Errorf("Version(%q) = %d, not %d", key, n, want)
	}
}

func held(t *testing.T, s *store.Store, want int) {
	t.Helper()
	if n := s.Held(); n != want {
		t.Errorf("Held() = %d, not %d", n, want)
	}
}

func purge(t *testing.T, s *store.Store, want int) {
	t.Helper()
	if n := s.Purge(); n != want {
		t.Errorf("Purge() = %d, not %d", n, want)
	}
}

// P10.1: a new store has nothing, and each is one of its own.
func TestNew(t *testing.T) {
	for _, s := range []*store.Store{store.New(), {}} {
		now(t, s, 0)
		keys(t, s)
		held(t, s, 0)
		purge(t, s, 0)
		none(t, s, "", "a")
		version(t, s, "a", 0)
		setDue(t, s, "a", 9, true, false)
		setDue(t, s, "a", 9, false, false)
		s.Put("a", api.Value{})
		s.Tick(3)
		now(t, s, 3)
		none(t, s, "", "a")
		version(t, s, "a", 0)
		held(t, s, 0)
		s.Put("a", text("1"))
		setDue(t, s, "a", 4, true, true)
		s.Tick(1)
		held(t, s, 1)
	}
	one, other := store.New(), store.New()
	one.Put("a", text("1"))
	one.Tick(7)
	none(t, other, "a")
	now(t, other, 0)
	version(t, other, "a", 0)
}

// P10.1: what was put is got, whatever its kind and its key, and in place of what was there.
func TestPutGet(t *testing.T) {
	s := store.New()
	for _, key := range []string{"a", "", "A", "a ", "a\x00", "\xff\r\n", "\u00e9"} {
		none(t, s, key)
		for _, v := range samples() {
			s.Put(key, v)
			has(t, s, key, v)
			has(t, s, key, v)
			due(t, s, key, 0, false)
		}
	}
	held(t, s, 7)
	for _, v := range samples() {
		for _, w := range samples() {
			s.Put("a", v)
			s.Put("a", w)
			has(t, s, "a", w)
		}
	}
}

// P10.1: of KNone it is gone, with its deadline.
func TestPutNone(t *testing.T) {
	for _, v := range append(samples(), api.Value{}) {
		s := with("b")
		s.Put("a", v)
		s.SetDue("a", 9, true)
		s.Put("a", api.Value{L: []string{}, H: []api.Pair{}, Z: []api.Mark{}})
		none(t, s, "a")
		keys(t, s, "b")
		held(t, s, 1)
		s.Put("a", text("new"))
		due(t, s, "a", 0, false)
		s.Tick(10)
		has(t, s, "a", text("new"))
	}
}

// P10.1: a Put leaves a deadline as it is.
func TestPutKeepsDue(t *testing.T) {
	for _, v := range samples() {
		s := with("a")
		setDue(t, s, "a", 5, true, true)
		s.Put("a", v)
		due(t, s, "a", 5, true)
		s.Tick(4)
		s.Put("a", text("2"))
		due(t, s, "a", 5, true)
		s.Tick(1)
		none(t, s, "a")
	}
}

// P10.1: deadlines are set, set anew, and taken away, of keys that there are alone.
func TestSetDue(t *testing.T) {
	s := with("a", "b")
	due(t, s, "a", 0, false)
	for _, at := range []int{9, 3, 1, 9, latest, latest + 1, math.MaxInt} {
		setDue(t, s, "a", at, true, true)
		due(t, s, "a", at, true)
		has(t, s, "a", text("a"))
	}
	for _, at := range []int{0, -1, 5, math.MinInt, math.MaxInt} {
		setDue(t, s, "a", 9, true, true)
		setDue(t, s, "a", at, false, true)
		due(t, s, "a", 0, false)
		setDue(t, s, "a", at, false, true)
		due(t, s, "a", 0, false)
		has(t, s, "a", text("a"))
	}
	s.Tick(20)
	keys(t, s, "a", "b")
	for _, at := range []int{30, 20, 0, math.MinInt} {
		setDue(t, s, "c", at, true, false)
		setDue(t, s, "c", at, false, false)
	}
	none(t, s, "c")
	held(t, s, 2)
}

// P10.1: a deadline that is not above the time is past at once.
func TestSetDuePast(t *testing.T) {
	for _, start := range []int{0, 7, latest} {
		for _, at := range []int{start, start - 1, 0, -1, -latest, math.MinInt} {
			for _, first := range []bool{false, true} {
				s := with("a", "b")
				s.Tick(start)
				if first {
					setDue(t, s, "a", start+1, true, true)
				}
				setDue(t, s, "a", at, true, true)
				keys(t, s, "b")
				held(t, s, 1)
				purge(t, s, 0)
				none(t, s, "a")
				setDue(t, s, "a", start+1, true, false)
				s.Put("a", text("new"))
				due(t, s, "a", 0, false)
			}
		}
		s := with("a")
		s.Tick(start)
		setDue(t, s, "a", start+1, true, true)
		due(t, s, "a", start+1, true)
		keys(t, s, "a")
	}
}

// P10.2: the time goes on, and neither back nor past its end.
func TestNow(t *testing.T) {
	s := store.New()
	for _, x := range [][2]int{{0, 0}, {1, 1}, {0, 1}, {-1, 1}, {41, 42}, {-42, 42}, {math.MinInt, 42}, {latest - 44, latest - 2}, {1, latest - 1},
		{-latest, latest - 1}, {2, latest}, {1, latest}, {math.MaxInt, latest}, {math.MinInt, latest}, {0, latest}} {
		s.Tick(x[0])
		now(t, s, x[1])
	}
	for _, n := range []int{latest, latest + 1, 1 << 62, math.MaxInt} {
		s := store.New()
		s.Tick(n)
		now(t, s, latest)
		s = store.New()
		s.Tick(5)
		s.Tick(n)
		now(t, s, latest)
		s.Tick(n)
		now(t, s, latest)
	}
}

// P10.2: keys whose deadline is not above the time are gone, no sooner.
func TestTick(t *testing.T) {
	s := with("a", "b", "c", "d", "e")
	for key, at := range map[string]int{"a": 5, "b": 6, "c": 5, "d": 100} {
		setDue(t, s, key, at, true, true)
	}
	s.Tick(4)
	keys(t, s, "a", "b", "c", "d", "e")
	s.Tick(0)
	s.Tick(-9)
	keys(t, s, "a", "b", "c", "d", "e")
	s.Tick(1)
	keys(t, s, "b", "d", "e")
	s.Tick(50)
	keys(t, s, "d", "e")
	due(t, s, "d", 100, true)
	s.Tick(math.MaxInt)
	keys(t, s, "e")
	none(t, s, "a", "b", "c", "d")
	has(t, s, "e", text("e"))
}

// P10.2: what is due where the time ends is gone then, what is due later never is.
func TestTickEnd(t *testing.T) {
	s := with("a", "b", "c")
	s.SetDue("a", latest, true)
	s.SetDue("b", latest+1, true)
	s.SetDue("c", math.MaxInt, true)
	s.Tick(latest - 1)
	keys(t, s, "a", "b", "c")
	s.Tick(1)
	keys(t, s, "b", "c")
	s.Tick(math.MaxInt)
	keys(t, s, "b", "c")
	due(t, s, "b", latest+1, true)
	due(t, s, "c", math.MaxInt, true)
}

// P10.2: a deadline that was taken away, or put off, is none.
func TestTickLeaves(t *testing.T) {
	s := with("a", "b", "c")
	for _, key := range []string{"a", "b", "c"} {
		s.SetDue(key, 5, true)
	}
	s.SetDue("a", 0, false)
	s.SetDue("b", 9, true)
	s.Tick(5)
	keys(t, s, "a", "b")
	s.Tick(4)
	keys(t, s, "a")
	// What is put behind that begins without one.
	s.Put("b", text("new"))
	s.Put("c", text("new"))
	s.Tick(100)
	keys(t, s, "a", "b", "c")
}

// P10.2: keys rise, byte by byte, in whichever order they come.
func TestKeys(t *testing.T) {
	want := []string{"", "\x00", "\n", "10", "9", "A", "a", "a\x00", "aa", "ab", "b", "\x7f", "\xc3\xa9", "\xef\xbf\xbf", "\xf0\x90\x80\x80", "\xff"}
	for seed := range int64(20) {
		s := store.New()
		for _, i := range rand.New(rand.NewSource(seed)).Perm(len(want)) {
			s.Put(want[i], text("v"))
		}
		keys(t, s, want...)
	}
	s := with("b", "a", "b", "c")
	s.Put("a", api.Value{})
	keys(t, s, "b", "c")
	l := s.Keys()
	l[0] = "x"
	keys(t, s, "b", "c")
	s.Put("b", api.Value{})
	s.Put("c", api.Value{})
	keys(t, s)
	// No value that may be is too little to be there.
	s.Put("a", text(""))
	keys(t, s, "a")
}

// P10.3: each Put counts, of KNone where there was a value alone.
func TestVersionPut(t *testing.T) {
	s := store.New()
	version(t, s, "a", 0)
	s.Put("a", api.Value{})
	version(t, s, "a", 0)
	s.Put("a", text("1"))
	version(t, s, "a", 1)
	s.Put("a", text("1"))
	version(t, s, "a", 2)
	for i, v := range samples() {
		s.Put("a", v)
		version(t, s, "a", 3+i)
	}
	n := s.Version("a")
	s.SetDue("a", 9, true)
	s.Put("a", api.Value{})
	version(t, s, "a", n+2)
	s.Put("a", api.Value{})
	version(t, s, "a", n+2)
	s.Put("a", text("1"))
	version(t, s, "a", n+3)
	version(t, s, "b", 0)
}

// P10.3: each SetDue that tells true counts, one by which the key is gone too, once.
func TestVersionSetDue(t *testing.T) {
	s := with("a")
	for i, x := range []struct {
		at int
		on bool
	}{{9, true}, {9, true}, {9, false}, {9, false}, {0, false}, {5, true}, {math.MinInt, false}} {
		setDue(t, s, "a", x.at, x.on, true)
		version(t, s, "a", 2+i)
	}
	setDue(t, s, "a", 5, true, true)
	version(t, s, "a", 9)
	setDue(t, s, "a", 0, true, true)
	version(t, s, "a", 10)
	setDue(t, s, "a", 0, true, false)
	setDue(t, s, "a", 9, true, false)
	setDue(t, s, "a", 0, false, false)
	version(t, s, "a", 10)
	s.Tick(100)
	version(t, s, "a", 10)
	setDue(t, s, "b", 9, true, false)
	version(t, s, "b", 0)
}

// P10.3: being gone by a Tick counts once, at the Tick; what only looks does not.
func TestVersionTick(t *testing.T) {
	s := with("a", "b")
	s.SetDue("a", 5, true)
	s.Tick(4)
	version(t, s, "a", 2)
	s.Tick(1)
	version(t, s, "a", 3)
	version(t, s, "b", 1)
	s.Tick(10)
	version(t, s, "a", 3)
	for range 3 {
		s.Get("a")
		s.Due("a")
		s.Get("b")
		s.Due("b")
		s.Keys()
		s.Held()
		s.Purge()
		s.Now()
	}
	version(t, s, "a", 3)
	version(t, s, "b", 1)
	s.Put("a", text("1"))
	version(t, s, "a", 4)
}

// P10.4: keys that a Tick ends are held until all are let go of.
func TestHeldPurge(t *testing.T) {
	s := with("a", "b", "c", "d")
	for i, key := range []string{"a", "b", "c"} {
		s.SetDue(key, 5+i, true)
	}
	held(t, s, 4)
	purge(t, s, 0)
	s.Tick(6)
	keys(t, s, "c", "d")
	held(t, s, 4)
	s.Tick(0)
	held(t, s, 4)
	purge(t, s, 2)
	held(t, s, 2)
	purge(t, s, 0)
	s.Tick(1)
	held(t, s, 2)
	purge(t, s, 1)
	held(t, s, 1)
	version(t, s, "a", 3)
	version(t, s, "c", 3)
	has(t, s, "d", text("d"))
	// What stands in the examples.
	s = with("a")
	s.SetDue("a", 5, true)
	s.Tick(4)
	has(t, s, "a", text("a"))
	s.Tick(1)
	held(t, s, 1)
	purge(t, s, 1)
	none(t, s, "a")
}

// P10.4: a key that is held is let go of by what is asked or done of it, which tells and counts as if it were gone altogether.
func TestHeldOne(t *testing.T) {
	for name, x := range map[string]struct {
		do      func(s *store.Store)
		held    int
		version int
	}{
		"Get":          {func(s *store.Store) { has(t, s, "a", api.Value{}) }, 2, 3},
		"Due":          {func(s *store.Store) { due(t, s, "a", 0, false) }, 2, 3},
		"SetDue on":    {func(s *store.Store) { setDue(t, s, "a", 99, true, false) }, 2, 3},
		"SetDue past":  {func(s *store.Store) { setDue(t, s, "a", 0, true, false) }, 2, 3},
		"SetDue off":   {func(s *store.Store) { setDue(t, s, "a", 0, false, false) }, 2, 3},
		"Put of none":  {func(s *store.Store) { s.Put("a", api.Value{}) }, 2, 3},
		"Put":          {func(s *store.Store) { s.Put("a", text("new")) }, 3, 4},
		"Keys":         {func(s *store.Store) { s.Keys() }, 3, 3},
		"Version":      {func(s *store.Store) { s.Version("a") }, 3, 3},
		"Held":         {func(s *store.Store) { s.Held() }, 3, 3},
		"Tick":         {func(s *store.Store) { s.Tick(1) }, 3, 3},
		"Now":          {func(s *store.Store) { s.Now() }, 3, 3},
		"Get of c":     {func(s *store.Store) { s.Get("c") }, 3, 3},
		"Get of d":     {func(s *store.Store) { s.Get("d") }, 3, 3},
		"Put of c":     {func(s *store.Store) { s.Put("c", text("c")) }, 3, 3},
		"SetDue of c":  {func(s *store.Store) { s.SetDue("c", 99, true) }, 3, 3},
		"Purge of all": {func(s *store.Store) { purge(t, s, 2) }, 1, 3},
	} {
		s := with("a", "b", "c")
		s.SetDue("a", 5, true)
		s.SetDue("b", 5, true)
		s.Tick(5)
		x.do(s)
		if n := s.Held(); n != x.held {
			t.Errorf("behind %s %d are held, not %d", name, n, x.held)
		}
		if n := s.Version("a"); n != x.version {
			t.Errorf("behind %s the version is %d, not %d", name, n, x.version)
		}
		s.Purge()
		if n := s.Version("a"); n != x.version {
			t.Errorf("behind %s and a Purge the version is %d, not %d", name, n, x.version)
		}
		due(t, s, "a", 0, false)
	}
}

// P10.4: a key that was held, and is put, is one that has a value, and is held again when a Tick ends it anew.
func TestHeldAgain(t *testing.T) {
	s := with("a")
	for i := range 3 {
		at := 5 * (i + 1)
		setDue(t, s, "a", at, true, true)
		s.Tick(5)
		held(t, s, 1)
		keys(t, s)
		s.Put("a", text("new"))
		held(t, s, 1)
		purge(t, s, 0)
		has(t, s, "a", text("new"))
		due(t, s, "a", 0, false)
		version(t, s, "a", 1+3*(i+1))
	}
	// What is gone otherwise is not held.
	s.Put("a", api.Value{})
	held(t, s, 0)
	s.Put("a", text("new"))
	setDue(t, s, "a", 15, true, true)
	held(t, s, 0)
	purge(t, s, 0)
}

// P10.5: whatever is done with other keys, what is told of one is the same.
func TestApart(t *testing.T) {
	for seed := range int64(300) {
		chance := rand.New(rand.NewSource(seed))
		both, alone := store.New(), store.New()
		for range 60 {
			key := []string{"a", "b", "ab", ""}[chance.Intn(4)]
			do := some(chance, key, both.Now())
			told := do(both)
			if key == "a" || key == tick {
				if want := do(alone); told != want {
					t.Fatalf("of a is told %q, not %q", told, want)
				}
			}
			if both.Version("a") != alone.Version("a") || slices.Contains(both.Keys(), "a") != slices.Contains(alone.Keys(), "a") {
				t.Fatalf("a hangs on %q", key)
			}
		}
		if !value.Same(both.Get("a"), alone.Get("a")) {
			t.Fatal("a is another")
		}
	}
}

// P10.1 and R7: rows that were handed in, and that were told, are written into, and nobody else sees it.
func TestRowsApart(t *testing.T) {
	spoil := func(v api.Value) {
		_, _, _ = append(v.L, "x"), append(v.H, api.Pair{Name: "x"}), append(v.Z, api.Mark{N: 9})
		for i := range v.L {
			v.L[i] = "x"
		}
		for i := range v.H {
			v.H[i] = api.Pair{Name: "x", Val: "x"}
		}
		for i := range v.Z {
			v.Z[i] = api.Mark{Name: "x", N: 9}
		}
	}
	for i, v := range samples() {
		s := store.New()
		s.Put("a", v)
		has(t, s, "a", samples()[i])
		if !value.Same(v, samples()[i]) {
			t.Errorf("%v became %v", samples()[i], v)
		}
		spoil(v)
		has(t, s, "a", samples()[i])
		told := s.Get("a")
		spoil(s.Get("a"))
		has(t, s, "a", samples()[i])
		s.Put("b", told)
		s.Put("a", text("new"))
		spoil(s.Get("b"))
		if !value.Same(told, samples()[i]) {
			t.Errorf("%v became %v", samples()[i], told)
		}
		has(t, s, "b", samples()[i])
	}
}

// P10.2 and P10.4: many keys.
func TestMany(t *testing.T) {
	const many = 20000
	s := store.New()
	for i := range many {
		key := strconv.Itoa(many + i)
		s.Put(key, text(key))
		s.SetDue(key, 1+i, true)
	}
	for i := 1; i <= 10; i++ {
		s.Tick(many / 10)
		if n := len(s.Keys()); n != many-i*many/10 {
			t.Fatalf("%d keys behind %d ticks", n, i)
		}
		if i%2 == 0 {
			purge(t, s, many/5)
			held(t, s, many-i*many/10)
		} else {
			held(t, s, many-(i-1)*many/10)
		}
	}
	version(t, s, strconv.Itoa(many), 3)
}
