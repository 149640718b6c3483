package store_test

import (
	"fmt"
	"math"
	"math/rand"
	"slices"
	"testing"

	"tipstaff/api"
	"tipstaff/store"
	"tipstaff/value"
)

// face is what a store and its model are asked for.
type face interface {
	Get(key string) api.Value
	Put(key string, v api.Value)
	Due(key string) (int, bool)
	SetDue(key string, at int, on bool) bool
	Tick(n int)
	Now() int
	Keys() []string
	Version(key string) int
	Purge() int
	Held() int
}

// one is all that was of one key.
type one struct {
	key         string
	v           api.Value
	due         int
	timed, held bool
	n           int
}

// model is a store read out of the document word by word: one row of keys, which is gone through each time.
type model struct {
	time int
	all  []*one
}

func (m *model) at(key string) *one {
	for _, o := range m.all {
		if o.key == key {
			return o
		}
	}
	o := &one{key: key}
	m.all = append(m.all, o)
	return o
}

func (m *model) free(key string) *one {
	o := m.at(key)
	o.held = false
	return o
}

func (o *one) gone() { o.v, o.due, o.timed = api.Value{}, 0, false }

func (m *model) Get(key string) api.Value { return m.free(key).v }

func (m *model) Put(key string, v api.Value) {
	o := m.free(key)
	if v.Kind != api.KNone || o.v.Kind != api.KNone {
		o.n++
	}
	o.v = v
	if v.Kind == api.KNone {
		o.gone()
	}
}

func (m *model) Due(key string) (int, bool) {
	o := m.free(key)
	return o.due, o.timed
}

func (m *model) SetDue(key string, at int, on bool) bool {
	o := m.free(key)
	if o.v.Kind == api.KNone {
		return false
	}
	o.n++
	o.due, o.timed = 0, on
	if on {
		o.due = at
	}
	if on && at <= m.time {
		o.gone()
	}
	return true
}

func (m *model) Tick(n int) {
	for m.time < latest && n > 0 {
		step := min(n, latest-m.time)
		m.time, n = m.time+step, n-step
	}
	for _, o := range m.all {
		if o.timed && o.due <= m.time {
			o.gone()
			o.held = true
			o.n++
		}
	}
}

func (m *model) Now() int { return m.time }

func (m *model) Keys() []string {
	var l []string
	for _, o := range m.all {
		if o.v.Kind != api.KNone {
			l = append(l, o.key)
		}
	}
	slices.Sort(l)
	return l
}

func (m *model) Version(key string) int { return m.at(key).n }

func (m *model) Purge() int {
	many := 0
	for _, o := range m.all {
		if o.held {
			o.held = false
			many++
		}
	}
	return many
}

func (m *model) Held() int {
	many := len(m.Keys())
	for _, o := range m.all {
		if o.held {
			many++
		}
	}
	return many
}

// tick is the key of what is done with all keys.
const tick = ""

// some is one thing to do with a key, and tells what comes of it.
func some(chance *rand.Rand, key string, now int) func(face) string {
	at := now + chance.Intn(12) - 3
	n := chance.Intn(5) - 1
	if chance.Intn(200) == 0 {
		at = []int{math.MinInt, math.MaxInt, latest, latest + 1}[chance.Intn(4)]
		n = []int{math.MinInt, math.MaxInt, latest, latest - now - 3}[chance.Intn(4)]
	}
	v := append(samples(), api.Value{}, api.Value{})[chance.Intn(8)]
	if key == tick {
		return func(s face) string {
			s.Tick(n)
			return fmt.Sprint("Tick ", n, s.Now())
		}
	}
	switch chance.Intn(7) {
	case 0:
		return func(s face) string { return fmt.Sprint("Get ", s.Get(key)) }
	case 1, 2:
		return func(s face) string {
			s.Put(key, v)
			return fmt.Sprint("Put ", v)
		}
	case 3:
		return func(s face) string {
			at, ok := s.Due(key)
			return fmt.Sprint("Due ", at, ok)
		}
	case 4:
		return func(s face) string { return fmt.Sprint("SetDue off ", s.SetDue(key, at, false)) }
	default:
		return func(s face) string { return fmt.Sprint("SetDue ", at, s.SetDue(key, at, true)) }
	}
}

// look tells what may be asked without letting go of anything.
func look(s face, keys []string) string {
	told := fmt.Sprintf("%d %d %q", s.Now(), s.Held(), s.Keys())
	for _, key := range keys {
		told += fmt.Sprint(" ", s.Version(key))
	}
	return told
}

// P10.1 to P10.4: rows of all that may be done, held against the model.
func TestModel(t *testing.T) {
	names := []string{"a", "b", "ab", "c", tick}
	for seed := range int64(400) {
		chance := rand.New(rand.NewSource(seed))
		s, m := store.New(), new(model)
		var done []string
		for range 150 {
			key := names[chance.Intn(len(names))]
			do := some(chance, key, m.Now())
			if chance.Intn(15) == 0 {
				do = func(s face) string { return fmt.Sprint("Purge ", s.Purge()) }
			}
			told, want := do(s), do(m)
			done = append(done, key+": "+want)
			if told != want || look(s, names) != look(m, names) {
				t.Fatalf("behind %q: %s, %s, not %s, %s", done, told, look(s, names), want, look(m, names))
			}
		}
		for _, key := range names {
			if !value.Same(s.Get(key), m.Get(key)) {
				t.Fatalf("behind %q: Get(%q) = %v, not %v", done, key, s.Get(key), m.Get(key))
			}
		}
	}
}
