package user_test

import (
	"fmt"
	"math/rand"
	"slices"
	"strings"
	"testing"

	"tipstaff/api"
	"tipstaff/glob"
	"tipstaff/mac"
	"tipstaff/rule"
	"tipstaff/table"
	"tipstaff/user"
)

const all = 1<<56 - 1

// names are the commands' names at their ids, by the document's table.
func names() []string {
	return strings.Fields(`get set append strlen incrby incr getdel mget mset
		lpush rpush lpop rpop llen lrange
		hset hget hdel hlen hgetall hincrby
		sadd srem sismember smembers scard smove
		zadd zrem zscore zrange zcard zincrby
		del exists type expire ttl persist rename keys dbsize flushall
		ping echo auth quit
		multi exec discard watch unwatch
		subscribe unsubscribe publish
		acl`)
}

// record is one of a password that is cheap to check.
func record(t *testing.T, pass, salt string) string {
	t.Helper()
	r, ok := mac.Record(pass, []byte(salt), 1)
	if !ok {
		t.Fatal("no record of", pass, salt)
	}
	return r
}

// sum is a record of no known password: only its form counts.
func sum(n int) string { return fmt.Sprintf("1::%064x", n) }

// sums are as many records, no two the same.
func sums(many int) []string {
	var l []string
	for n := range many {
		l = append(l, sum(n))
	}
	return l
}

func pats(many int) []string {
	var l []string
	for n := range many {
		l = append(l, fmt.Sprintf("p%d", n))
	}
	return l
}

func globs(r, w bool, pats ...string) []api.Glob {
	var l []api.Glob
	for _, p := range pats {
		l = append(l, api.Glob{Pat: p, R: r, W: w})
	}
	return l
}

// clone shares no list with u.
func clone(u api.User) api.User {
	u.Hashes, u.Keys, u.Chans = slices.Clone(u.Hashes), slices.Clone(u.Keys), slices.Clone(u.Chans)
	return u
}

// alike takes a list that is empty for one that is nil.
func alike(a, b api.User) bool {
	return a.Name == b.Name && a.On == b.On && a.NoPass == b.NoPass && a.Cmds == b.Cmds &&
		slices.Equal(a.Hashes, b.Hashes) && slices.Equal(a.Keys, b.Keys) && slices.Equal(a.Chans, b.Chans)
}

// spoil writes into all lists of a user, and behind them.
func spoil(u api.User) {
	for i := range u.Hashes[:cap(u.Hashes)] {
		u.Hashes[:cap(u.Hashes)][i] = "spoilt"
	}
	for i := range u.Keys[:cap(u.Keys)] {
		u.Keys[:cap(u.Keys)][i] = api.Glob{Pat: "spoilt"}
	}
	for i := range u.Chans[:cap(u.Chans)] {
		u.Chans[:cap(u.Chans)][i] = "spoilt"
	}
}

// asked applies a rule, and sees that neither sees what becomes of the other's.
func asked(t *testing.T, u api.User, r api.Rule, salt []byte, rounds int) (api.User, bool) {
	t.Helper()
	was, wasSalt := clone(u), string(salt)
	got, ok := user.Apply(u, r, salt, rounds)
	told := clone(got)
	spoil(got)
	if !alike(u, was) || string(salt) != wasSalt {
		t.Fatalf("Apply(%+v, %+v) changed what was handed in: %+v, %q", was, r, u, salt)
	}
	again, okAgain := user.Apply(u, r, salt, rounds)
	if !alike(again, told) || ok != okAgain {
		t.Fatalf("Apply(%+v, %+v) told %+v, %v, and then %+v, %v", was, r, told, ok, again, okAgain)
	}
	return told, ok
}

// does asks for what a rule makes of u.
func does(t *testing.T, u api.User, r api.Rule, want api.User) {
	t.Helper()
	if got, ok := asked(t, u, r, []byte("salt"), 1); !ok || !alike(got, want) {
		t.Errorf("Apply(%+v, %+v) = %+v, %v, not %+v, true", u, r, got, ok, want)
	}
}

// stays asks that a rule is refused: u stays as it is.
func stays(t *testing.T, u api.User, r api.Rule, salt []byte, rounds int) {
	t.Helper()
	if got, ok := asked(t, u, r, salt, rounds); ok || !alike(got, u) {
		t.Errorf("Apply(%+v, %+v, %q, %d) = %+v, %v, not as it was, false", u, r, salt, rounds, got, ok)
	}
}

// by applies rules, told as words.
func by(t *testing.T, u api.User, words ...string) api.User {
	t.Helper()
	for _, word := range words {
		r, ok := rule.Parse(word)
		if !ok {
			t.Fatalf("%q is no rule", word)
		}
		next, ok := asked(t, u, r, []byte("salt"), 1)
		if !ok || !user.Right(next) {
			t.Fatalf("%q of %+v: %+v, %v", word, u, next, ok)
		}
		u = next
	}
	return u
}

// full has as many of each list as there may be.
func full() api.User {
	return api.User{Name: "full", On: true, Hashes: sums(64), Cmds: all, Keys: globs(true, false, pats(64)...), Chans: pats(64)}
}

// some has something of all, so that it is seen what a rule leaves.
func some() api.User {
	return api.User{Name: "some", Hashes: sums(2), Cmds: 1<<3 | 1<<50, Keys: globs(false, true, "a*", "b"), Chans: []string{"c", "d?"}}
}

// P18.1: a new user has nothing but the name, whatever it is.
func TestNew(t *testing.T) {
	for _, name := range []string{"", "bob", "a b", "\x00\xff", strings.Repeat("n", 100)} {
		if u := user.New(name); !alike(u, api.User{Name: name}) {
			t.Errorf("New(%q) = %+v", name, u)
		}
	}
}

func right(t *testing.T, u api.User, want bool) {
	t.Helper()
	was := clone(u)
	if got := user.Right(u); got != want {
		t.Errorf("Right(%+v) = %v", u, got)
	}
	if !alike(u, was) {
		t.Errorf("Right(%+v) made it %+v", was, u)
	}
}

// P18.1: a name is a word of at most 32 bytes.
func TestRightName(t *testing.T) {
	for _, name := range []string{"a", "default", "!", "~", "A-Z", "user", "nopass", strings.Repeat("n", 31), strings.Repeat("n", 32)} {
		right(t, user.New(name), true)
	}
	for _, name := range []string{"", " ", "a b", "a ", " a", "a\n", "\x00", "\x7f", "\x80", "\u00e9", strings.Repeat("n", 33), strings.Repeat("n", 1000)} {
		right(t, user.New(name), false)
	}
	for c := range 256 {
		right(t, user.New(string([]byte{byte(c)})), c >= 33 && c <= 126)
	}
}

// P18.1: whether the user comes in, and how, may be anything.
func TestRightFlags(t *testing.T) {
	for _, on := range []bool{false, true} {
		for _, none := range []bool{false, true} {
			u := some()
			u.On, u.NoPass = on, none
			right(t, u, true)
			u.Hashes = nil
			right(t, u, true)
		}
	}
}

// P18.1: hashes are records, no two the same, and at most 64.
func TestRightHashes(t *testing.T) {
	with := func(l ...string) api.User { return api.User{Name: "u", Hashes: l} }
	right(t, with(), true)
	right(t, with([]string{}...), true)
	right(t, with(record(t, "pw", ""), record(t, "pw", "s"), record(t, "", "")), true)
	right(t, with(sums(64)...), true)
	right(t, with(sums(65)...), false)
	right(t, with(sum(1), sum(2), sum(1)), false)
	right(t, with(sum(1), sum(1)), false)
	for _, s := range []string{"", "pw", ":", sum(1) + "0", sum(1)[1:], "0" + sum(1), "65" + sum(1)[1:], strings.ToUpper(sum(10)), " " + sum(1)} {
		right(t, with(s), false)
		right(t, with(sum(1), s), false)
		right(t, with(s, sum(1)), false)
	}
}

// P18.1: there are no bits but those of the 56 commands.
func TestRightCommands(t *testing.T) {
	for id := range 64 {
		right(t, api.User{Name: "u", Cmds: 1 << id}, id < 56)
		right(t, api.User{Name: "u", Cmds: all | 1<<id}, id < 56)
	}
	right(t, api.User{Name: "u", Cmds: all}, true)
	right(t, api.User{Name: "u", Cmds: 1<<64 - 1}, false)
}

// P18.1: the patterns of keys are words, no two the same, each to be read or written, and at most 64.
func TestRightKeys(t *testing.T) {
	with := func(l ...api.Glob) api.User { return api.User{Name: "u", Keys: l} }
	right(t, with(), true)
	right(t, with(globs(true, true, pats(64)...)...), true)
	right(t, with(globs(true, true, pats(65)...)...), false)
	for _, g := range []api.Glob{{Pat: "a", R: true}, {Pat: "a", W: true}, {Pat: "a", R: true, W: true}} {
		right(t, with(g), true)
		right(t, with(g, api.Glob{Pat: "b", R: true}), true)
		for _, h := range []api.Glob{{Pat: "a", R: true}, {Pat: "a", W: true}, {Pat: "a", R: true, W: true}} {
			right(t, with(g, h), false)
			right(t, with(g, api.Glob{Pat: "b", R: true}, h), false)
		}
	}
	right(t, with(api.Glob{Pat: "a"}), false)
	right(t, with(api.Glob{Pat: "b", R: true}, api.Glob{Pat: "a"}), false)
	right(t, with(api.Glob{Pat: "a"}, api.Glob{Pat: "b", R: true}), false)
	for _, p := range []string{"*", "~", "%R~", "[", "\\", strings.Repeat("p", 5000)} {
		right(t, with(api.Glob{Pat: p, W: true}), true)
	}
	for _, p := range []string{"", " ", "a b", "a\r", "\x00", "\x80"} {
		right(t, with(api.Glob{Pat: p, R: true, W: true}), false)
		right(t, with(api.Glob{Pat: "a", R: true}, api.Glob{Pat: p, R: true}), false)
	}
}

// P18.1: those of channels are words, no two the same, and at most 64.
func TestRightChannels(t *testing.T) {
	with := func(l ...string) api.User { return api.User{Name: "u", Chans: l} }
	right(t, with(), true)
	right(t, with(pats(64)...), true)
	right(t, with(pats(65)...), false)
	right(t, with("*", "&", "a", "A"), true)
	right(t, with("a", "a"), false)
	right(t, with("a", "b", "c", "b"), false)
	for _, p := range []string{"", " ", "a b", "\n", "\x1f", "\x80"} {
		right(t, with(p), false)
		right(t, with("a", p), false)
	}
	right(t, full(), true)
	right(t, some(), true)
}

// P18.2: whether a user may come in, and whether without a password.
func TestApplyFlags(t *testing.T) {
	for _, on := range []bool{false, true} {
		for _, none := range []bool{false, true} {
			u := some()
			u.On, u.NoPass = on, none
			want := clone(u)
			want.On = true
			does(t, u, api.Rule{Kind: api.RuOn}, want)
			want.On = false
			does(t, u, api.Rule{Kind: api.RuOff}, want)
			want = clone(u)
			want.NoPass, want.Hashes = true, nil
			does(t, u, api.Rule{Kind: api.RuNoPass}, want)
			want.NoPass = false
			does(t, u, api.Rule{Kind: api.RuNoHash}, want)
		}
	}
}

// P18.2: a password is kept as its record, with the salt and the rounds, once, and nopass ends.
func TestApplyPassword(t *testing.T) {
	for _, pass := range []string{"", "pw", "a b", "\x00\xff", strings.Repeat("p", 300)} {
		for _, rounds := range []int{1, 2, 64} {
			for _, salt := range []string{"", "s", strings.Repeat("\xff", 32)} {
				u := some()
				u.NoPass = true
				r := api.Rule{Kind: api.RuPass, S: pass}
				got, ok := asked(t, u, r, []byte(salt), rounds)
				one, _ := mac.Record(pass, []byte(salt), rounds)
				want := clone(u)
				want.NoPass, want.Hashes = false, append(sums(2), one)
				if !ok || !alike(got, want) {
					t.Errorf("a password %q, %q, %d: %+v, %v", pass, salt, rounds, got, ok)
				}
				got.NoPass = true
				if again, ok := asked(t, got, r, []byte(salt), rounds); !ok || !alike(again, want) {
					t.Errorf("the same password again: %+v, %v", again, ok)
				}
			}
		}
	}
	u := by(t, user.New("u"), ">pw")
	other, ok := asked(t, u, api.Rule{Kind: api.RuPass, S: "pw"}, []byte("other"), 1)
	if !ok || !slices.Equal(other.Hashes, []string{record(t, "pw", "salt"), record(t, "pw", "other")}) {
		t.Errorf("a password with another salt: %+v, %v", other, ok)
	}
}

// P18.2: rounds and a salt that may be in no record, which count of a password alone.
func TestApplyNoRecord(t *testing.T) {
	long := []byte(strings.Repeat("s", 33))
	for _, u := range []api.User{user.New("u"), some(), full()} {
		u.NoPass = true
		for _, rounds := range []int{0, -1, 65, -1 << 63, 1<<63 - 1} {
			stays(t, u, api.Rule{Kind: api.RuPass, S: "pw"}, nil, rounds)
		}
		stays(t, u, api.Rule{Kind: api.RuPass, S: "pw"}, long, 1)
		for _, word := range []string{"on", "off", "nopass", "resetpass", "!" + sum(1), "+get", "-@all", "~p1", "resetkeys", "resetchannels", "reset"} {
			r, _ := rule.Parse(word)
			want, wantOK := user.Apply(u, r, nil, 1)
			if got, ok := asked(t, u, r, long, -5); !ok || !wantOK || !alike(got, want) {
				t.Errorf("%s with no rounds: %+v, %v", word, got, ok)
			}
		}
	}
}

// P18.2: a record more, at the end, once, and nopass ends; one less, wherever it stands.
func TestApplyRecords(t *testing.T) {
	u := some()
	for _, none := range []bool{false, true} {
		u.NoPass = none
		want := clone(u)
		want.NoPass, want.Hashes = false, append(sums(2), sum(7))
		does(t, u, api.Rule{Kind: api.RuHash, S: sum(7)}, want)
		want.Hashes = sums(2)
		does(t, u, api.Rule{Kind: api.RuHash, S: sum(1)}, want)
		does(t, u, api.Rule{Kind: api.RuHash, S: sum(0)}, want)
		want.NoPass = none
		for n, left := range [][]string{{sum(1)}, {sum(0)}, {sum(0), sum(1)}} {
			want.Hashes = left
			does(t, u, api.Rule{Kind: api.RuUnhash, S: sum(n)}, want)
		}
	}
	one := api.User{Name: "u", Hashes: sums(1)}
	does(t, one, api.Rule{Kind: api.RuUnhash, S: sum(0)}, user.New("u"))
	does(t, user.New("u"), api.Rule{Kind: api.RuUnhash, S: sum(0)}, user.New("u"))
}

// P18.2: commands more, and less: those of one bit, of a category, and all.
func TestApplyCommands(t *testing.T) {
	for _, had := range []uint64{0, all, 1<<3 | 1<<50, 1 << 55} {
		u := some()
		u.Cmds = had
		want := clone(u)
		for id := range 56 {
			want.Cmds = had | 1<<id
			does(t, u, api.Rule{Kind: api.RuAdd, Mask: 1 << id}, want)
			want.Cmds = had &^ (1 << id)
			does(t, u, api.Rule{Kind: api.RuSub, Mask: 1 << id}, want)
		}
		for _, name := range append(table.Cats(), "all") {
			mask, _ := table.Cat(name)
			want.Cmds = had | mask
			does(t, u, api.Rule{Kind: api.RuAdd, Mask: mask}, want)
			want.Cmds = had &^ mask
			does(t, u, api.Rule{Kind: api.RuSub, Mask: mask}, want)
		}
	}
}

// P18.2: a pattern of keys that is there is opened further, in its place; another one stands at the end.
func TestApplyKeys(t *testing.T) {
	ways := [][2]bool{{true, false}, {false, true}, {true, true}}
	for _, had := range ways {
		for _, more := range ways {
			u := some()
			u.Keys = append(globs(had[0], had[1], "x"), globs(true, false, "y")...)
			want := clone(u)
			want.Keys[0].R, want.Keys[0].W = had[0] || more[0], had[1] || more[1]
			does(t, u, api.Rule{Kind: api.RuKeys, S: "x", R: more[0], W: more[1]}, want)
			want = clone(u)
			want.Keys = append(want.Keys, api.Glob{Pat: "x*", R: more[0], W: more[1]})
			does(t, u, api.Rule{Kind: api.RuKeys, S: "x*", R: more[0], W: more[1]}, want)
			want.Keys = want.Keys[2:]
			u.Keys = nil
			does(t, u, api.Rule{Kind: api.RuKeys, S: "x*", R: more[0], W: more[1]}, want)
		}
	}
	want := some()
	want.Keys = nil
	does(t, some(), api.Rule{Kind: api.RuNoKeys}, want)
	does(t, want, api.Rule{Kind: api.RuNoKeys}, want)
}

// P18.2: a pattern of channels more, at the end, once; and none of them.
func TestApplyChannels(t *testing.T) {
	u := some()
	want := clone(u)
	does(t, u, api.Rule{Kind: api.RuChans, S: "c"}, want)
	does(t, u, api.Rule{Kind: api.RuChans, S: "d?"}, want)
	want.Chans = []string{"c", "d?", "dx"}
	does(t, u, api.Rule{Kind: api.RuChans, S: "dx"}, want)
	want.Chans = nil
	does(t, u, api.Rule{Kind: api.RuNoChans}, want)
	does(t, want, api.Rule{Kind: api.RuNoChans}, want)
	u.Chans = []string{"*"}
	does(t, want, api.Rule{Kind: api.RuChans, S: "*"}, u)
}

// P18.2: reset leaves the name alone.
func TestApplyReset(t *testing.T) {
	for _, u := range []api.User{user.New("u"), some(), full()} {
		u.On, u.NoPass = true, true
		does(t, u, api.Rule{Kind: api.RuReset}, api.User{Name: u.Name})
	}
}

// P18.2: there are never more than 64 of something, yet what adds nothing is done.
func TestApplyFull(t *testing.T) {
	u := full()
	for _, r := range []api.Rule{{Kind: api.RuHash, S: sum(64)}, {Kind: api.RuPass, S: "pw"}, {Kind: api.RuKeys, S: "q", R: true}, {Kind: api.RuKeys, S: "*", W: true}, {Kind: api.RuChans, S: "q"}} {
		stays(t, u, r, []byte("salt"), 1)
	}
	does(t, u, api.Rule{Kind: api.RuHash, S: sum(63)}, u)
	does(t, u, api.Rule{Kind: api.RuKeys, S: "p63", R: true}, u)
	does(t, u, api.Rule{Kind: api.RuChans, S: "p0"}, u)
	want := clone(u)
	want.Keys[5].W = true
	does(t, u, api.Rule{Kind: api.RuKeys, S: "p5", W: true}, want)
	u.Hashes[9] = record(t, "pw", "salt")
	does(t, u, api.Rule{Kind: api.RuPass, S: "pw"}, u)

	u = full()
	u.Hashes, u.Keys, u.Chans = sums(63), globs(true, true, pats(63)...), pats(63)
	want = clone(u)
	want.Hashes = sums(64)
	does(t, u, api.Rule{Kind: api.RuHash, S: sum(63)}, want)
	want = clone(u)
	want.Hashes = append(sums(63), record(t, "pw", "salt"))
	does(t, u, api.Rule{Kind: api.RuPass, S: "pw"}, want)
	want = clone(u)
	want.Keys = globs(true, true, pats(64)...)
	does(t, u, api.Rule{Kind: api.RuKeys, S: "p63", R: true, W: true}, want)
	want = clone(u)
	want.Chans = pats(64)
	does(t, u, api.Rule{Kind: api.RuChans, S: "p63"}, want)
}

// P18.2: a kind that is none, and parts that no word's rule has.
func TestApplyNoRule(t *testing.T) {
	users := []api.User{user.New("u"), some(), full()}
	var rules []api.Rule
	for kind := range 256 {
		if kind == 0 || kind > 14 {
			rules = append(rules, api.Rule{Kind: uint8(kind)}, api.Rule{Kind: uint8(kind), S: "a", R: true, Mask: 1})
		}
	}
	// What a kind does not name is zero.
	for _, kind := range []uint8{api.RuOn, api.RuOff, api.RuNoPass, api.RuNoHash, api.RuNoKeys, api.RuNoChans, api.RuReset} {
		rules = append(rules, api.Rule{Kind: kind, S: "a"}, api.Rule{Kind: kind, R: true}, api.Rule{Kind: kind, W: true}, api.Rule{Kind: kind, Mask: 1})
	}
	for _, r := range []api.Rule{{Kind: api.RuPass, S: "pw"}, {Kind: api.RuHash, S: sum(9)}, {Kind: api.RuUnhash, S: sum(1)}, {Kind: api.RuChans, S: "c"}} {
		read, write, mask := r, r, r
		read.R, write.W, mask.Mask = true, true, 1
		rules = append(rules, read, write, mask)
	}
	for _, kind := range []uint8{api.RuAdd, api.RuSub} {
		for _, mask := range []uint64{0, 3, 1 << 56, 1 << 63, all | 1<<56, 1<<64 - 1, all - 1, 1<<42 - 1, 1<<10 | 1<<55} {
			rules = append(rules, api.Rule{Kind: kind, Mask: mask})
		}
		rules = append(rules, api.Rule{Kind: kind, S: "get"}, api.Rule{Kind: kind, S: "get", Mask: 1}, api.Rule{Kind: kind, R: true, Mask: 1}, api.Rule{Kind: kind, W: true, Mask: 1})
	}
	for _, s := range []string{"", "pw", sum(1) + "0", " " + sum(1), sum(1)[1:]} {
		rules = append(rules, api.Rule{Kind: api.RuHash, S: s}, api.Rule{Kind: api.RuUnhash, S: s})
	}
	for _, s := range []string{"", " ", "a b", "a\n", "\x00", "\x80"} {
		rules = append(rules, api.Rule{Kind: api.RuKeys, S: s, R: true, W: true}, api.Rule{Kind: api.RuKeys, S: s, R: true}, api.Rule{Kind: api.RuChans, S: s})
	}
	for _, s := range []string{"a", "~a", "%R~a", "on", "allkeys", "*"} {
		rules = append(rules, api.Rule{Kind: api.RuKeys, S: s}, api.Rule{Kind: api.RuKeys, S: s, R: true, Mask: 1})
	}
	for _, r := range rules {
		for _, u := range users {
			stays(t, u, r, []byte("salt"), 1)
		}
	}
}

// P18.2: what is told has no memory in common with what was handed in, also with what lies behind its lists.
func TestApplyOwns(t *testing.T) {
	u := some()
	u.Hashes, u.Keys, u.Chans = slices.Grow(u.Hashes, 9), slices.Grow(u.Keys, 9), slices.Grow(u.Chans, 9)
	for _, words := range [][2]string{{"#" + sum(8), "#" + sum(9)}, {"~x", "~y"}, {"&x", "&y"}, {"%R~a*", "+get"}, {"!" + sum(0), "!" + sum(1)}} {
		first := by(t, u, words[0])
		was := clone(first)
		second := by(t, u, words[1])
		if !alike(first, was) {
			t.Errorf("%s made %+v of what %s had told: %+v", words[1], first, words[0], was)
		}
		spoil(second)
		if !alike(first, was) || !alike(u, some()) {
			t.Errorf("%q share memory: %+v, %+v", words, first, u)
		}
	}
}

func permit(t *testing.T, u api.User, n api.Need, want bool) {
	t.Helper()
	was, keys, chans := clone(u), slices.Clone(n.Keys), slices.Clone(n.Chans)
	if got := user.Permit(u, n); got != want {
		t.Errorf("Permit(%+v, %+v) = %v", u, n, got)
	}
	if !alike(u, was) || !slices.Equal(n.Keys, keys) || !slices.Equal(n.Chans, chans) {
		t.Errorf("Permit changed %+v or %+v", was, n)
	}
}

// P18.3: the command's bit, of those from 0 to 63 alone.
func TestPermitCommand(t *testing.T) {
	for id := -70; id < 140; id++ {
		permit(t, api.User{Cmds: 1<<64 - 1}, api.Need{Cmd: id}, id >= 0 && id < 64)
		permit(t, api.User{}, api.Need{Cmd: id}, false)
		for has := range 64 {
			permit(t, api.User{Cmds: 1 << has}, api.Need{Cmd: id}, id == has)
			permit(t, api.User{Cmds: ^(1 << has)}, api.Need{Cmd: id}, id != has && id >= 0 && id < 64)
		}
	}
	permit(t, api.User{Cmds: 1<<64 - 1}, api.Need{Cmd: -1 << 63}, false)
	permit(t, api.User{Cmds: 1<<64 - 1}, api.Need{Cmd: 1<<63 - 1}, false)
	// A bit is asked for, whatever else is permitted.
	u := by(t, user.New("u"), "allkeys", "allchannels", "+@all", "-get")
	permit(t, u, api.Need{Cmd: 0, Keys: []api.Use{{Key: "a", R: true}}}, false)
	permit(t, u, api.Need{Cmd: 1, Keys: []api.Use{{Key: "a", R: true}}}, true)
}

// P18.3: each key that is read needs a pattern with R that fits it, and each that is written one with W, not the same one.
func TestPermitKeys(t *testing.T) {
	u := by(t, user.New("u"), "+get", "%R~a*", "%W~*z", "~b?")
	may := func(key string, r, w, want bool) {
		t.Helper()
		use := api.Use{Key: key, R: r, W: w}
		permit(t, u, api.Need{Keys: []api.Use{use}}, want)
		permit(t, u, api.Need{Keys: []api.Use{{Key: "az", R: true, W: true}, use}}, want)
		permit(t, u, api.Need{Keys: []api.Use{use, {Key: "bb", R: true, W: true}}}, want)
		permit(t, u, api.Need{Cmd: 1, Keys: []api.Use{use}}, false)
	}
	for key, ways := range map[string][2]bool{"a": {true, false}, "z": {false, true}, "az": {true, true}, "bx": {true, true}, "b": {false, false}, "bxx": {false, false}, "": {false, false}, "za": {false, false}, "A": {false, false}, "bz": {true, true}} {
		may(key, true, false, ways[0])
		may(key, false, true, ways[1])
		may(key, true, true, ways[0] && ways[1])
		may(key, false, false, true)
	}
	permit(t, by(t, user.New("u"), "+get"), api.Need{Keys: []api.Use{{Key: "a", R: true}}}, false)
	permit(t, by(t, user.New("u"), "+get"), api.Need{Keys: []api.Use{{Key: "a"}}}, true)
	permit(t, by(t, user.New("u"), "+get", "allkeys"), api.Need{Keys: []api.Use{{Key: "", R: true, W: true}, {Key: "\x00\n \xff", R: true, W: true}}}, true)
}

// P18.3: all keys are read, or written, with the pattern * itself alone.
func TestPermitAllKeys(t *testing.T) {
	for _, r := range []bool{false, true} {
		for _, w := range []bool{false, true} {
			for _, words := range [][]string{{}, {"~**"}, {"~?*"}, {"~[^]"}, {"~\\*"}, {"~a*", "&*"}} {
				u := by(t, by(t, user.New("u"), "+keys"), words...)
				permit(t, u, api.Need{Cmd: 40, AllR: r, AllW: w}, !r && !w)
			}
			need := api.Need{Cmd: 40, AllR: r, AllW: w}
			permit(t, by(t, user.New("u"), "+keys", "%R~*"), need, !w)
			permit(t, by(t, user.New("u"), "+keys", "%W~*"), need, !r)
			permit(t, by(t, user.New("u"), "+keys", "%W~a", "%R~b", "%R~*", "%W~c"), need, !w)
			permit(t, by(t, user.New("u"), "+keys", "%R~a", "%W~b", "%W~*", "%R~c"), need, !r)
			permit(t, by(t, user.New("u"), "+keys", "~x", "~*"), need, true)
			permit(t, by(t, user.New("u"), "~*"), need, false)
			// All keys, and one of them, are two things.
			need.Keys = []api.Use{{Key: "q", R: true}}
			permit(t, by(t, user.New("u"), "+keys", "%W~*"), need, false)
			permit(t, by(t, user.New("u"), "+keys", "%W~*", "%R~q"), need, !r)
		}
	}
}

// P18.3: each channel is heard.
func TestPermitChannels(t *testing.T) {
	u := by(t, user.New("u"), "+subscribe", "&news.*", "&[ab]", "~*")
	for channel, want := range map[string]bool{"news.": true, "news.x": true, "a": true, "b": true, "c": false, "": false, "news": false, "[ab]": false, "ab": false} {
		if got := user.Hears(u, channel); got != want {
			t.Errorf("Hears of %q: %v", channel, got)
		}
		permit(t, u, api.Need{Cmd: 52, Chans: []string{channel}}, want)
		permit(t, u, api.Need{Cmd: 52, Chans: []string{"a", channel}}, want)
		permit(t, u, api.Need{Cmd: 52, Chans: []string{channel, "news.y", "b"}}, want)
		permit(t, u, api.Need{Cmd: 53, Chans: []string{channel}}, false)
		permit(t, u, api.Need{Cmd: 52, Keys: []api.Use{{Key: "k", R: true, W: true}}, AllR: true, AllW: true, Chans: []string{channel}}, want)
		if user.Hears(user.New("u"), channel) || !user.Hears(by(t, u, "allchannels"), channel) {
			t.Errorf("Hears of %q with none, or all", channel)
		}
	}
	permit(t, u, api.Need{Cmd: 52}, true)
	permit(t, by(t, u, "resetchannels"), api.Need{Cmd: 52}, true)
	permit(t, by(t, u, "resetchannels"), api.Need{Cmd: 52, Chans: []string{"a"}}, false)
}

// P18.4: who is on comes in without a password, if none is asked for, or by one of those that are kept.
func TestEnter(t *testing.T) {
	enter := func(u api.User, pass string, want bool) {
		t.Helper()
		was := clone(u)
		if got := user.Enter(u, pass); got != want {
			t.Errorf("Enter(%+v, %q) = %v", u, pass, got)
		}
		u.On = !u.On
		if user.Enter(u, pass) && !u.On {
			t.Errorf("Enter(%+v, %q) of one who is off", u, pass)
		}
		u.On = was.On
		if !alike(u, was) {
			t.Errorf("Enter changed %+v to %+v", was, u)
		}
	}
	for _, pass := range []string{"", "pw", "two", "pw ", "PW", "p", sum(0), record(t, "pw", "salt"), "\x00"} {
		enter(user.New("u"), pass, false)
		enter(by(t, user.New("u"), "on"), pass, false)
		enter(by(t, user.New("u"), "nopass"), pass, false)
		enter(by(t, user.New("u"), "on", "nopass"), pass, true)
		enter(by(t, user.New("u"), "on", "nopass", "#"+sum(0)), pass, false)
		enter(by(t, user.New("u"), "on", ">pw"), pass, pass == "pw")
		enter(by(t, user.New("u"), "on", "#"+sum(0), "#"+sum(1), ">two", ">pw"), pass, pass == "pw" || pass == "two")
		enter(by(t, user.New("u"), "on", ">pw", ">two", "#"+sum(0), "off"), pass, false)
		enter(by(t, user.New("u"), "on", ">pw", "#"+sum(0), "!"+record(t, "pw", "salt")), pass, false)
		enter(by(t, user.New("u"), "on", "nopass", "resetpass"), pass, false)
		enter(by(t, user.New("u"), "on", ">pw", "reset", "on"), pass, false)
		enter(api.User{Name: "u", On: true, NoPass: true, Hashes: sums(2)}, pass, true)
		enter(api.User{Name: "u", On: true, Hashes: []string{"no record", record(t, "pw", "")}}, pass, pass == "pw")
		enter(by(t, user.New("u"), "on", ">"), pass, pass == "" || pass == "\x00")
	}
}

// read asks that a line is just that user.
func read(t *testing.T, line string, want api.User) {
	t.Helper()
	was := clone(want)
	if got := user.Text(want); got != line {
		t.Errorf("Text(%+v) = %q, not %q", want, got, line)
	}
	if !alike(was, want) {
		t.Errorf("Text changed %+v to %+v", was, want)
	}
	got, ok := user.Parse(line)
	if !ok || !alike(got, want) {
		t.Errorf("Parse(%q) = %+v, %v, not %+v, true", line, got, ok, want)
	}
	spoil(got)
	if again, ok := user.Parse(line); !ok || !alike(again, want) {
		t.Errorf("Parse(%q) = %+v, %v, once its answer was spoilt", line, again, ok)
	}
}

func none(t *testing.T, lines ...string) {
	t.Helper()
	for _, line := range lines {
		if u, ok := user.Parse(line); ok || !alike(u, api.User{}) {
			t.Errorf("Parse(%q) = %+v, %v, not none", line, u, ok)
		}
	}
}

// P18.5: a user as a line, and back.
func TestText(t *testing.T) {
	read(t, "user bob on ~a* -@all +get", by(t, user.New("bob"), "on", "~a*", "+get"))
	read(t, "user u off -@all", user.New("u"))
	read(t, "user u on -@all", api.User{Name: "u", On: true})
	read(t, "user u off nopass -@all", api.User{Name: "u", NoPass: true})
	read(t, "user default on nopass ~* &* +@all", by(t, user.New("default"), "on", "nopass", "allkeys", "allchannels", "allcommands"))
	read(t, "user u off #"+sum(5)+" #"+sum(3)+" -@all", api.User{Name: "u", Hashes: []string{sum(5), sum(3)}})
	read(t, "user u on nopass #"+sum(5)+" #"+sum(3)+" -@all", api.User{Name: "u", On: true, NoPass: true, Hashes: []string{sum(5), sum(3)}})
	read(t, "user u off ~b %R~a %W~c ~~ %R~~* %W~%W~x -@all", api.User{Name: "u", Keys: []api.Glob{{Pat: "b", R: true, W: true}, {Pat: "a", R: true}, {Pat: "c", W: true}, {Pat: "~", R: true, W: true}, {Pat: "~*", R: true}, {Pat: "%W~x", W: true}}})
	read(t, "user u off &b &a && &#x &~ +@all", api.User{Name: "u", Chans: []string{"b", "a", "&", "#x", "~"}, Cmds: all})
	for _, name := range []string{"user", "on", "off", "nopass", "+@all", "-@all", "#", "~", "&", strings.Repeat("n", 32)} {
		read(t, "user "+name+" off -@all", user.New(name))
		read(t, "user "+name+" on nopass ~nopass &nopass -@all +get", api.User{Name: name, On: true, NoPass: true, Keys: globs(true, true, "nopass"), Chans: []string{"nopass"}, Cmds: 1})
	}
	read(t, "user some off #"+sum(0)+" #"+sum(1)+" %W~a* %W~b &c &d? -@all +strlen +watch", some())
	f := full()
	read(t, "user full on #"+strings.Join(f.Hashes, " #")+" %R~"+strings.Join(pats(64), " %R~")+" &"+strings.Join(pats(64), " &")+" +@all", f)
}

// P18.5: the commands that a user has, by rising ids; all of them are told as one word.
func TestTextCommands(t *testing.T) {
	all := uint64(all)
	for id, name := range names() {
		read(t, "user u off -@all +"+name, api.User{Name: "u", Cmds: 1 << id})
		others := slices.Delete(names(), id, id+1)
		read(t, "user u off -@all +"+strings.Join(others, " +"), api.User{Name: "u", Cmds: all &^ (1 << id)})
	}
	read(t, "user u off +@all", api.User{Name: "u", Cmds: all})
	read(t, "user u off -@all +"+strings.Join(names()[:9], " +"), api.User{Name: "u", Cmds: 1<<9 - 1})
	none(t, "user u off -@all +"+strings.Join(names(), " +"))
}

// P18.5: a line that is no user's text is none, also where its words are rules.
func TestParseNone(t *testing.T) {
	none(t, "", " ", "user", "user ", "user u", "user u ", "user u on", "user u on ", "user u on -@all ", " user u on -@all", "user  u on -@all", "user u  on -@all", "user u on  -@all", "user u on -@all\n", "user\tu\ton\t-@all", "user u on -@all\r\n")
	none(t, "User u on -@all", "USER u on -@all", "users u on -@all", "u on -@all", "on -@all", "-@all", "bob u on -@all", "u user on -@all")
	none(t, "user u ON -@all", "user u -@all", "user u on off -@all", "user u off on -@all", "user u on on -@all", "user u nopass on -@all", "user u nopass -@all", "user u on nopass nopass -@all", "user u on NoPass -@all")
	none(t, "user "+strings.Repeat("n", 33)+" on -@all", "user \x00 on -@all", "user \u00e9 on -@all", "user  on -@all", "user a\nb on -@all")
	h, i := "#"+sum(0), "#"+sum(1)
	none(t, "user u on "+h+" "+h+" -@all", "user u on "+h+" nopass -@all", "user u "+h+" on -@all", "user u on # -@all", "user u on "+h+"0 -@all", "user u on "+strings.ToUpper("#"+sum(10))+" -@all", "user u on !"+sum(0)+" -@all", "user u on "+h+" !"+sum(0)+" -@all", "user u on "+sum(0)+" -@all", "user u on "+h+" ~a "+i+" -@all", "user u on -@all "+h)
	none(t, "user u on >pw -@all", "user u on > -@all", "user u on >pw +@all")
	none(t, "user u on ~ -@all", "user u on ~a ~a -@all", "user u on ~a %R~a -@all", "user u on %R~a %W~a -@all", "user u on %R~a %R~a -@all", "user u on %RW~a -@all", "user u on %WR~a -@all", "user u on %r~a -@all", "user u on allkeys -@all", "user u on resetkeys -@all", "user u on ~a resetkeys -@all", "user u on &c ~a -@all", "user u on -@all ~a", "user u on ~a\x80 -@all", "user u on % -@all")
	none(t, "user u on & -@all", "user u on &a &a -@all", "user u on &a &b &a -@all", "user u on allchannels -@all", "user u on resetchannels -@all", "user u on -@all &a", "user u on &\x01 -@all")
	none(t, "user u on +get", "user u on +get -@all", "user u on -@all +set +get", "user u on -@all +get +get", "user u on -@all +GET", "user u on -@all get", "user u on -@all +", "user u on -@all +none", "user u on -@all -get", "user u on +@all -get", "user u on -@all +@all", "user u on +@all +get", "user u on +@all +@all", "user u on -@all -@all", "user u on -@all +@read", "user u on -@all +@admin", "user u on allcommands", "user u on nocommands", "user u on -@ALL", "user u on +all", "user u on @all")
	none(t, "user u on reset -@all", "user u reset on -@all", "user u on resetpass -@all", "user u on nopass resetpass -@all", "user u on -@all on", "user u on -@all nopass")
}

// P18.5: 64 of each are read, and 65 are not.
func TestParseMany(t *testing.T) {
	for _, head := range []string{"#", "~", "%R~", "&"} {
		l := pats(65)
		if head == "#" {
			l = sums(65)
		}
		line := func(many int) string { return "user u on " + head + strings.Join(l[:many], " "+head) + " -@all" }
		if u, ok := user.Parse(line(64)); !ok || len(u.Hashes)+len(u.Keys)+len(u.Chans) != 64 || user.Text(u) != line(64) {
			t.Errorf("64 of %s: %+v, %v", head, u, ok)
		}
		none(t, line(65))
	}
}

// P18.1 to P18.5: calls with users that are not right end.
func TestNotRight(t *testing.T) {
	odd := api.User{Name: "a b", Hashes: append(sums(70), "", "x"), Cmds: 1<<64 - 1, Keys: append(globs(false, false, "a", ""), globs(true, true, pats(70)...)...), Chans: append(pats(70), "", "[", "\\")}
	for _, word := range []string{"on", ">pw", "#" + sum(99), "!" + sum(3), "+get", "-@all", "~a", "resetkeys", "&q", "resetchannels", "reset"} {
		r, _ := rule.Parse(word)
		asked(t, odd, r, nil, 1)
	}
	if user.Right(odd) || user.Enter(odd, "pw") || user.Hears(odd, "q") || user.Permit(odd, api.Need{Cmd: 99}) || user.Text(odd) == "" {
		t.Error("calls with a user that is not right")
	}
}

// pick is one of them.
func pick[T any](rng *rand.Rand, l ...T) T { return l[rng.Intn(len(l))] }

// chance is a rule's word: few patterns and records, so that they come again.
func chance(rng *rand.Rand) string {
	p := pick(rng, "*", "a", "a*", "b?", "~", "[ab]", "**")
	return pick(rng, "on", "off", "nopass", "resetpass", ">"+pick(rng, "", "pw", "two"), "#"+sum(rng.Intn(4)), "!"+sum(rng.Intn(4)),
		"+"+pick(rng, names()...), "-"+pick(rng, names()...), "+@"+pick(rng, table.Cats()...), "-@"+pick(rng, table.Cats()...), "+@all", "-@all",
		"~"+p, "%R~"+p, "%W~"+p, "%RW~"+p, "allkeys", "resetkeys", "&"+p, "allchannels", "resetchannels", pick(rng, "reset", "on", "+@all", "~*"))
}

// model is a user by what is said of each thing alone.
type model struct {
	on, open    bool
	hashes      []string
	cmds        map[int]bool
	order       []string
	reads, puts map[string]bool
	chans       []string
}

func fresh() *model {
	return &model{cmds: map[int]bool{}, reads: map[string]bool{}, puts: map[string]bool{}}
}

// once is l with s at its end, if s is not in it.
func once(l []string, s string) []string {
	for _, x := range l {
		if x == s {
			return l
		}
	}
	return append(l, s)
}

func (m *model) apply(r api.Rule, salt []byte, rounds int) {
	switch r.Kind {
	case 1:
		m.on = true
	case 2:
		m.on = false
	case 3:
		m.open, m.hashes = true, nil
	case 4:
		m.open, m.hashes = false, nil
	case 5:
		one, _ := mac.Record(r.S, salt, rounds)
		m.open, m.hashes = false, once(m.hashes, one)
	case 6:
		m.open, m.hashes = false, once(m.hashes, r.S)
	case 7:
		var left []string
		for _, h := range m.hashes {
			if h != r.S {
				left = append(left, h)
			}
		}
		m.hashes = left
	case 8, 9:
		for id := range 64 {
			if r.Mask>>id&1 == 1 {
				m.cmds[id] = r.Kind == 8
			}
		}
	case 10:
		m.order = once(m.order, r.S)
		m.reads[r.S], m.puts[r.S] = m.reads[r.S] || r.R, m.puts[r.S] || r.W
	case 11:
		m.order, m.reads, m.puts = nil, map[string]bool{}, map[string]bool{}
	case 12:
		m.chans = once(m.chans, r.S)
	case 13:
		m.chans = nil
	case 14:
		*m = *fresh()
	}
}

func (m *model) user(name string) api.User {
	u := api.User{Name: name, On: m.on, NoPass: m.open, Hashes: m.hashes, Chans: m.chans}
	for id, has := range m.cmds {
		if has {
			u.Cmds += 1 << id
		}
	}
	for _, p := range m.order {
		u.Keys = append(u.Keys, api.Glob{Pat: p, R: m.reads[p], W: m.puts[p]})
	}
	return u
}

func (m *model) fits(of map[string]bool, key string) bool {
	for p, has := range of {
		if has && glob.Match(p, key) {
			return true
		}
	}
	return false
}

func (m *model) permits(n api.Need) bool {
	ok := m.cmds[n.Cmd] && (!n.AllR || m.reads["*"]) && (!n.AllW || m.puts["*"])
	for _, k := range n.Keys {
		ok = ok && (!k.R || m.fits(m.reads, k.Key)) && (!k.W || m.fits(m.puts, k.Key))
	}
	for _, c := range n.Chans {
		heard := false
		for _, p := range m.chans {
			heard = heard || glob.Match(p, c)
		}
		ok = ok && heard
	}
	return ok
}

func need(rng *rand.Rand) api.Need {
	n := api.Need{Cmd: rng.Intn(58) - 1, AllR: rng.Intn(6) == 0, AllW: rng.Intn(6) == 0}
	for range rng.Intn(3) {
		n.Keys = append(n.Keys, api.Use{Key: pick(rng, "", "a", "ab", "b", "ba", "~", "*", "c"), R: rng.Intn(2) == 0, W: rng.Intn(2) == 0})
	}
	for range rng.Intn(3) {
		n.Chans = append(n.Chans, pick(rng, "", "a", "ab", "b", "ba", "~", "*", "c"))
	}
	return n
}

// P18.2, P18.3, P18.5, P18.6: rows of rules, against the model: what they make is right, is told and read, and permits what it permits.
func TestRandomRules(t *testing.T) {
	rng := rand.New(rand.NewSource(18))
	for range 300 {
		name := pick(rng, "u", "default", "nopass")
		u, m := user.New(name), fresh()
		for range 40 {
			word := chance(rng)
			r, ok := rule.Parse(word)
			if !ok {
				t.Fatal(word)
			}
			m.apply(r, []byte("salt"), 2)
			if u, ok = user.Apply(u, r, []byte("salt"), 2); !ok || !alike(u, m.user(name)) {
				t.Fatalf("%s made %+v, %v, not %+v", word, u, ok, m.user(name))
			}
			if got, ok := user.Parse(user.Text(u)); !user.Right(u) || !ok || !alike(got, u) {
				t.Fatalf("%q was read as %+v, %v", user.Text(u), got, ok)
			}
			for range 5 {
				n := need(rng)
				permit(t, u, n, m.permits(n))
			}
		}
	}
}

// chanceUser is one that is right, also one that no rules make.
func chanceUser(rng *rand.Rand) api.User {
	u := api.User{Name: pick(rng, "u", "on", "user", "default"), On: rng.Intn(2) == 0, NoPass: rng.Intn(2) == 0, Cmds: pick(rng, 0, all, rng.Uint64()&all, rng.Uint64()&rng.Uint64()&rng.Uint64()&all)}
	for _, n := range rng.Perm(5)[:rng.Intn(4)] {
		u.Hashes = append(u.Hashes, sum(n))
	}
	pats := []string{"a", "*", "~", "%R~", "nopass", "&"}
	for _, n := range rng.Perm(6)[:rng.Intn(4)] {
		way := pick(rng, [2]bool{true, false}, [2]bool{false, true}, [2]bool{true, true})
		u.Keys = append(u.Keys, api.Glob{Pat: pats[n], R: way[0], W: way[1]})
	}
	for _, n := range rng.Perm(6)[:rng.Intn(4)] {
		u.Chans = append(u.Chans, pats[n])
	}
	return u
}

// line is a user's text by the document's words.
func line(u api.User) string {
	s := "user " + u.Name + map[bool]string{true: " on", false: " off"}[u.On] + map[bool]string{true: " nopass"}[u.NoPass]
	for _, h := range u.Hashes {
		s += " #" + h
	}
	for _, g := range u.Keys {
		s += map[[2]bool]string{{true, true}: " ~", {true, false}: " %R~", {false, true}: " %W~"}[[2]bool{g.R, g.W}] + g.Pat
	}
	for _, c := range u.Chans {
		s += " &" + c
	}
	if u.Cmds == all {
		return s + " +@all"
	}
	s += " -@all"
	for id, name := range names() {
		if u.Cmds>>id&1 == 1 {
			s += " +" + name
		}
	}
	return s
}

// spoilt is a line with something that is otherwise.
func spoilt(rng *rand.Rand, s string) string {
	words := strings.Split(s, " ")
	at, other := rng.Intn(len(words)), rng.Intn(len(words))
	switch rng.Intn(5) {
	case 0:
		words = slices.Delete(words, at, at+1)
	case 1:
		words = slices.Insert(words, at, words[other])
	case 2:
		words[at], words[other] = words[other], words[at]
	case 3:
		words[at] = pick(rng, "", "on", "off", "nopass", "+@all", "-@all", "~a", "&a", "+get", "#"+sum(0), "resetkeys", ">pw")
	case 4:
		place := rng.Intn(len(s))
		return s[:place] + string([]byte{byte(rng.Intn(256))}) + s[place+rng.Intn(2):]
	}
	return strings.Join(words, " ")
}

// P18.5, P18.6: what was told is read, and of other lines those alone that are a text.
func TestRandomLines(t *testing.T) {
	rng := rand.New(rand.NewSource(185))
	for range 1000 {
		u := chanceUser(rng)
		right(t, u, true)
		read(t, line(u), u)
		for range 5 {
			other := spoilt(rng, line(u))
			got, ok := user.Parse(other)
			if ok && (!user.Right(got) || line(got) != other) || !ok && !alike(got, api.User{}) {
				t.Fatalf("Parse(%q) = %+v, %v", other, got, ok)
			}
		}
	}
}

// P18.6: what is taken away is not permitted any more, whatever else was given.
func TestTakenAway(t *testing.T) {
	u := by(t, user.New("u"), "on", ">pw", ">two", "+@all", "~*", "~a", "&*", "&c")
	get := api.Need{Cmd: 0, Keys: []api.Use{{Key: "a", R: true}}}
	put := api.Need{Cmd: 1, Keys: []api.Use{{Key: "a", W: true}}}
	hear := api.Need{Cmd: 52, Chans: []string{"c"}}
	for _, n := range []api.Need{get, put, hear, {Cmd: 40, AllR: true}, {Cmd: 42, AllW: true}} {
		permit(t, u, n, true)
		permit(t, by(t, u, "reset"), n, false)
		permit(t, by(t, u, "nocommands"), n, false)
		permit(t, by(t, u, "-"+names()[n.Cmd]), n, false)
		permit(t, by(t, u, "-"+names()[n.Cmd], "+@all"), n, true)
		permit(t, by(t, u, "resetkeys"), n, n.Cmd == 52)
		permit(t, by(t, u, "resetchannels"), n, n.Cmd != 52)
		permit(t, by(t, u, "-@read", "-@write"), n, n.Cmd == 52)
		permit(t, by(t, u, "-@pubsub"), n, n.Cmd != 52)
	}
	for _, word := range []string{"off", "reset", "resetpass", "!" + record(t, "pw", "salt")} {
		if !user.Enter(u, "pw") || user.Enter(by(t, u, word), "pw") {
			t.Errorf("Enter behind %s", word)
		}
	}
	if !user.Enter(by(t, u, "!"+record(t, "pw", "salt")), "two") {
		t.Error("the other password is not taken away")
	}
}
