package trap_test

import (
	"maps"
	"math/rand/v2"
	"reflect"
	"slices"
	"strings"
	"testing"

	"deadfall/api"
	"deadfall/parse"
	"deadfall/trap"
)

// notes is the second reading of the chapter: a list of what was said, the latest last, in which each thing that is asked is looked up anew.
type notes struct {
	entry map[int]bool
	said  []said
}

// said: this condition has this text from here on, or nothing (reset).
type said struct {
	cond  int
	text  string
	reset bool
}

func newNotes(entry api.Set) *notes {
	n := &notes{entry: map[int]bool{}}
	for s := 1; s < 32; s++ {
		if entry/set(s)%2 == 1 && s != 9 && s != 19 {
			n.entry[s] = true
		}
	}
	return n
}

func (n *notes) say(w said) api.Errno {
	if w.cond != 0 && !slices.Contains(loose, w.cond) {
		return 3
	}
	if _, _, err := parse.Parse(w.text); err != 0 {
		return 1
	}
	n.said = append(n.said, w)
	return 0
}

// last is the latest of a condition, a reset if there is none.
func (n *notes) last(cond int) said {
	for i := len(n.said) - 1; i >= 0; i-- {
		if n.said[i].cond == cond {
			return n.said[i]
		}
	}
	return said{cond: cond, reset: true}
}

func (n *notes) how(cond int) int {
	w := n.last(cond)
	switch {
	case n.entry[cond] || !w.reset && w.text == "":
		return 1
	case w.reset:
		return 0
	}
	return 2
}

func (n *notes) lines() []string {
	var l []string
	for cond, name := range names {
		if w := n.last(cond); !n.entry[cond] && !w.reset {
			if cond == 0 {
				name = "EXIT"
			}
			l = append(l, "trap -- '"+strings.Join(strings.Split(w.text, "'"), `'\''`)+"' "+name+"\n")
		}
	}
	return l
}

func (n *notes) child() *notes {
	c := &notes{entry: maps.Clone(n.entry)}
	for s := 1; s < 32; s++ {
		if n.how(s) == 1 {
			c.said = append(c.said, said{cond: s})
		}
	}
	return c
}

// agree: what the table tells is what the notes tell.
func agree(t *testing.T, x *trap.Table, n *notes) {
	t.Helper()
	if got, want := x.Entry(), set(slices.Collect(maps.Keys(n.entry))...); got != want {
		t.Fatalf("entry is %b, not %b", got, want)
	}
	if got, want := x.Lines(), n.lines(); !slices.Equal(got, want) {
		t.Fatalf("lines are %q, not %q", got, want)
	}
	for cond := -1; cond <= 32; cond++ {
		if got, want := x.How(cond), n.how(cond); got != want {
			t.Fatalf("how of %d is %d, not %d", cond, got, want)
		}
		text, tree := "", api.Node{}
		if n.how(cond) == 2 {
			text = n.last(cond).text
			tree, _, _ = parse.Parse(text)
		}
		if got, node := x.Action(cond); got != text || !reflect.DeepEqual(node, tree) {
			t.Fatalf("the action of %d is %q, %v, not %q, %v", cond, got, node, text, tree)
		}
	}
}

// P13.1 to P13.4, of whatever is done to tables and to their children, thrown.
func TestThrown(t *testing.T) {
	r := rand.New(rand.NewPCG(13, 1))
	texts := slices.Concat(right[:len(right)-1], wrong[:len(wrong)-1], []string{"", "", "", "", "a", "b 'c'"})
	for range 200 {
		entry := api.Set(r.Uint32() & r.Uint32() & r.Uint32())
		tables, models := []*trap.Table{trap.New(entry)}, []*notes{newNotes(entry)}
		for range 60 {
			i := r.IntN(len(tables))
			x, n := tables[i], models[i]
			cond := r.IntN(36) - 2
			switch r.IntN(8) {
			case 0, 1:
				if got, want := x.Reset(cond), n.say(said{cond: cond, reset: true}); got != want {
					t.Fatalf("Reset(%d) is %d, not %d", cond, got, want)
				}
			case 2:
				if len(tables) < 5 {
					tables, models = append(tables, x.Child()), append(models, n.child())
				}
			default:
				text := texts[r.IntN(len(texts))]
				if got, want := x.Set(cond, text), n.say(said{cond: cond, text: text}); got != want {
					t.Fatalf("Set(%d, %q) is %d, not %d", cond, text, got, want)
				}
			}
		}
		for i, x := range tables {
			agree(t, x, models[i])
		}
	}
}
