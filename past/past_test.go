package past

import (
	"slices"
	"testing"
)

func made() *Past {
	var p Past
	p.Add("b", Version{State: 2, Value: "x"})
	p.Add("a", Version{State: 3, Value: ""})
	p.Add("b", Version{State: 5, Gone: true})
	p.Add("c", Version{State: 5, Value: "y"})
	p.Add("b", Version{State: 9, Value: "z"})
	return &p
}

func TestAt(t *testing.T) {
	p := made()
	for _, c := range []struct {
		key   string
		state int
		want  Version
	}{
		{"b", 0, Version{}}, {"b", 1, Version{}},
		{"b", 2, Version{2, "x", false}}, {"b", 4, Version{2, "x", false}},
		{"b", 5, Version{5, "", true}}, {"b", 8, Version{5, "", true}},
		{"b", 9, Version{9, "z", false}}, {"b", 1 << 30, Version{9, "z", false}},
		{"a", 2, Version{}}, {"a", 3, Version{3, "", false}},
		{"d", 9, Version{}}, {"", 9, Version{}},
	} {
		if v, found := p.At(c.key, c.state); v != c.want || found != (c.want.State > 0) {
			t.Errorf("At(%q, %d) = %v, %v, want %v", c.key, c.state, v, found, c.want)
		}
	}
}

func TestLast(t *testing.T) {
	p := made()
	for key, want := range map[string]int{"a": 3, "b": 9, "c": 5, "d": 0} {
		if n := p.Last(key); n != want {
			t.Errorf("Last(%s) = %d, want %d", key, n, want)
		}
	}
}

func TestKeys(t *testing.T) {
	p := made()
	for from, want := range map[string][]string{"": {"a", "b", "c"}, "a": {"a", "b", "c"}, "a\x00": {"b", "c"}, "c": {"c"}, "d": {}} {
		if keys := p.Keys(from); !slices.Equal(keys, want) {
			t.Errorf("Keys(%q) = %q, want %q", from, keys, want)
		}
	}
	if keys := p.Keys(""); cap(keys) != len(keys) {
		t.Errorf("Keys hands out spare room of its own for %d", cap(keys)-len(keys))
	}
	p.Add("d", Version{State: 10})
	if keys := p.Keys(""); !slices.Equal(keys, []string{"a", "b", "c", "d"}) {
		t.Errorf("Keys = %q", keys)
	}
}

func TestCount(t *testing.T) {
	if n := made().Count(); n != 5 {
		t.Errorf("Count = %d", n)
	}
	if n := new(Past).Count(); n != 0 {
		t.Errorf("Count of none = %d", n)
	}
}

// forGood is for a Sweep that nobody takes back.
func forGood(func()) {}

func TestSweep(t *testing.T) {
	for _, c := range []struct{ least, thrown, b int }{
		{0, 0, 3}, {2, 0, 3}, {4, 0, 3}, {5, 2, 1}, {8, 2, 1}, {9, 2, 1}, {100, 2, 1},
	} {
		p := made()
		var before []Version
		for state := range 20 {
			v, _ := p.At("b", c.least+state)
			before = append(before, v)
		}
		if n := p.Sweep(c.least, forGood); n != c.thrown || p.Count() != 5-c.thrown || len(p.versions["b"]) != c.b {
			t.Errorf("Sweep(%d) = %d, leaves %v", c.least, n, p.versions)
		}
		for state, want := range before {
			v, _ := p.At("b", c.least+state)
			if v != want && !(want.Gone && v == Version{}) {
				t.Errorf("Sweep(%d): At(b, %d) = %v, was %v", c.least, c.least+state, v, want)
			}
		}
		if n := p.Sweep(c.least, forGood); n != 0 {
			t.Errorf("Sweep(%d) once more = %d", c.least, n)
		}
	}
}

func TestSweepForgetsKeys(t *testing.T) {
	p := made()
	p.Add("a", Version{State: 10, Gone: true})
	p.Add("c", Version{State: 11, Gone: true})
	if n := p.Sweep(10, forGood); n != 4 {
		t.Errorf("Sweep = %d", n)
	}
	if keys := p.Keys(""); !slices.Equal(keys, []string{"b", "c"}) || len(p.versions) != 2 {
		t.Errorf("Keys behind Sweep = %q, versions %v", keys, p.versions)
	}
	if p.Last("a") != 0 || p.Last("b") != 9 || p.Last("c") != 11 {
		t.Errorf("Last behind Sweep: %d, %d, %d", p.Last("a"), p.Last("b"), p.Last("c"))
	}
	p.Add("a", Version{State: 12, Value: "again"})
	if keys := p.Keys(""); !slices.Equal(keys, []string{"a", "b", "c"}) {
		t.Errorf("Keys behind Add once more = %q", keys)
	}
	if n := new(Past).Sweep(3, forGood); n != 0 {
		t.Errorf("Sweep of nothing = %d", n)
	}
}

// What is thrown away is kept by nothing: the rest has memory of its own.
func TestSweepLetsMemoryGo(t *testing.T) {
	var p Past
	for state := range 1000 {
		p.Add("a", Version{State: state + 1, Value: "x"})
	}
	old := p.versions["a"]
	p.Sweep(999, forGood)
	left := p.versions["a"]
	if len(left) != 2 || cap(left) > 4 {
		t.Fatalf("%d are left, with room for %d", len(left), cap(left))
	}
	p.Add("a", Version{State: 1001, Value: "new"})
	if &left[0] == &old[998] || old[999].State != 1000 {
		t.Error("the rest lies in the old memory")
	}
}

// A Sweep that breaks off at any of its steps can be taken back.
func TestSweepIsTakenBack(t *testing.T) {
	for stop := range 5 {
		p, want := made(), made()
		for _, x := range []*Past{p, want} {
			x.Add("a", Version{State: 10, Gone: true})
		}
		if broke := sweepUntil(p, 10, stop); broke != (stop < 3) {
			t.Errorf("with %d steps it breaks off: %v", stop, broke)
		}
		if !slices.Equal(p.keys, want.keys) || len(p.versions) != len(want.versions) {
			t.Errorf("with %d steps: keys %q, versions %v", stop, p.keys, p.versions)
		}
		for key, all := range want.versions {
			if !slices.Equal(p.versions[key], all) {
				t.Errorf("with %d steps: %s has %v", stop, key, p.versions[key])
			}
		}
	}
}

// sweepUntil sweeps, breaks off behind so many steps, and takes them back.
func sweepUntil(p *Past, least, stop int) (broke bool) {
	var back []func()
	defer func() {
		broke = recover() != nil
		for _, step := range slices.Backward(back) {
			step()
		}
	}()
	p.Sweep(least, func(step func()) {
		if len(back) == stop {
			panic("broken off")
		}
		back = append(back, step)
	})
	return false
}

func TestDrop(t *testing.T) {
	p := made()
	held := p.versions["b"]
	p.Drop("b")
	if v, _ := p.At("b", 100); v != (Version{5, "", true}) || p.Last("b") != 5 {
		t.Errorf("At behind Drop = %v", v)
	}
	if held[2] != (Version{}) || cap(p.versions["b"]) != 2 {
		t.Errorf("Drop keeps %v, with room for %d", held[2], cap(p.versions["b"]))
	}
	p.Drop("a")
	p.Drop("never")
	if keys := p.Keys(""); !slices.Equal(keys, []string{"b", "c"}) {
		t.Errorf("Keys behind Drop = %q", keys)
	}
	if _, found := p.At("a", 100); found || len(p.versions) != 2 {
		t.Errorf("behind Drop of its only version a key is left")
	}
	p.Add("a", Version{State: 11, Value: "again"})
	if v, _ := p.At("a", 11); v.Value != "again" || !slices.Equal(p.Keys(""), []string{"a", "b", "c"}) {
		t.Errorf("behind Add once more: %v, %q", v, p.Keys(""))
	}
	var none Past
	none.Drop("a")
	if len(none.Keys("")) != 0 || none.Last("a") != 0 {
		t.Error("Drop of nothing leaves something")
	}
}
