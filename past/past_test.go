package past

import (
	"slices"
	"testing"
)

func made() *Past {
	var p Past
	p.Add("b", Version{State: 2, Value: "x"})
	p.Add("a", Version{State: 3, Value: ""})
	p.Add("b", Version{State: 5, Gone: true})
	p.Add("c", Version{State: 5, Value: "y"})
	p.Add("b", Version{State: 9, Value: "z"})
	return &p
}

func TestAt(t *testing.T) {
	p := made()
	for _, c := range []struct {
		key   string
		state int
		want  Version
	}{
		{"b", 0, Version{}}, {"b", 1, Version{}},
		{"b", 2, Version{2, "x", false}}, {"b", 4, Version{2, "x", false}},
		{"b", 5, Version{5, "", true}}, {"b", 8, Version{5, "", true}},
		{"b", 9, Version{9, "z", false}}, {"b", 1 << 30, Version{9, "z", false}},
		{"a", 2, Version{}}, {"a", 3, Version{3, "", false}},
		{"d", 9, Version{}}, {"", 9, Version{}},
	} {
		if v, found := p.At(c.key, c.state); v != c.want || found != (c.want.State > 0) {
			t.Errorf("At(%q, %d) = %v, %v, want %v", c.key, c.state, v, found, c.want)
		}
	}
}

func TestLast(t *testing.T) {
	p := made()
	for key, want := range map[string]int{"a": 3, "b": 9, "c": 5, "d": 0} {
		if n := p.Last(key); n != want {
			t.Errorf("Last(%s) = %d, want %d", key, n, want)
		}
	}
}

func TestKeys(t *testing.T) {
	p := made()
	for from, want := range map[string][]string{"": {"a", "b", "c"}, "a": {"a", "b", "c"}, "a\x00": {"b", "c"}, "c": {"c"}, "d": {}} {
		if keys := p.Keys(from); !slices.Equal(keys, want) {
			t.Errorf("Keys(%q) = %q, want %q", from, keys, want)
		}
	}
	if keys := p.Keys(""); cap(keys) != len(keys) {
		t.Errorf("Keys hands out spare room of its own for %d", cap(keys)-len(keys))
	}
	p.Add("d", Version{State: 10})
	if keys := p.Keys(""); !slices.Equal(keys, []string{"a", "b", "c", "d"}) {
		t.Errorf("Keys = %q", keys)
	}
}

func TestDrop(t *testing.T) {
	p := made()
	held := p.versions["b"]
	p.Drop("b")
	if v, _ := p.At("b", 100); v != (Version{5, "", true}) || p.Last("b") != 5 {
		t.Errorf("At behind Drop = %v", v)
	}
	if held[2] != (Version{}) || cap(p.versions["b"]) != 2 {
		t.Errorf("Drop keeps %v, with room for %d", held[2], cap(p.versions["b"]))
	}
	p.Drop("a")
	p.Drop("never")
	if keys := p.Keys(""); !slices.Equal(keys, []string{"b", "c"}) {
		t.Errorf("Keys behind Drop = %q", keys)
	}
	if _, found := p.At("a", 100); found || len(p.versions) != 2 {
		t.Errorf("behind Drop of its only version a key is left")
	}
	p.Add("a", Version{State: 11, Value: "again"})
	if v, _ := p.At("a", 11); v.Value != "again" || !slices.Equal(p.Keys(""), []string{"a", "b", "c"}) {
		t.Errorf("behind Add once more: %v, %q", v, p.Keys(""))
	}
	var none Past
	none.Drop("a")
	if len(none.Keys("")) != 0 || none.Last("a") != 0 {
		t.Error("Drop of nothing leaves something")
	}
}
