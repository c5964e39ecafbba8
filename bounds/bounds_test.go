package bounds

import (
	"math"
	"strings"
	"testing"
)

func TestTexts(t *testing.T) {
	for n := range 100 {
		text := strings.Repeat("\x00", n)
		if IsKey(text) != (n >= 1 && n <= 10) {
			t.Errorf("IsKey of %d bytes = %v", n, IsKey(text))
		}
		if IsValue(text) != (n <= 40) {
			t.Errorf("IsValue of %d bytes = %v", n, IsValue(text))
		}
	}
}

func TestStates(t *testing.T) {
	for _, n := range []int{0, 1, 999999999, 1000000000} {
		if !IsState(n) {
			t.Errorf("IsState(%d) = false", n)
		}
	}
	for _, n := range []int{-1, 1000000001, math.MaxInt, math.MinInt} {
		if IsState(n) {
			t.Errorf("IsState(%d) = true", n)
		}
	}
}
