package made_test

import (
	"testing"

	"reverie/api"
	"reverie/made"
)

// TestTexts: what is made has types, if it isn't too long, and the same comes of the same state and rule.
func TestTexts(t *testing.T) {
	texts := map[string]int{}
	for i := range 300 {
		rule := made.Rule{Odd: 20 + i, Alts: 1 + i%6, Deep: 1 + i%4}
		s := made.Text(i, rule)
		if again := made.Text(i, rule); again != s {
			t.Fatalf("%s\nand then\n%s", s, again)
		}
		if len(s) > api.MaxSource {
			continue
		}
		if _, wrong := made.Read(s); wrong != "" {
			t.Fatal(wrong)
		}
		texts[s]++
	}
	if len(texts) < 200 {
		t.Error("too few texts:", len(texts))
	}
}
