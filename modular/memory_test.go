package modular_test

import (
	"slices"
	"testing"

	"latchkey/api"
)

// numbers: those with which memory is looked at: below the modulus, at it, above it; limbs of 0 on top; what is refused.
func numbers() [][3]api.Nat {
	return [][3]api.Nat{
		{{3}, {4}, {7}},
		{{4}, {3}, {7}},
		{{1}, {1}, {7}},
		{{1, 2}, {5}, {7, 2, 3}},
		{{3, 2, 1}, {3, 2, 1}, {3, 2, 1}},
		{{1, 2, 3, 0}, {5, 0}, {7, 1, 0, 0}},
		{{2}, {0}, {1}},
		{{}, {}, {5}},
		{{0, 0}, {0}, {5, 0}},
		{{6}, {2}, {4}},
		{{6}, {2}, {0}},
	}
}

func TestR6ArgumentsStayAsTheyAre(t *testing.T) {
	for _, c := range calls() {
		for _, n := range numbers() {
			var args, whole, before [3]api.Nat
			for i := range n {
				args[i], whole[i] = roomy(n[i])
				before[i] = slices.Clone(whole[i])
			}
			got, _ := c.do(args[0], args[1], args[2])
			spoil(got)
			for i := range n {
				if !slices.Equal(whole[i], before[i]) {
					t.Errorf("%s %x: argument %d was changed, or shares memory with the answer", c.name, n, i)
				}
			}
		}
	}
}

func TestR6AnswersStayAsTheyAre(t *testing.T) {
	for _, c := range calls() {
		for _, n := range numbers() {
			var args [3]api.Nat
			for i := range n {
				args[i], _ = roomy(n[i])
			}
			want, wantErr := c.do(n[0], n[1], n[2])
			got, err := c.do(args[0], args[1], args[2])
			for i := range args {
				spoil(args[i])
			}
			if err != wantErr || !slices.Equal(got, want) {
				t.Errorf("%s %x: an argument's change changed the answer", c.name, n)
			}
			spoil(got)
			if again, _ := c.do(n[0], n[1], n[2]); !slices.Equal(again, want) {
				t.Errorf("%s %x: an answer's change changed the next answer", c.name, n)
			}
		}
	}
}

func TestR6OneListHandedInThrice(t *testing.T) {
	for _, c := range calls() {
		a := api.Nat{top, 3, 0}
		want, wantErr := c.do(slices.Clone(a), slices.Clone(a), slices.Clone(a))
		got, err := c.do(a, a, a)
		if err != wantErr || !slices.Equal(got, want) || !slices.Equal(a, api.Nat{top, 3, 0}) {
			t.Errorf("%s: %x, error %d; the list is %x", c.name, got, err, a)
		}
	}
}
