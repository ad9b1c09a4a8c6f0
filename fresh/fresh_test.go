package fresh_test

import (
	"slices"
	"testing"

	"finial/fresh"
	"finial/sample"
)

func TestCopyIsAlike(t *testing.T) {
	for _, x := range slices.Concat(sample.RightOnes(), sample.Odd()) {
		if !sample.Alike(fresh.Copy(x), x) {
			t.Errorf("another term than %s", sample.Brief(x))
		}
	}
}

func TestCopySharesNothing(t *testing.T) {
	for _, x := range slices.Concat(sample.RightOnes(), sample.Odd()) {
		before := sample.Apart(x)
		got := fresh.Copy(x)
		sample.Overwrite(got)
		if !sample.Alike(x, before) {
			t.Errorf("shares memory: %s", sample.Brief(before))
		}
	}
	part := sample.Fun("g", sample.Number(1))
	twice := fresh.Copy(sample.Fun("f", part, part))
	sample.Overwrite(twice.Args[0])
	if !sample.Alike(twice.Args[1], part) {
		t.Error("two parts share memory")
	}
}
