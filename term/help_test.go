package term_test

import "finial/sample"

var (
	variable = sample.Variable
	number   = sample.Number
	fun      = sample.Fun
	times    = sample.Times
	deep     = sample.Deep
	sized    = sample.Sized
	spine    = sample.Spine

	rightOnes = sample.RightOnes
	wrongOnes = sample.WrongOnes
	odd       = sample.Odd

	apart    = sample.Apart
	alike    = sample.Alike
	allAlike = sample.AllAlike
	brief    = sample.Brief
)
