package vm

// deed: what a primitive of the machine's does, and with how many arguments.
type deed struct {
	args int
	do   func(*call) int
}

// deeds: by their numbers.
func deeds() map[int]deed {
	return map[int]deed{
		30: {1, (*call).perform},
		31: {2, (*call).perform},
		32: {3, (*call).perform},
		33: {2, (*call).performAll},
		40: {0, (*call).value},
		41: {1, (*call).value},
		42: {2, (*call).value},
		43: {1, (*call).valueAll},
		44: {0, (*call).params},
		70: {0, (*call).process},
		71: {0, (*call).resume},
		72: {0, (*call).suspend},
		73: {0, (*call).terminate},
		74: {0, (*call).yield},
		75: {0, (*call).priority},
		76: {1, (*call).setPriority},
		77: {0, (*call).running},
		80: {0, (*call).setup},
		81: {0, (*call).wait},
		82: {0, (*call).wake},
		83: {0, (*call).setTimer},
		84: {0, (*call).counted},
		90: {0, (*call).tidy},
		91: {0, (*call).save},
		92: {0, (*call).quit},
	}
}
