package inflate_test

// chance is numbers that look like no rule, the same in each run.
type chance uint64

func (c *chance) next(n int) int {
	*c = *c*6364136223846793005 + 1442695040888963407
	return int(uint64(*c) >> 33 % uint64(n))
}

func (c *chance) octets(n int) []byte {
	b := make([]byte, n)
	for i := range b {
		b[i] = byte(c.next(256))
	}
	return b
}
