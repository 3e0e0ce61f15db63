package link_test

// dice throws the same numbers each time.
type dice uint64

func (d *dice) throw(sides int) int {
	*d = *d*6364136223846793005 + 1442695040888963407
	return int(uint64(*d)>>33) % sides
}

// some gives one of the numbers.
func (d *dice) some(list ...int) int { return list[d.throw(len(list))] }

func (d *dice) bytes(n int) string {
	text := make([]byte, n)
	for i := range text {
		text[i] = byte(d.some(0, 1, 255, d.throw(256)))
	}
	return string(text)
}
