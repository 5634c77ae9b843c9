package angle

// round is a number that goes round: its kind has as many numbers as there are angles, so that it wraps where they do.
type round uint16

// turned is where a turn leads; only what is left of by when whole rounds are taken away counts.
func (a round) turned(by int) round {
	return a + round(by)
}

// way is by how much a is turned to be b. The signed kind of the same width has half of the turns below 0:
// so it is the shorter one of both ways, and of two that are as long the one below 0.
func (a round) way(b round) int {
	return int(int16(b - a))
}
