package keccak_test

// The chapter's steps, bit by bit, and each of them undone: what the program's rounds are held against.

// cube is a state bit by bit: A(x, y), and the place in the word.
type cube [5][5][64]byte

// plane is a bit for each column.
type plane [5][64]byte

// each goes through the bits' places.
func each(do func(x, y, z int)) {
	for x := range 5 {
		for y := range 5 {
			for z := range 64 {
				do(x, y, z)
			}
		}
	}
}

// cubeOf: a state's bits.
func cubeOf(a [words]uint64) cube {
	var c cube
	each(func(x, y, z int) { c[x][y][z] = byte(a[x+5*y] >> z & 1) })
	return c
}

// words: the state that has these bits.
func (c cube) words() [words]uint64 {
	var a [words]uint64
	each(func(x, y, z int) { a[x+5*y] |= uint64(c[x][y][z]) << z })
	return a
}

// round: the five steps.
func round(c cube, i int) cube {
	return step5(step4(step3(step2(step1(c)))), i)
}

// undo: the state ahead of round i.
func undo(a [words]uint64, i int) [words]uint64 {
	return undo1(undo2(undo3(undo4(undo5(a, i))))).words()
}

// columns: the exclusive or of each column.
func columns(c cube) plane {
	var p plane
	each(func(x, y, z int) { p[x][z] ^= c[x][y][z] })
	return p
}

// sides: the exclusive or of the columns at the two sides of each.
func sides(p plane) plane {
	var d plane
	for x := range d {
		for z := range d[x] {
			d[x][z] = p[(x+4)%5][z] ^ p[(x+1)%5][(z+63)%64]
		}
	}
	return d
}

// step1: each bit becomes, exclusive or, the columns at its sides.
func step1(c cube) cube {
	d := sides(columns(c))
	each(func(x, y, z int) { c[x][y][z] ^= d[x][z] })
	return c
}

// undo1 undoes step1. Each column becomes what it is, exclusive or, the ones at its sides: 192 times that is the column again, so that 191 times undo one.
func undo1(c cube) cube {
	p := columns(c)
	for range 191 {
		d := sides(p)
		for x := range p {
			for z := range p[x] {
				p[x][z] ^= d[x][z]
			}
		}
	}
	d := sides(p)
	each(func(x, y, z int) { c[x][y][z] ^= d[x][z] })
	return c
}

// turnings: by how many bits each word is turned, by the chapter's walk.
func turnings() [5][5]int {
	var far [5][5]int
	x, y := 1, 0
	for t := range 24 {
		far[x][y] = (t + 1) * (t + 2) / 2 % 64
		x, y = y, (2*x+3*y)%5
	}
	return far
}

// step2: each word is turned.
func step2(c cube) cube {
	var out cube
	far := turnings()
	each(func(x, y, z int) { out[x][y][(z+far[x][y])%64] = c[x][y][z] })
	return out
}

// undo2 undoes step2.
func undo2(c cube) cube {
	var out cube
	far := turnings()
	each(func(x, y, z int) { out[x][y][z] = c[x][y][(z+far[x][y])%64] })
	return out
}

// step3: each word goes to its new place.
func step3(c cube) cube {
	var out cube
	each(func(x, y, z int) { out[y][(2*x+3*y)%5][z] = c[x][y][z] })
	return out
}

// undo3 undoes step3.
func undo3(c cube) cube {
	var out cube
	each(func(x, y, z int) { out[x][y][z] = c[y][(2*x+3*y)%5][z] })
	return out
}

// step4: each bit becomes, exclusive or, the one two places on, if the next one is 0.
func step4(c cube) cube {
	out := c
	each(func(x, y, z int) {
		if c[(x+1)%5][y][z] == 0 {
			out[x][y][z] ^= c[(x+2)%5][y][z]
		}
	})
	return out
}

// undo4 undoes step4, row by row, by asking each row that there can be.
func undo4(c cube) cube {
	var from [32]int
	for row := range from {
		var one cube
		for x := range one {
			one[x][0][0] = byte(row >> x & 1)
		}
		from[rowOf(step4(one), 0, 0)] = row
	}
	var out cube
	each(func(x, y, z int) { out[x][y][z] = byte(from[rowOf(c, y, z)] >> x & 1) })
	return out
}

// rowOf: the five bits of a row, as a number.
func rowOf(c cube, y, z int) int {
	row := 0
	for x := range c {
		row |= int(c[x][y][z]) << x
	}
	return row
}

// step5: the constant of round i.
func step5(c cube, i int) cube {
	for z := range c[0][0] {
		c[0][0][z] ^= byte(ruled(i) >> z & 1)
	}
	return c
}

// undo5 undoes step5, which undoes itself.
func undo5(a [words]uint64, i int) cube { return step5(cubeOf(a), i) }

// ruled: the constant of round i, by the chapter's rule.
func ruled(i int) uint64 {
	var out uint64
	for j := range 7 {
		out |= uint64(lowest(7*i+j)) << (1<<j - 1)
	}
	return out
}

// lowest: the lowest bit of R behind t steps.
func lowest(t int) int {
	r := 1
	for range t {
		if r *= 2; r >= 256 {
			r ^= 369
		}
	}
	return r & 1
}
