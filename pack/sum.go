package pack

// halves is what half a byte does to the register of a sum.
var halves = [16]uint32{
	0x00000000, 0x1db71064, 0x3b6e20c8, 0x26d930ac,
	0x76dc4190, 0x6b6b51f4, 0x4db26158, 0x5005713c,
	0xedb88320, 0xf00f9344, 0xd6d6a3e8, 0xcb61b38c,
	0x9b64c2b0, 0x86d3d2d4, 0xa00ae278, 0xbdbdf21c,
}

// sum is the CRC-32 of zip files.
func sum(b []byte) uint32 {
	register := ^uint32(0)
	for _, c := range b {
		register ^= uint32(c)
		register = register>>4 ^ halves[register&15]
		register = register>>4 ^ halves[register&15]
	}
	return ^register
}
