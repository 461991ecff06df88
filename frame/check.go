package frame

const polynomial = 0xEDB88320

// check: the reflected CRC-32 of a text. It is worked out bit by bit: a table would be longer than most frames.
func check(text string) string {
	sum := ^uint32(0)
	for i := range len(text) {
		sum ^= uint32(text[i])
		for range 8 {
			sum = sum>>1 ^ polynomial*(sum&1)
		}
	}
	sum = ^sum
	return string([]byte{byte(sum), byte(sum >> 8), byte(sum >> 16), byte(sum >> 24)})
}
