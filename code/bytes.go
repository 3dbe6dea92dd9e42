package code

import (
	"clevis/api"
)

// Encode returns the bytes of the instructions, one behind the other.
func Encode(is ...api.Inst) ([]byte, api.Errno) {
	if !areValid(is...) {
		return nil, api.ErrCode
	}
	b := make([]byte, 0, len(is)*api.InstSize)
	for _, i := range is {
		b = appendBytes(b, i)
	}
	return b, api.OK
}

// Decode returns the instructions that the bytes are those of.
func Decode(b []byte) ([]api.Inst, api.Errno) {
	if len(b)%api.InstSize != 0 {
		return nil, api.ErrCode
	}
	is := make([]api.Inst, 0, len(b)/api.InstSize)
	for ; len(b) > 0; b = b[api.InstSize:] {
		is = append(is, fromBytes(b))
	}
	if !areValid(is...) {
		return nil, api.ErrCode
	}
	return is, api.OK
}

func appendBytes(b []byte, i api.Inst) []byte {
	n := uint32(i.Imm)
	return append(b, byte(i.Op), byte(i.A), byte(i.B), byte(i.C), byte(n), byte(n>>8), byte(n>>16), byte(n>>24))
}

// fromBytes may return an instruction that is not valid. No field loses anything on the way, so May knows it by its fields as well as by its bytes.
func fromBytes(b []byte) api.Inst {
	n := uint32(b[4]) | uint32(b[5])<<8 | uint32(b[6])<<16 | uint32(b[7])<<24
	return api.Inst{Op: api.Op(b[0]), A: int(b[1]), B: int(b[2]), C: int(b[3]), Imm: int(int32(n))}
}
