/-
  The law SymverReads, walked; a symbol compared with itself.
-/
import Derived.Test.YtfafgdbknhlbkaaG
import Derived.Laws.StructEq
namespace Go.Proofs.Ytfafgdbknhlbkaa
open Go.RowKit

set_option maxRecDepth 100000 in
theorem eq_self (s : Sym) (w : World) : (Op.equalIn 10000 26 (.agg (symA s)) (.agg (symA s))).run Try.prog w = .ok true w := by
  have ht : Try.prog.underlying 26 = some (.struct (Try.prog.fieldsOf 26)) := by kernel_rfl
  have hp : Try.prog.stoodInHeld 26 = false := by kernel_rfl
  rw [run_equalIn_agg w 9999 26 _ _ ht hp]
  simp [go_sem]
theorem eql_self (s : Sym) (w : World) : (binOp .eql 26 (.agg (symA s)) (.agg (symA s))).run Try.prog w = .ok (.bool true) w := by
  rw [run_eql_struct, eq_self]
  simp [Result.andThen]
theorem neq_self (s : Sym) (w : World) : (binOp .neq 26 (.agg (symA s)) (.agg (symA s))).run Try.prog w = .ok (.bool false) w := by
  rw [run_neq_struct, eq_self]
  simp [Result.andThen]

def sOf (o : Option Sym) : Sym := o.getD noSym
def eOf (o : Option Sym) : Int := if o.isSome then 0 else 70
theorem parseV_of (o : Option Sym) : parseV o = .tuple #[.agg (symA (sOf o)), .int .i64 (eOf o)] := by cases o <;> rfl
abbrev boxO (s : Sym) : Obj := .cells #[str s.name, str s.ver, .bool s.old, .int .i64 s.kind, .bool s.weak, .int .i64 s.vis, .bool s.dfd, .int .i64 s.val, .int .i64 s.size] 26

set_option maxHeartbeats 4000000 in
theorem reads_any (l : Str) (d : Bool) (w : World) (hs : l.length ≤ 9223372036854775806) : Calls Try.prog 3 #[str l, .bool d] w fun e w' => e = .returned (.bool true) ∧ Below w.heap.size w w' := by
  have HA := Lib.hid (awake_any w)
  have HP := Lib.hid (fun w => parse_any l d w hs)
  have HR := Lib.hid (fun w => rparse_any l d w hs)
  have HN := Lib.hid (fun w => name_any l w)
  have HM := Lib.hid (fun w => rname_any l w (by omega))
  rw [parseV_of] at HP HR
  generalize sOf (parseS l d) = s at *
  generalize eOf (parseS l d) = er at *
  generalize nameB l = nb at *
  go_enter Try.func3, Try.ntmps3
  go_wp2_with fail
  refine HA.out.mono ?_
  rintro e w1 ⟨rfl, hb⟩
  have HB1 := Lib.hid hb
  clear hb HA
  go_wp2_with fail
  refine (HP.out _).mono ?_
  rintro e w2 ⟨rfl, hb⟩
  have HB2 := Lib.hid ((HB1.out.trans (hb.mono HB1.out.size)).alloc (HB1.out.trans (hb.mono HB1.out.size)).size (boxO s))
  have HX2 := Lib.hid (show Sx (w2.alloc (boxO s)) w2.heap.size s from Sx.new w2 s)
  clear hb HB1 HP
  go_upto_region 3 with (fail)
  generalize w2.alloc (boxO s) = w3 at *
  generalize w2.heap.size = g2 at *
  go_wp2_with fail
  refine (HR.out _).mono ?_
  rintro e w4 ⟨rfl, hb⟩
  have HB4 := Lib.hid ((HB2.out.trans (hb.mono HB2.out.size)).alloc (HB2.out.trans (hb.mono HB2.out.size)).size (boxO s))
  have HX4 := Lib.hid (show Sx (w4.alloc (boxO s)) w4.heap.size s from Sx.new w4 s)
  have HY4 := Lib.hid (show Sx (w4.alloc (boxO s)) g2 s from ⟨(HX2.out.below hb).bx.alloc _⟩)
  clear hb HB2 HX2 HR
  go_upto_region 4 with (fail)
  generalize w4.alloc (boxO s) = w5 at *
  generalize w4.heap.size = g4 at *
  obtain ⟨c0, c1, c2, c3, c4, c5, c6, c7, c8⟩ := HX4.out.cells
  obtain ⟨d0, d1, d2, d3, d4, d5, d6, d7, d8⟩ := HY4.out.cells
  have hE := fun v => eql_self s v
  go_wp2_with fail
  refine (HN.out _).mono ?_
  rintro e w6 ⟨rfl, rfl⟩
  go_wp2_with fail
  refine (HM.out _).mono ?_
  rintro e w6 ⟨rfl, rfl⟩
  go_wp2_with fail
  go_ret
  exact ⟨ret_bool (by simp), HB4.out⟩
end Go.Proofs.Ytfafgdbknhlbkaa
