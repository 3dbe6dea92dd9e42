/-
  The nine ways of access.
-/
import Derived.Test.YthbdncojekpanaaO
namespace Go.Proofs.Ythbdncojekpanaa
open Go.RowKit

theorem Taken.two {w w' : World} {bs : List Blk} {a n need : Int} {e : Ending} (h : Taken w bs a n need e w') : ∃ v E, e = .returned (.tuple #[v, .int .i64 E]) ∧ Taken w bs a n need (.returned (.tuple #[v, .int .i64 E])) w' := by
  have h0 := h
  obtain ⟨_, ⟨_, rfl⟩ | ⟨_, gn, rfl, _⟩⟩ := h
  · exact ⟨_, _, rfl, h0⟩
  · exact ⟨_, _, rfl, h0⟩
theorem Putted.one {w w' : World} {B g : Nat} {A : Option Addr} {c : Nat} {rs : List Raw} {a : Int} {ms : Str} {need : Int} {e : Ending} (h : Putted w B g A c rs a ms need e w') : ∃ E, e = .returned (.int .i64 E) ∧ Putted w B g A c rs a ms need (.returned (.int .i64 E)) w' := by
  have h0 := h
  rcases h with ⟨_, rfl, _⟩ | ⟨_, rfl, _⟩
  · exact ⟨_, rfl, h0⟩
  · exact ⟨_, rfl, h0⟩
set_option maxRecDepth 100000 in
theorem Read_any (B g : Nat) (A : Option Addr) (c : Nat) (rs : List Raw) (a n : Int) (ha : I64 a) (w : World) (h : Sp w B g A c rs) :
    Calls Try.prog 28 #[.pointer (some ⟨g, 0, none⟩), .int .i64 a, .int .i64 n] w (Taken w (blks rs) a n 1) := by
  have HT := Lib.hid (take_any B g A c rs a n 1 ha w h)
  clear h
  generalize hL : Taken w (blks rs) a n 1 = L at *
  have HL := Lib.hid hL
  clear hL
  go_enter Try.func28, Try.ntmps28
  go_wp2_with fail
  refine HT.out.mono ?_
  intro e w1 ht
  rw [← HL.out] at ht
  obtain ⟨v, E, rfl, hend⟩ := ht.two
  have HE := Lib.hid hend
  clear ht hend HT
  go_wp2_with fail
  first | go_ret2 | skip
  rw [← HL.out]
  exact HE.out
set_option maxRecDepth 100000 in
theorem Peek_any (B g : Nat) (A : Option Addr) (c : Nat) (rs : List Raw) (a n : Int) (ha : I64 a) (w : World) (h : Sp w B g A c rs) :
    Calls Try.prog 26 #[.pointer (some ⟨g, 0, none⟩), .int .i64 a, .int .i64 n] w (Taken w (blks rs) a n 0) := by
  have HT := Lib.hid (take_any B g A c rs a n 0 ha w h)
  clear h
  generalize hL : Taken w (blks rs) a n 0 = L at *
  have HL := Lib.hid hL
  clear hL
  go_enter Try.func26, Try.ntmps26
  go_wp2_with fail
  refine HT.out.mono ?_
  intro e w1 ht
  rw [← HL.out] at ht
  obtain ⟨v, E, rfl, hend⟩ := ht.two
  have HE := Lib.hid hend
  clear ht hend HT
  go_wp2_with fail
  first | go_ret2 | skip
  rw [← HL.out]
  exact HE.out
set_option maxRecDepth 100000 in
theorem Fetch_any (B g : Nat) (A : Option Addr) (c : Nat) (rs : List Raw) (a : Int) (ha : I64 a) (w : World) (h : Sp w B g A c rs) :
    Calls Try.prog 51 #[.pointer (some ⟨g, 0, none⟩), .int .i64 a] w (Taken w (blks rs) a 8 4) := by
  have HT := Lib.hid (take_any B g A c rs a 8 4 ha w h)
  clear h
  generalize hL : Taken w (blks rs) a 8 4 = L at *
  have HL := Lib.hid hL
  clear hL
  go_enter Try.func51, Try.ntmps51
  go_wp2_with fail
  refine HT.out.mono ?_
  intro e w1 ht
  rw [← HL.out] at ht
  obtain ⟨v, E, rfl, hend⟩ := ht.two
  have HE := Lib.hid hend
  clear ht hend HT
  go_wp2_with fail
  first | go_ret2 | skip
  rw [← HL.out]
  exact HE.out
set_option maxRecDepth 100000 in
theorem Word_any (B g : Nat) (A : Option Addr) (c : Nat) (rs : List Raw) (a : Int) (ha : I64 a) (w : World) (h : Sp w B g A c rs) :
    Calls Try.prog 29 #[.pointer (some ⟨g, 0, none⟩), .int .i64 a] w (fun e w' => Below w.heap.size w w' ∧ e = .returned (.tuple #[.int .i64 (wordAt (blks rs) a 1), .int .i64 (goes (blks rs) a 8 1)])) := by
  have HT := Lib.hid (takeWord_any B g A c rs a 1 ha w h)
  clear h
  generalize wordAt (blks rs) a 1 = V at *
  generalize goes (blks rs) a 8 1 = E at *
  go_enter Try.func29, Try.ntmps29
  go_wp2_with fail
  refine HT.out.mono ?_
  rintro e w1 ⟨hb, rfl⟩
  have HB := Lib.hid hb
  clear hb HT
  go_wp2_with fail
  first | go_ret2 | skip
  exact ⟨HB.out, rfl⟩
set_option maxRecDepth 100000 in
theorem PeekWord_any (B g : Nat) (A : Option Addr) (c : Nat) (rs : List Raw) (a : Int) (ha : I64 a) (w : World) (h : Sp w B g A c rs) :
    Calls Try.prog 54 #[.pointer (some ⟨g, 0, none⟩), .int .i64 a] w (fun e w' => Below w.heap.size w w' ∧ e = .returned (.tuple #[.int .i64 (wordAt (blks rs) a 0), .int .i64 (goes (blks rs) a 8 0)])) := by
  have HT := Lib.hid (takeWord_any B g A c rs a 0 ha w h)
  clear h
  generalize wordAt (blks rs) a 0 = V at *
  generalize goes (blks rs) a 8 0 = E at *
  go_enter Try.func54, Try.ntmps54
  go_wp2_with fail
  refine HT.out.mono ?_
  rintro e w1 ⟨hb, rfl⟩
  have HB := Lib.hid hb
  clear hb HT
  go_wp2_with fail
  first | go_ret2 | skip
  exact ⟨HB.out, rfl⟩
set_option maxRecDepth 100000 in
theorem Write_any (B g : Nat) (A : Option Addr) (c : Nat) (rs : List Raw) (a : Int) (P : Nat → Prop) (SA : Option Addr) (m sc : Nat) (ms : Str) (ha : I64 a) (w : World) (h : Sp w B g A c rs) (hs : Src w P SA m sc (cells ms)) (hP : ∀ q, P q → ¬ Foot g A rs q ∧ q < w.heap.size) :
    Calls Try.prog 41 #[.pointer (some ⟨g, 0, none⟩), .int .i64 a, .slice SA m sc] w (Putted w B g A c rs a ms 2) := by
  have HT := Lib.hid (put_any B g A c rs a 2 P SA m sc ms ha w h hs hP)
  clear h hs hP
  generalize hL : Putted w B g A c rs a ms 2 = L at *
  have HL := Lib.hid hL
  clear hL
  go_enter Try.func41, Try.ntmps41
  go_wp2_with fail
  refine HT.out.mono ?_
  intro e w1 ht
  rw [← HL.out] at ht
  obtain ⟨E, rfl, hend⟩ := ht.one
  have HE := Lib.hid hend
  clear ht hend HT
  go_wp2_with fail
  first | go_ret | skip
  rw [← HL.out]
  exact HE.out
set_option maxRecDepth 100000 in
theorem Poke_any (B g : Nat) (A : Option Addr) (c : Nat) (rs : List Raw) (a : Int) (P : Nat → Prop) (SA : Option Addr) (m sc : Nat) (ms : Str) (ha : I64 a) (w : World) (h : Sp w B g A c rs) (hs : Src w P SA m sc (cells ms)) (hP : ∀ q, P q → ¬ Foot g A rs q ∧ q < w.heap.size) :
    Calls Try.prog 14 #[.pointer (some ⟨g, 0, none⟩), .int .i64 a, .slice SA m sc] w (Putted w B g A c rs a ms 0) := by
  have HT := Lib.hid (put_any B g A c rs a 0 P SA m sc ms ha w h hs hP)
  clear h hs hP
  generalize hL : Putted w B g A c rs a ms 0 = L at *
  have HL := Lib.hid hL
  clear hL
  go_enter Try.func14, Try.ntmps14
  go_wp2_with fail
  refine HT.out.mono ?_
  intro e w1 ht
  rw [← HL.out] at ht
  obtain ⟨E, rfl, hend⟩ := ht.one
  have HE := Lib.hid hend
  clear ht hend HT
  go_wp2_with fail
  first | go_ret | skip
  rw [← HL.out]
  exact HE.out
set_option maxRecDepth 100000 in
theorem SetWord_any (B g : Nat) (A : Option Addr) (c : Nat) (rs : List Raw) (a n : Int) (ha : I64 a) (w : World) (h : Sp w B g A c rs) :
    Calls Try.prog 27 #[.pointer (some ⟨g, 0, none⟩), .int .i64 a, .int .i64 n] w (Putted w B g A c rs a (digs n 8) 2) := by
  have HT := Lib.hid (putWord_any B g A c rs a n 2 ha w h)
  clear h
  generalize hL : Putted w B g A c rs a (digs n 8) 2 = L at *
  have HL := Lib.hid hL
  clear hL
  go_enter Try.func27, Try.ntmps27
  go_wp2_with fail
  refine HT.out.mono ?_
  intro e w1 ht
  rw [← HL.out] at ht
  obtain ⟨E, rfl, hend⟩ := ht.one
  have HE := Lib.hid hend
  clear ht hend HT
  go_wp2_with fail
  first | go_ret | skip
  rw [← HL.out]
  exact HE.out
set_option maxRecDepth 100000 in
theorem PokeWord_any (B g : Nat) (A : Option Addr) (c : Nat) (rs : List Raw) (a n : Int) (ha : I64 a) (w : World) (h : Sp w B g A c rs) :
    Calls Try.prog 30 #[.pointer (some ⟨g, 0, none⟩), .int .i64 a, .int .i64 n] w (Putted w B g A c rs a (digs n 8) 0) := by
  have HT := Lib.hid (putWord_any B g A c rs a n 0 ha w h)
  clear h
  generalize hL : Putted w B g A c rs a (digs n 8) 0 = L at *
  have HL := Lib.hid hL
  clear hL
  go_enter Try.func30, Try.ntmps30
  go_wp2_with fail
  refine HT.out.mono ?_
  intro e w1 ht
  rw [← HL.out] at ht
  obtain ⟨E, rfl, hend⟩ := ht.one
  have HE := Lib.hid hend
  clear ht hend HT
  go_wp2_with fail
  first | go_ret | skip
  rw [← HL.out]
  exact HE.out
end Go.Proofs.Ythbdncojekpanaa
