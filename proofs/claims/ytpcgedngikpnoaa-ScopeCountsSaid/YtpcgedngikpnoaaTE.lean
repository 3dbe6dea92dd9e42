/-
  Tables that are made.
-/
import Derived.Test.YtpcgedngikpnoaaTD
namespace Go.Proofs.Ytpcgedngikpnoaa
set_option maxRecDepth 100000
set_option linter.unusedSimpArgs false
set_option linter.unusedVariables false
open Go.RowKit

def cntS (ss : List Sym) : Nat := (cntT ((hashesS ss).length : Int)).toNat
def wlS (ss : List Sym) : Nat := wcN (hashesS ss).length
def filS (ss : List Sym) : List UInt64 := Siv.setAll 6 (Siv.blank (wlS ss)) (hashesS ss)
theorem hashes_all (ss : List Sym) : (hashesS ss).length ≤ ss.length := by
  have := hashes_len ss ss.length
  rw [List.take_length] at this
  exact this
theorem cntS_val (ss : List Sym) : ((cntS ss : Nat) : Int) = cntT ((hashesS ss).length : Int) := by
  have := cnt_pos ((hashesS ss).length : Int)
  unfold cntS
  omega
theorem cntS_le {ss : List Sym} (h : ss.length ≤ 512) : 0 < cntS ss ∧ cntS ss ≤ 128 := by
  have h1 := hashes_all ss
  have h2 := cntS_val ss
  unfold cntT at h2
  split at h2 <;> omega
theorem wl_form (n : Nat) : Siv.formB (wcN n : Int) ((6 : Nat) : Int) = true := by
  unfold wcN
  repeat' split
  all_goals rfl
theorem fil_len (ss : List Sym) : (filS ss).length = wlS ss := by
  unfold filS
  rw [Siv.setAll_len]
  simp [Siv.blank]
abbrev tabA (gA : Option Addr) (n c : Nat) (Af : Option Addr) (wl cf : Nat) (sh : Int) : Array Value := #[.slice gA n c, .slice Af wl cf, .int .i64 sh]
/-- A table that was made of symbols. -/
def TabM (w0 w' : World) (ss : List Sym) (g : Nat) (s : Nat → Option Addr × Nat) (Af : Option Addr) (cf : Nat) : Prop :=
  Bks w' w0.heap.size g (cntS ss) (fillS ss (cntS ss) ss.length) s ∧ w'.ownsRow w0.heap.size 89 1 (.slice Af (wlS ss) cf) (wlS ss) (Siv.wds (filS ss)) ∧ Below w0.heap.size w0 w'
theorem Try.info_tab : (Try.prog.info? 57).map (·.size) = some 3 := by kernel_rfl
/-- A box of cells: a table's. -/
def Tx (w : World) (b : Nat) (cs : Array Value) : Prop := w.heap[b]? = some (.cells cs 57 (0, 0))
theorem results_tab {fn : Func} {p r : Tmp} {t : TypeId} (h : fn.results = #[.cell p t, .tmp r]) (tmps : Array Value) (P : Program) (w : World) :
    (results fn tmps).run P w = ((asAddr (tmps.getD p undef)).run P w).andThen fun a w₁ => ((loadVar t a).run P w₁).andThen fun v w₂ => .ok (.tuple #[v, tmps.getD r undef]) w₂ := by
  simp only [results, h]
  simp [Sem.run_bind, Result.andThen]
theorem Syl.lt {w w1 : World} {A : Option Addr} {n c : Nat} {ss : List Sym} (h : Syl w (fun k => k < w.heap.size) A n c ss) (hb : Below w.heap.size w w1) : Syl w1 (fun k => k < w1.heap.size) A n c ss := by
  have q := h.below hb (fun _ h => h)
  exact ⟨q.len, q.nil, q.cap, fun ad e h0 => Nat.lt_of_lt_of_le (q.blk ad e h0) hb.size, q.at_⟩
theorem grow_cell (w : World) (b j : Nat) (v : Value) : w.grownBy (w.setCell ⟨b, j, none⟩ v) (some b) :=
  ⟨rfl, rfl, rfl, by simp [World.setCell], fun k _ hn => Below.heap_setCell w ⟨b, j, none⟩ v k (fun e => hn (by rw [e]))⟩
theorem own_cell {w : World} {B b n : Nat} {e : TypeId} {v : Value} {xs : List Value} (h : w.ownsRow B e 1 v n xs) (hb : b < B) (j : Nat) (u : Value) : (w.setCell ⟨b, j, none⟩ u).ownsRow B e 1 v n xs :=
  h.kept (grow_cell w b j u) (by
    cases hq : v.ownBlock with
    | none => exact .inl rfl
    | some q => exact .inr fun e => absurd (Option.some.inj e) (fun e' => by have := (h.lt q hq).1; omega))
theorem Bks.cells {w : World} {B g n b : Nat} {f : Nat → List Int} {s : Nat → Option Addr × Nat} (h : Bks w B g n f s) (hb : b < B) (j : Nat) (u : Value) : Bks (w.setCell ⟨b, j, none⟩ u) B g n f s :=
  ⟨own_cell h.out hb j u, fun k hk => own_cell (h.own k hk) hb j u, h.apart⟩
theorem Bks.base {w : World} {B B' g n : Nat} {f : Nat → List Int} {s : Nat → Option Addr × Nat} (h : Bks w B g n f s) (hB : B' ≤ B) : Bks w B' g n f s := ⟨own_more h.out hB, fun k hk => own_more (h.own k hk) hB, h.apart⟩
end Go.Proofs.Ytpcgedngikpnoaa
