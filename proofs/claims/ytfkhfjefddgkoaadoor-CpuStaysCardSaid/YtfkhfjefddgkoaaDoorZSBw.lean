/-
  How a law's arguments are opened, whatever the program: numbers in slices, strings, and what the form's own reach gives of them.
  The frame of a row that lists the shapes of instructions: what the world's start gives.
  The law of what is written and read, walked.
  Two spaces beside each other; what is refused, and where a gap is: plain facts.
-/
import Derived.Test.YtfkhfjefddgkoaaDoorZSAg
import Derived.ProofKit
import Derived.OpenShut
import Derived.SliceStrings
import Derived.ChangeSlices
import Derived.ChangeSame
import Derived.Carry
import Derived.Deep.Slices
import Derived.Deep.Fields
import Derived.SizedLaws
import Derived.Lib.SmallJoins
import Derived.Test.YtfkhfjefddgkoaaDoorCards
import Derived.Test.YtfkhfjefddgkoaaDoorTie
import Derived.Handed
import Derived.Lay
import Derived.LaidMore
import Derived.SevenTiedAt
import Derived.Lib.LaidTab
import Derived.LaidLaws
import Derived.LaidHandle
import Derived.DeepKeys2
import Derived.MapViews
import Derived.Deep.DeepHandedRow
import Derived.Test.YtfkhfjefddgkoaaDoorZSBs
import Derived.Test.YtfkhfjefddgkoaaDoorZD
import Derived.Laws.IdiomStrings
namespace Go.Proofs.YtfkhfjefddgkoaaDoor
open Go.ChangeShapes Go.WideShapes Go.ChangeAt Go.RowKit Go.Deep

theorem Tryd.own : ownKnob Tryd.prog.godebug = none := by kernel_rfl
theorem Tryd.laidOut : laidOutB Tryd.prog = true := by kernel_rfl
theorem i64_of_wf {n : Int} (h : (Lit.int .i64 n).wf = true) : I64 n := by
  unfold I64
  simp [Lit.wf, IntKind.min, IntKind.max, IntKind.signed, IntKind.bits] at h
  omega
theorem u8_of_wf {n : Int} (h : (Lit.int .u8 n).wf = true) : n = ((UInt8.ofNat n.toNat).toNat : Int) := by
  simp [Lit.wf, IntKind.min, IntKind.max, IntKind.signed, IntKind.bits] at h
  rw [UInt8.toNat_ofNat', Nat.mod_eq_of_lt (by omega)]
  omega
theorem u32_of_wf {n : Int} (h : (Lit.int .u32 n).wf = true) : n = ((UInt32.ofNat n.toNat).toNat : Int) := by
  simp [Lit.wf, IntKind.min, IntKind.max, IntKind.signed, IntKind.bits] at h
  rw [UInt32.toNat_ofNat', Nat.mod_eq_of_lt (by omega)]
  omega
theorem u64_of_wf {n : Int} (h : (Lit.int .u64 n).wf = true) : n = ((UInt64.ofNat n.toNat).toNat : Int) := by
  simp [Lit.wf, IntKind.min, IntKind.max, IntKind.signed, IntKind.bits] at h
  rw [UInt64.toNat_ofNat', Nat.mod_eq_of_lt (by omega)]
  omega

section
variable {H : Type}
/-- Within the form's own reach. -/
def Sized (t : TypeId) (d : DataW H) : Prop := ∀ x ∈ d.weights Tryd.prog t, x ≤ reachBytes
theorem sized_arg {ts : List TypeId} {ds : List (DataW H)} (h : (DataW.weightsEach Tryd.prog ts ds).all (· ≤ reachBytes) = true) {j : Nat} {t : TypeId} {d : DataW H} (ht : ts[j]? = some t) (hd : ds[j]? = some d) : Sized t d := fun x hx => by
  have := List.all_eq_true.1 h _ (DataW.weights_mem_each ht hd x hx)
  simpa using this
theorem weights_mem_all {e : TypeId} {ds : List (DataW H)} {d : DataW H} (hd : d ∈ ds) {x : Nat} (hx : x ∈ d.weights Tryd.prog e) : x ∈ DataW.weightsAll Tryd.prog e ds := by
  induction ds with
  | nil => cases hd
  | cons d0 ds ih =>
    simp only [DataW.weightsAll, List.mem_append]
    rcases List.mem_cons.1 hd with rfl | hd
    · exact .inl hx
    · exact .inr (ih hd)
theorem Sized.elem {t e : TypeId} {es sp : List (DataW H)} (h : Sized t (.slice es sp)) (hu : Tryd.prog.underlying t = some (.slice e)) {d : DataW H} (hd : d ∈ es) : Sized e d := fun x hx => by
  refine h x ?_
  simp only [DataW.weights, hu, List.mem_cons, List.mem_append]
  exact .inr (.inl (weights_mem_all hd hx))
theorem Sized.len {t e : TypeId} {es sp : List (DataW H)} (h : Sized t (.slice es sp)) (hu : Tryd.prog.underlying t = some (.slice e)) : (es.length + sp.length) * Tryd.prog.bytesOf e ≤ reachBytes := by
  refine h _ ?_
  simp [DataW.weights, hu]
theorem Sized.part {t : TypeId} {fs : Array Field} {ps : List (DataW H)} (h : Sized t (.agg ps)) (hu : Tryd.prog.underlying t = some (.struct fs)) {j : Nat} {f : TypeId} {d : DataW H} (hf : (fs.toList.map (·.type))[j]? = some f) (hd : ps[j]? = some d) : Sized f d := fun x hx => by
  refine h x ?_
  simp only [DataW.weights, hu]
  exact DataW.weights_mem_each hf hd x hx
theorem Sized.str {t : TypeId} {b : List UInt8} (h : Sized (H := H) t (.lit (.string b))) : b.length ≤ 140737488351232 := by
  have := h b.length (by simp [DataW.weights])
  simpa [reachBytes] using this
end

section
variable {H : Type} {enc : TypeId × Value → H} {W : World}
/-- A slice of numbers. -/
theorem open_nums {k : IntKind} {t e : TypeId} (ht : Tryd.prog.underlying t = some (.slice e)) (he : Tryd.prog.underlying e = some (.int k)) (hc : Tryd.prog.cellsOf e = 1) {a : Option Addr} {n c : Nat} {d : DataW H} {p : List MemPlace}
    (h : DataW.Trod enc Tryd.prog W 0 (fun _ => true) true t (.slice a n c) d p) :
    ∃ zs : List Int, Src W (fun k => k < W.heap.size) a n c (zs.map (Value.int k)) ∧ (∀ z ∈ zs, (Lit.int k z).wf = true) ∧ (n = 0 ∨ ∃ es sp, d = .slice es sp ∧ es.length = n) ∧ c ≤ 9223372036854775807 := by
  obtain ⟨fuel, hf⟩ := h
  rcases open_ints ht he hc hf with ⟨hcs, hx⟩ | ⟨a0, len, cap, zs, hcs, _, hl, hm, hz, hx, hcell, hw⟩
  · simp [Value.cells] at hcs
    obtain ⟨rfl, rfl, rfl⟩ := hcs
    exact ⟨[], ⟨rfl, fun _ => ⟨rfl, rfl⟩, Nat.le_refl _, (by intro ad h; cases h), (by intro ad h; cases h)⟩, (by intro z hz; cases hz), .inl rfl, by omega⟩
  · simp [Value.cells] at hcs
    obtain ⟨rfl, rfl, rfl⟩ := hcs
    simp only [if_true] at hz
    have hlz : (zs.take n).length = n := by rw [List.length_take]; omega
    have hx' : d = .slice (lits k (zs.take n)) (lits k (zs.drop n)) := by injection hx
    refine ⟨zs.take n, ⟨by simp; omega, (by intro h; cases h), hl, ?_, ?_⟩, fun z hz => hw z (List.mem_of_mem_take hz), .inr ⟨_, _, hx', by simp [lits]; omega⟩, by simpa [maxLen] using hm⟩
    · intro ad h h0
      cases h
      have := World.block_lt_of_cell? W _ (hcell 0 (by omega))
      rw [addBlock] at this
      exact this
    · intro ad h j u hu
      cases h
      have hj : j < n := by have := (List.getElem?_eq_some_iff.1 hu).1; simp at this; omega
      have hjz : j < zs.length := by omega
      rw [hcell j hjz, ← hu]
      simp [hj, List.getD, hjz]
theorem slice_of_trod {t e : TypeId} {fuel : Nat} {v : Value} {d : DataW H} {p : List MemPlace} (ht : Tryd.prog.underlying t = some (.slice e)) (h : DataW.trod enc Tryd.prog W 0 (fun _ => true) true fuel t [v] = some (d, p)) :
    ∃ a n c, v = .slice a n c ∧ DataW.Trod enc Tryd.prog W 0 (fun _ => true) true t (.slice a n c) d p := by
  rcases open_slice ht h with ⟨hcs, _⟩ | ⟨a, len, cap, m, n, D, Pl, hcs, _⟩
  · have hv : v = .slice none 0 0 := by simpa using hcs
    subst hv
    exact ⟨_, _, _, rfl, fuel, h⟩
  · have hv : v = .slice (some a) len cap := by simpa using hcs
    subst hv
    exact ⟨_, _, _, rfl, fuel, h⟩
theorem sized_len {t e : TypeId} {n b : Nat} {d : DataW H} (hs : Sized t d) (hu : Tryd.prog.underlying t = some (.slice e)) (hb : Tryd.prog.bytesOf e = b) (hl : n = 0 ∨ ∃ es sp, d = .slice es sp ∧ es.length = n) : n * b ≤ 140737488351232 := by
  rcases hl with rfl | ⟨es, sp, rfl, rfl⟩
  · omega
  · have h1 := hs.len hu
    rw [hb] at h1
    simp only [reachBytes] at h1
    have : es.length * b ≤ (es.length + sp.length) * b := Nat.mul_le_mul_right _ (by omega)
    omega
end
end Go.Proofs.YtfkhfjefddgkoaaDoor

namespace Go.Proofs.YtfkhfjefddgkoaaDoor
open Go.ChangeShapes Go.WideShapes Go.ChangeAt Go.RowKit

def laidHere : List (String × DataW Unit) := [("clevis/code.shapes", Rows.laid_clevis_code_shapes)]
theorem head_of_laid {W : World} {n : String} {d : DataW Unit} {r : List (String × DataW Unit)} {g : Nat} {t : TypeId} (h : laidMet Tryd.prog ((n, d) :: r) W) (hg : Tryd.prog.globalNamed n = some g) (ht : (Tryd.prog.globals[g]?).map (·.type) = some t) :
    ∃ (cs : Array Value) (fuel : Nat) (p : List MemPlace), (∀ i, W.cell? ⟨g, i, none⟩ = cs[i]?) ∧ DataW.trod (fun _ => ()) Tryd.prog W 0 (fun _ => true) false fuel t cs.toList = some (d, p) := by
  obtain ⟨ps, ⟨g', t', cs, fuel, p, q, hg', ht', hvar, hd, _, _⟩, _⟩ := h
  obtain rfl := Option.some.inj (hg.symm.trans hg')
  obtain rfl := Option.some.inj (ht.symm.trans ht')
  exact ⟨cs, fuel, p, World.var?_cell hg hvar, hd⟩
set_option maxRecDepth 100000 in
theorem shapes_flat : (Rows.laid_clevis_code_shapes : DataW Unit).flat.map Lit.toCell = Cod.shC := by kernel_rfl
set_option maxRecDepth 100000 in
theorem sh_of_laid {W : World} (h : laidMet Tryd.prog laidHere W) : Cod.Shps W := by
  obtain ⟨cs, fuel, p, hc, hd⟩ := head_of_laid (g := 0) (t := 157) h (by kernel_rfl) (by kernel_rfl)
  obtain ⟨h1, _⟩ := keyLits_of_trod 5 157 (by kernel_rfl) fuel cs.toList _ hd
  have h2 := cells_of_lits 5 157 (by kernel_rfl) 5 cs.toList _ h1
  rw [shapes_flat] at h2
  intro j v hv
  rw [hc j, ← Array.getElem?_toList, h2]
  exact hv
set_option maxRecDepth 100000 in
theorem laid_start (os : Os) (args : Array Value) : laidMetH Tryd.prog laidHere ((World.laidAll Tryd.prog os laidHere).forCall (fun _ _ => 0) ⟨#[], args, []⟩).memory := by
  rw [MakeChecks.laidMetH_plain _ _ _ (by kernel_rfl)]
  exact laidMet_laidAll _ (by kernel_rfl) (by kernel_rfl)
/-- 'There is an input that fits', at a row that lists variables. -/
theorem witness_row {H : Type} {enc : TypeId × Value → H} {os : Os} {f : FuncId} {fn : Func} {s : OpenSpec} {conds : List PathCond} {laid : List (String × DataW Unit)} (args : Array Value)
    (hsh : ((World.laidAll Tryd.prog os laidHere).forCall (fun _ _ => 0) ⟨#[], args, []⟩).Shaped Tryd.prog)
    (hok : Input.okWideB Tryd.prog ((World.laidAll Tryd.prog os laidHere).forCall (fun _ _ => 0) ⟨#[], args, []⟩) f ⟨#[], args, []⟩ = true)
    (hrow : s.preRow enc Tryd.prog fn conds false laid ((World.laidAll Tryd.prog os laidHere).forCall (fun _ _ => 0) ⟨#[], args, []⟩).memory args) :
    ∃ (w : World) (tape : Tape) (i : Input), w.os = os ∧ (w.forCall tape i).Shaped Tryd.prog ∧ i.vars = [] ∧ Input.okWide Tryd.prog (w.forCall tape i) .any w.heap.size f i ∧
      s.preRow enc Tryd.prog fn conds false laid (w.forCall tape i).memory i.args ∧ ({} : Assume).holds Tryd.prog (lone (Frame.enter Tryd.prog f i.args .normal) [] (w.forCall tape i)) :=
  ⟨World.laidAll Tryd.prog os laidHere, fun _ _ => 0, ⟨#[], args, []⟩, World.laidAll_os _ _ _, hsh, (Input.okWide_of_okWideB (base := 0) hok).1, (Input.okWide_of_okWideB hok).2, hrow, by
    simp only [Assume.holds]
    exact ⟨by simp, by simp, (by intro h; first | exact Modest.zero | cases h), by simp, by simp⟩⟩
theorem shps_of_row {W : World} (h : laidMetH Tryd.prog laidHere W) : Cod.Shps W := by
  rw [MakeChecks.laidMetH_plain _ _ _ (by kernel_rfl)] at h
  exact sh_of_laid h
end Go.Proofs.YtfkhfjefddgkoaaDoor

namespace Go.Proofs.YtfkhfjefddgkoaaDoor
open Go.RowKit

abbrev str (l : Str) : Value := .string ⟨l.toArray⟩
theorem conv_string {w : World} {P : Nat → Prop} {A : Option Addr} {n c : Nat} {l : Str} (h : Src w P A n c (cells l)) : (convert 55 9 (.slice A n c)).run Tryd.prog w = .ok (str l) w := by
  have hl : l.length = n := by have := h.len; simpa [cells_len] using this
  subst hl
  cases A with
  | none =>
    have h0 := (h.nil rfl).1
    have : l = [] := List.eq_nil_of_length_eq_zero h0
    subst this
    exact run_convert_bytes_nil w 55 5 Tryd.underlying55 Tryd.underlying5 _ _ 9 Tryd.underlying9
  | some a =>
    exact run_convert_bytes_back w 55 9 5 a c l Tryd.underlying55 Tryd.underlying5 Tryd.underlying9 fun j hj => h.at_ a rfl j _ (by simp [cells, hj])
theorem put_hold (ss : List Seg) (a : Int) (ms : Str) (x n : Int) : holdS (putS ss a ms) x n = (holdS ss x n).map fun s => if inS a ms.length s = true then ⟨s.at_, s.size, s.perm, over s.f (a - s.at_).toNat ms⟩ else s := by
  unfold holdS putS
  rw [find_map]
  congr 2
  funext s
  split <;> rfl
theorem put_goes (ss : List Seg) (a : Int) (ms : Str) (x n need : Int) : goesS (putS ss a ms) x n need = goesS ss x n need := by
  unfold goesS
  rw [put_hold]
  cases holdS ss x n with
  | none => rfl
  | some s =>
    simp only [Option.map_some]
    split
    · rfl
    · split <;> rfl
theorem goes_hold {ss : List Seg} {a n need : Int} (h : goesS ss a n need = 0) : ∃ s, holdS ss a n = some s := by
  unfold goesS at h
  split at h
  · cases h
  · cases hh : holdS ss a n with
    | none => rw [hh] at h; cases h
    | some s => exact ⟨s, rfl⟩
theorem put_got {ss : List Seg} {a need : Int} {ms : Str} (h : goesS ss a ms.length need = 0) : gotS (putS ss a ms) a ms.length = ms := by
  obtain ⟨s, hs⟩ := goes_hold h
  obtain ⟨_, h1, h2⟩ := hold_in hs
  unfold gotS
  rw [put_hold, hs]
  simp only [Option.map_some]
  rw [if_pos (show inS a ms.length s = true by unfold inS; simpa using ⟨h1, h2⟩)]
  apply List.ext_getElem
  · simp
  · intro j h3 h4
    simp only [List.getElem_map, List.getElem_range]
    unfold over
    rw [if_pos (by omega), List.getD_eq_getElem?_getD, show (a - s.at_).toNat + j - (a - s.at_).toNat = j by omega, List.getElem?_eq_getElem h4]
    rfl
theorem put_other {ss : List Seg} {a x : Int} {ms : Str} (h : ¬ (a ≤ x ∧ x - a < ms.length)) : gotS (putS ss a ms) x 1 = gotS ss x 1 := by
  unfold gotS
  rw [put_hold]
  cases hs : holdS ss x 1 with
  | none => rfl
  | some s =>
    obtain ⟨_, h1, h2⟩ := hold_in hs
    simp only [Option.map_some]
    split
    · rename_i hin
      unfold inS at hin
      simp only [decide_eq_true_eq] at hin
      have e1 : (List.range (1 : Int).toNat) = [0] := rfl
      rw [e1]
      simp only [List.map_cons, List.map_nil]
      unfold over
      rw [if_neg (by omega)]
    · rfl
theorem goes_near {ss : List Seg} (hg : Good ss) {a n need : Int} (h : goesS ss a n need = 0) : 4096 ≤ a ∧ a ≤ 4294967296 := by
  obtain ⟨s, hs⟩ := goes_hold h
  obtain ⟨h0, h1, h2⟩ := hold_in hs
  have := hg.fit s h0
  have := (goes_len h).1
  omega
theorem Src.on {w w' : World} {P : Nat → Prop} {A : Option Addr} {n c : Nat} {xs : List Value} (h : Src w P A n c xs) (hb : Below w.heap.size w w') : Src w' (fun k => k < w'.heap.size) A n c xs := (h.lt.below hb (fun _ h => h)).lt
/-- What a read yields. -/
def readS (ss : List Seg) (a n need : Int) : Str := if goesS ss a n need = 0 then gotS ss a n else []
theorem Wq.took {w0 w : World} {g : Nat} {ss : List Seg} {Q : Nat → Prop} (h : Wq w0 w g ss Q) {f : Nat} {args : Array Value} {a n need : Int} (hc : ∀ F, Lies w w0.heap.size g F ss → Calls Tryd.prog f args w (TookS w ss a n need)) :
    Calls Tryd.prog f args w fun e w' => ∃ A c, e = .returned (.tuple #[.slice A (readS ss a n need).length c, .int .i64 (goesS ss a n need)]) ∧ Src w' (fun k => row A = some k) A (readS ss a n need).length c (cells (readS ss a n need)) ∧ Wq w0 w' g ss (fun k => Q k ∨ row A = some k) ∧ Below w.heap.size w w' := by
  obtain ⟨F, hl, _⟩ := h.2
  refine (hc F hl).mono fun e w' ⟨hb, A, l, c, h1, h2, h3⟩ => ?_
  subst h2
  refine ⟨A, c, h1, (Src.of_own h3).weak fun k hk => by rw [row_own] at hk; exact hk.1, (h.quiet hb).weak fun k hk => hk.imp id fun e => h3.lt k (by rw [row_own]; exact e), hb⟩
end Go.Proofs.YtfkhfjefddgkoaaDoor

namespace Go.Proofs.YtfkhfjefddgkoaaDoor
open Go.RowKit

/-- Two spaces, made since w0, that share nothing. -/
def W2 (w0 w : World) (g : Nat) (ss : List Seg) (g' : Nat) (ss' : List Seg) : Prop := Below w0.heap.size w0 w ∧ ∃ F F', Lies w w0.heap.size g F ss ∧ Lies w w0.heap.size g' F' ss' ∧ ∀ k, F k → ¬ F' k
theorem W2.swap {w0 w : World} {g g' : Nat} {ss ss' : List Seg} (h : W2 w0 w g ss g' ss') : W2 w0 w g' ss' g ss := by
  obtain ⟨hb, F, F', h1, h2, h3⟩ := h
  exact ⟨hb, F', F, h2, h1, fun k h h' => h3 k h' h⟩
theorem W2.went {w0 w w' : World} {g g' : Nat} {ss ss' s2 : List Seg} {F F' : Nat → Prop} (hb : Below w0.heap.size w0 w) (h1 : Lies w w0.heap.size g F ss) (h2 : Lies w w0.heap.size g' F' ss') (h3 : ∀ k, F k → ¬ F' k) (h : Went w w' w0.heap.size g F s2) : W2 w0 w' g s2 g' ss' := by
  obtain ⟨F2, p1, p2, p3⟩ := h
  refine ⟨hb.trans (p2.below (fun k hk => (h1.lt hk).1) hb.size), F2, F', p1, h2.beside p2 fun k hk hf => h3 k hf hk, fun k hk hk' => ?_⟩
  rcases p3 k hk with h | h
  · exact h3 k h hk'
  · have := (h2.lt hk').2
    omega
theorem W2.act {w0 w : World} {g g' : Nat} {ss ss' s2 : List Seg} (h : W2 w0 w g ss g' ss') {f : Nat} {args : Array Value} {v : Value} (hc : ∀ F, Lies w w0.heap.size g F ss → Calls Tryd.prog f args w fun e w' => e = .returned v ∧ Went w w' w0.heap.size g F s2) :
    Calls Tryd.prog f args w fun e w' => e = .returned v ∧ W2 w0 w' g s2 g' ss' := by
  obtain ⟨hb, F, F', h1, h2, h3⟩ := h
  exact (hc F h1).mono fun e w' hw => ⟨hw.1, W2.went hb h1 h2 h3 hw.2⟩
theorem W2.quiet {w0 w w' : World} {g g' : Nat} {ss ss' : List Seg} (h : W2 w0 w g ss g' ss') (hb' : Below w.heap.size w w') : W2 w0 w' g ss g' ss' := by
  obtain ⟨hb, F, F', h1, h2, h3⟩ := h
  exact ⟨hb.trans (hb'.mono hb.size), F, F', h1.below hb', h2.below hb', h3⟩
theorem W2.q {w0 w : World} {g g' : Nat} {ss ss' : List Seg} (h : W2 w0 w g ss g' ss') : Wq w0 w g ss (fun _ => False) := by
  obtain ⟨hb, F, F', h1, h2, h3⟩ := h
  exact ⟨hb, F, h1, fun _ h => h.elim⟩
theorem W2.of_copy {w0 w w' : World} {g : Nat} {ss : List Seg} {e : Ending} (h : Ws w0 w g ss) (hc : CopyS w ss e w') : ∃ gc, e = .returned (.pointer (some ⟨gc, 0, none⟩)) ∧ W2 w0 w' g ss gc ss := by
  obtain ⟨hb, F, hl⟩ := h
  obtain ⟨gc, F', he, h1, h2⟩ := hc
  refine ⟨gc, he, hb.trans (h2.mono hb.size), F, F', hl.below h2, ?_, fun k hk hk' => ?_⟩
  · obtain ⟨A, c, rs, p1, p2, p3, p4⟩ := h1
    exact ⟨A, c, rs, ⟨Nat.le_trans hb.size p1.hg, p1.box, own_more p1.own hb.size, fun r hr => own_more (p1.bytes r hr) hb.size, p1.short, p1.ne, p1.apart, p1.pair, p1.ord⟩, p2, p3, p4⟩
  · have := (hl.lt hk).2
    have := (h1.lt hk').1
    omega
theorem W2.took {w0 w : World} {g g' : Nat} {ss ss' : List Seg} (h : W2 w0 w g ss g' ss') {f : Nat} {args : Array Value} {a n need : Int} (hc : ∀ F, Lies w w0.heap.size g F ss → Calls Tryd.prog f args w (TookS w ss a n need)) :
    Calls Tryd.prog f args w fun e w' => ∃ A c, e = .returned (.tuple #[.slice A (readS ss a n need).length c, .int .i64 (goesS ss a n need)]) ∧ Src w' (fun k => k < w'.heap.size) A (readS ss a n need).length c (cells (readS ss a n need)) ∧ W2 w0 w' g ss g' ss' ∧ Below w.heap.size w w' :=
  (h.q.took hc).mono fun _ _ ⟨A, c, h1, h2, _, h4⟩ => ⟨A, c, h1, h2.lt, h.quiet h4, h4⟩
theorem W2.regions {w0 w : World} {g g' : Nat} {ss ss' : List Seg} (h : W2 w0 w g ss g' ss') : Calls Tryd.prog 34 #[.pointer (some ⟨g, 0, none⟩)] w fun e w' => ∃ A c, e = .returned (.slice A ss.length c) ∧ Gls w' A ss.length c (ss.map rgS) ∧ W2 w0 w' g ss g' ss' ∧ Below w.heap.size w w' :=
  h.q.regions.mono fun _ _ ⟨A, c, h1, h2, _, h4⟩ => ⟨A, c, h1, h2, h.quiet h4, h4⟩
theorem W2.few {w0 w : World} {g g' : Nat} {ss ss' : List Seg} (h : W2 w0 w g ss g' ss') : ss.length ≤ 67108864 := Good.few h.q

theorem store_refused {ss : List Seg} {a need : Int} {ms : Str} (h : (storeS ss a ms need).1 ≠ 0) : (storeS ss a ms need).2 = ss := by
  unfold storeS at h ⊢
  split
  · rename_i h0
    rw [if_pos h0] at h
    exact absurd rfl h
  · rfl
theorem act_refused {ss : List Seg} (hg : Good ss) {x : Ac} (h : (actS ss x).2.1 ≠ 0) : (actS ss x).2.2 = ss := by
  unfold actS at h ⊢
  split
  · rename_i h1
    rw [if_pos h1] at h
    rcases map_cases hg x.n x.perm with hc | hc | ⟨a, hc, _⟩
    · rw [hc]
    · rw [hc]
    · rw [hc] at h
      exact absurd rfl h
  rename_i h1
  rw [if_neg h1] at h
  split
  · rename_i h2
    rw [if_pos h2] at h
    simp only at h ⊢
    unfold mapAtS at h ⊢
    split
    · rename_i h3
      rw [if_pos h3] at h
      split
      · rename_i h4
        rw [if_pos h4] at h
        exact absurd rfl h
      · rfl
    · rfl
  rename_i h2
  rw [if_neg h2] at h
  split
  · rename_i h3
    rw [if_pos h3] at h
    simp only at h ⊢
    unfold unmapS at h ⊢
    split
    · rename_i h4
      rw [if_pos h4] at h
      exact absurd rfl h
    · rfl
  rename_i h3
  rw [if_neg h3] at h
  split
  · rename_i h4
    rw [if_pos h4] at h
    simp only at h ⊢
    unfold protS at h ⊢
    split
    · rename_i h5
      rw [if_pos h5] at h
      split
      · rename_i h6
        rw [if_pos h6] at h
        exact absurd rfl h
      · rfl
    · rfl
  rename_i h4
  rw [if_neg h4] at h
  split
  · rename_i h5
    rw [if_pos h5] at h
    exact store_refused h
  rename_i h5
  rw [if_neg h5] at h
  split
  · rename_i h6
    rw [if_pos h6] at h
    exact store_refused h
  rename_i h6
  rw [if_neg h6] at h
  split
  · rename_i h7
    rw [if_pos h7] at h
    exact store_refused h
  rename_i h7
  rw [if_neg h7] at h
  split
  · rename_i h8
    rw [if_pos h8] at h
    exact store_refused h
  · rfl
theorem gap_least {n : Int} : ∀ {ss : List Seg} {a r : Int}, gapS n a ss = some r → ∀ a', a ≤ a' → a' < r → ¬ freeS ss a' n
  | [], a, r, h, a', h1, h2 => by
    unfold gapS at h
    split at h
    · cases h; omega
    · cases h
  | s :: ss, a, r, h, a', h1, h2 => by
    intro hf
    unfold gapS at h
    split at h
    · cases h; omega
    · by_cases h3 : a' < s.at_ + s.size
      · rcases hf s (List.mem_cons_self ..) with h4 | h4 <;> omega
      · exact gap_least h a' (by omega) h2 fun x hx => hf x (List.mem_cons_of_mem _ hx)
theorem gap_map {ss : List Seg} (hg : Good ss) (n : Int) : (∃ e, (e = 1 ∨ e = 3) ∧ gapA ss n = (0, e) ∧ mapS ss n 3 = (0, e, ss)) ∨ ∃ a, gapA ss n = (a, 0) ∧ mapS ss n 3 = (a, 0, insS (newS a (up n) 3) ss) ∧ mapAtS ss a n 3 = (0, insS (newS a (up n) 3) ss) ∧ (4096 ≤ a ∧ a ≤ 4294967296) ∧ ∀ k : Nat, (mapAtS ss (a - 64 * (1 + (k : Int))) n 3).1 ≠ 0 ∧ (mapAtS ss (a - 64 * (1 + (k : Int))) n 3).2 = ss := by
  unfold gapA mapS
  cases hs : sizeB n with
  | false => exact .inl ⟨1, .inl rfl, rfl, rfl⟩
  | true =>
    have hs2 := size_of hs
    cases hgp : gapS n 4096 ss with
    | none => exact .inl ⟨3, .inr rfl, rfl, rfl⟩
    | some a =>
      obtain ⟨g1, g2, g3, g4⟩ := gapS_free hg (fun x hx => (hg.fit x hx).1) hgp
      have g5 := g4 (by omega)
      have hst : startB a n = true := by unfold startB; simp; omega
      refine .inr ⟨a, rfl, rfl, ?_, ⟨g1, by omega⟩, fun k => ?_⟩
      · unfold mapAtS
        rw [hs, hst, show permB 3 = true from rfl, if_pos (show (true && (true && true)) = true from rfl), if_pos g3]
      · unfold mapAtS
        split
        · rename_i hb
          obtain ⟨_, hb⟩ := (Bool.and_eq_true _ _).mp hb
          obtain ⟨_, hb⟩ := (Bool.and_eq_true _ _).mp hb
          have hb2 := start_of hb
          rw [if_neg (gap_least hgp _ hb2.2.1 (by omega))]
          exact ⟨by omega, rfl⟩
        · exact ⟨by omega, rfl⟩
end Go.Proofs.YtfkhfjefddgkoaaDoor
