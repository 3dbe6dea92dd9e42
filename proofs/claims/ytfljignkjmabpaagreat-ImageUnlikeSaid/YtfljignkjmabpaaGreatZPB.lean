/-
  writeList, whatever the method (written by mkx.py).
  What is written and read back, piece by piece: plain words.
-/
import Derived.Test.YtfljignkjmabpaaGreatZWB
import Derived.Test.YtfljignkjmabpaaGreatZFA
namespace Go.Proofs.YtfljignkjmabpaaGreat
set_option maxRecDepth 100000
set_option linter.unusedSimpArgs false
set_option linter.unusedVariables false
open Go.RowKit

/-- A list: its length in so many bytes, then each item. -/
def wListF (size : Int) (n : Nat) (f : Nat → St → St) (s : St) : St := (List.range n).foldl (fun t k => f k t) (wNumsA size [(n : Int)] s)
def wPart (f : Nat → St → St) (k : Nat) (t : St) : St := (List.range k).foldl (fun t k => f k t) t
theorem wPart_succ (f : Nat → St → St) (k : Nat) (t : St) : wPart f (k + 1) t = f k (wPart f k t) := by
  unfold wPart
  rw [List.range_succ, List.foldl_append]
  rfl
theorem wPart_len {f : Nat → St → St} {n cst : Nat} (hf : ∀ k t, k < n → (f k t).2.length ≤ t.2.length + cst) : ∀ (k : Nat) (t : St), k ≤ n → (wPart f k t).2.length ≤ t.2.length + cst * k
  | 0, t, _ => by simp [wPart]
  | k + 1, t, hk => by
    have h1 := wPart_len hf k t (by omega)
    have h2 := hf k (wPart f k t) (by omega)
    rw [wPart_succ, Nat.mul_succ]
    omega
theorem wListF_eq (size : Int) (n : Nat) (f : Nat → St → St) (s : St) : wListF size n f s = wPart f n (wNumsA size [(n : Int)] s) := rfl
/-- A list, item by item. -/
def wList {α : Type} (size : Int) (f : α → St → St) (l : List α) (s : St) : St := l.foldl (fun t x => f x t) (wNumsA size [(l.length : Int)] s)
theorem wPart_list {α : Type} (l : List α) (d : α) (f : α → St → St) (t : St) : wPart (fun k => f (l.getD k d)) l.length t = l.foldl (fun t x => f x t) t := by
  have : ∀ k, k ≤ l.length → wPart (fun k => f (l.getD k d)) k t = (l.take k).foldl (fun t x => f x t) t := by
    intro k
    induction k with
    | zero => intro _; rfl
    | succ k ih =>
      intro hk
      rw [wPart_succ, ih (by omega), List.take_succ_eq_append_getElem (by omega), List.foldl_append, List.getD_eq_getElem?_getD, List.getElem?_eq_getElem (by omega)]
      rfl
  rw [this _ (Nat.le_refl _), List.take_of_length_le (Nat.le_refl _)]
theorem wListF_list {α : Type} (size : Int) (l : List α) (d : α) (f : α → St → St) (s : St) : wListF size l.length (fun k => f (l.getD k d)) s = wList size f l s := wPart_list l d f _
theorem wList_len {α : Type} (size : Int) (f : α → St → St) (l : List α) (s : St) (cst : Nat) (hf : ∀ x ∈ l, ∀ t, (f x t).2.length ≤ t.2.length + cst) : (wList size f l s).2.length ≤ s.2.length + 8 + cst * l.length := by
  have h1 := wNumsA_len size [(l.length : Int)] s
  simp only [List.length_cons, List.length_nil] at h1
  have h2 : ∀ (m : List α) (t : St), (∀ x ∈ m, x ∈ l) → (m.foldl (fun t x => f x t) t).2.length ≤ t.2.length + cst * m.length := by
    intro m
    induction m with
    | nil => intro t _; simp
    | cons x m ih =>
      intro t hm
      have h3 := hf x (hm x (by simp)) t
      have h4 := ih (f x t) (fun y hy => hm y (by simp [hy]))
      rw [List.foldl_cons, List.length_cons, Nat.mul_succ]
      omega
  have h3 := h2 l (wNumsA size [(l.length : Int)] s) (fun _ h => h)
  unfold wList
  omega
set_option maxHeartbeats 1000000 in
theorem wlSeg_any {F : Nat → Prop} {G g : Nat} {s : St} (size : Int) (A : Option Addr) (n c : Nat) (ss : List Sg) (B : Nat → Option Addr × Nat) (fn cst : Nat) (f : Nat → St → St) (w : World) (h : Wi w F G g s) (hA : Els w F A n c 4 (fun k => sgA (ss.getD k noSg) (B k))) (hE : ∀ (args : Array Value) (X : World), (callFunc fn args).run Tryz.prog X = .ok (.enter fn args) X)
    (hf : ∀ k t, k < n → (f k t).2.length ≤ t.2.length + cst) (hnn : n ≤ 140737488355328) (hn : s.2.length + 8 + cst * n ≤ 140737488355328)
    (HF : ∀ k (t : St) (X : World), k < n → Wi X F G g t → Kp F w X → t.2.length + cst ≤ 140737488355328 → Calls Tryz.prog fn #[.pointer (some ⟨G, 0, none⟩), .agg (sgA (ss.getD k noSg) (B k))] X (Wro X F G g (f k t))) :
    Calls Tryz.prog 78 #[.pointer (some ⟨G, 0, none⟩), .int .i64 size, .func (.func fn) #[.pointer (some ⟨G, 0, none⟩)] #[], .slice A n c] w (Wro w F G g (wListF size n f s)) := by
  have H := Lib.hid hA
  have HP := Lib.hid HF
  have HFL := Lib.hid hf
  have hcap := hA.cap
  have hc := h.c0
  have HN := Lib.hid (h.nums size [(n : Int)] (by simp only [List.forall_mem_cons]; exact ⟨len_i64 hnn, by simp⟩) (by simp; omega))
  have HN := Lib.hid (show Calls Tryz.prog 77 #[.pointer (some ⟨g, 0, none⟩), .int .i64 size, .slice (some ⟨w.heap.size, 0, none⟩) 1 1] (w.alloc (.cells #[.int .i64 (n : Int)] 3)) (Wro w F G g (wNumsA size [(n : Int)] s)) from HN.out)
  have HQ := Lib.hid (show (wNumsA size [(n : Int)] s).2.length + cst * n ≤ 140737488355328 by have h1 := wNumsA_len size [(n : Int)] s; simp only [List.length_cons, List.length_nil] at h1; omega)
  have HW := Lib.hid (wListF_eq size n f s)
  generalize wListF size n f s = fin at *
  generalize wNumsA size [(n : Int)] s = s1 at *
  clear h hA HF hf hn
  go_enter Tryz.func78, Tryz.ntmps78
  go_wp2_with (go_at_call 77; (with_reducible refine (HN.out).mono ?_); rintro en w1 ⟨rfl, hw, hk⟩; have HW1 := Lib.hid hw; have HK1 := Lib.hid hk; clear hw hk)
  clear HN hc
  go_loopw [21] (fun t wr => ∃ k : Nat, k ≤ n ∧ t = .int .i64 k ∧ Wi wr F G g (wPart f k s1) ∧ Kp F w wr) (fun t _ => n - (intOf t).toNat)
  case atStart => exact ⟨0, Nat.zero_le _, rfl, HW1.out, HK1.out⟩
  case round =>
    obtain ⟨k, hk, rfl, hw, hkp⟩ := hrel
    have HWR := Lib.hid hw
    have HKR := Lib.hid hkp
    clear hw hkp
    by_cases hlt : k < n
    · obtain ⟨ad, rfl⟩ : ∃ ad, A = some ad := by
        cases A with
        | none => have := (H.out.nil rfl).1; omega
        | some ad => exact ⟨ad, rfl⟩
      obtain ⟨b, o, rfl⟩ := H.out.plain (by omega) rfl
      have hg := (H.out.keep fun k hk _ => HKR.out.block k hk).get k hlt
      have c0 := hg 0 _ rfl
      have c1 := hg 1 _ rfl
      have c2 := hg 2 _ rfl
      have c3 := hg 3 _ rfl
      simp only [Nat.add_zero] at c0
      clear hg
      have HPL := Lib.hid (wPart_succ f k s1)
      have HLE := Lib.hid (show (wPart f k s1).2.length + cst ≤ 140737488355328 by
        have h1 := wPart_len HFL.out k s1 (by omega)
        have h2 : cst * (k + 1) ≤ cst * n := Nat.mul_le_mul_left _ hlt
        rw [Nat.mul_succ] at h2
        have := HQ.out
        omega)
      have hbx := (Below.refl wr.heap.size wr).alloc (Nat.le_refl _) (.cells (sgA (ss.getD k noSg) (B k)) 61)
      have HKX := Lib.hid (HKR.out.trans (Kp.of_below hbx HWR.out.lt))
      have HC := Lib.hid (HP.out k _ (wr.alloc (.cells (sgA (ss.getD k noSg) (B k)) 61)) hlt (HWR.out.below hbx) HKX.out HLE.out)
      clear hbx
      generalize ss.getD k noSg = y at *
      go_wp2_with ((with_reducible refine (HC.out).mono ?_); rintro en w3 ⟨rfl, hw, hk3⟩; have HW3 := Lib.hid hw; have HK3 := Lib.hid hk3; clear hw hk3)
      go_roundw
      case rel => exact ⟨k + 1, by omega, by go_num, by rw [HPL.out]; exact HW3.out, HKX.out.trans HK3.out⟩
      case measure => simp [intOf]; omega
    · obtain rfl : k = n := by omega
      go_wp2
      first | go_end0 | skip
      exact ⟨rfl, by rw [HW.out]; exact HWR.out, HKR.out⟩
set_option maxHeartbeats 1000000 in
theorem wlNeed_any {F : Nat → Prop} {G g : Nat} {s : St} (size : Int) (A : Option Addr) (n c : Nat) (ss : List Nd) (B : Nat → Option Addr × Nat) (fn cst : Nat) (f : Nat → St → St) (w : World) (h : Wi w F G g s) (hA : Els w F A n c 2 (fun k => ndA (ss.getD k noNd) (B k))) (hE : ∀ (args : Array Value) (X : World), (callFunc fn args).run Tryz.prog X = .ok (.enter fn args) X)
    (hf : ∀ k t, k < n → (f k t).2.length ≤ t.2.length + cst) (hnn : n ≤ 140737488355328) (hn : s.2.length + 8 + cst * n ≤ 140737488355328)
    (HF : ∀ k (t : St) (X : World), k < n → Wi X F G g t → Kp F w X → t.2.length + cst ≤ 140737488355328 → Calls Tryz.prog fn #[.pointer (some ⟨G, 0, none⟩), .agg (ndA (ss.getD k noNd) (B k))] X (Wro X F G g (f k t))) :
    Calls Tryz.prog 80 #[.pointer (some ⟨G, 0, none⟩), .int .i64 size, .func (.func fn) #[.pointer (some ⟨G, 0, none⟩)] #[], .slice A n c] w (Wro w F G g (wListF size n f s)) := by
  have H := Lib.hid hA
  have HP := Lib.hid HF
  have HFL := Lib.hid hf
  have hcap := hA.cap
  have hc := h.c0
  have HN := Lib.hid (h.nums size [(n : Int)] (by simp only [List.forall_mem_cons]; exact ⟨len_i64 hnn, by simp⟩) (by simp; omega))
  have HN := Lib.hid (show Calls Tryz.prog 77 #[.pointer (some ⟨g, 0, none⟩), .int .i64 size, .slice (some ⟨w.heap.size, 0, none⟩) 1 1] (w.alloc (.cells #[.int .i64 (n : Int)] 3)) (Wro w F G g (wNumsA size [(n : Int)] s)) from HN.out)
  have HQ := Lib.hid (show (wNumsA size [(n : Int)] s).2.length + cst * n ≤ 140737488355328 by have h1 := wNumsA_len size [(n : Int)] s; simp only [List.length_cons, List.length_nil] at h1; omega)
  have HW := Lib.hid (wListF_eq size n f s)
  generalize wListF size n f s = fin at *
  generalize wNumsA size [(n : Int)] s = s1 at *
  clear h hA HF hf hn
  go_enter Tryz.func80, Tryz.ntmps80
  go_wp2_with (go_at_call 77; (with_reducible refine (HN.out).mono ?_); rintro en w1 ⟨rfl, hw, hk⟩; have HW1 := Lib.hid hw; have HK1 := Lib.hid hk; clear hw hk)
  clear HN hc
  go_loopw [21] (fun t wr => ∃ k : Nat, k ≤ n ∧ t = .int .i64 k ∧ Wi wr F G g (wPart f k s1) ∧ Kp F w wr) (fun t _ => n - (intOf t).toNat)
  case atStart => exact ⟨0, Nat.zero_le _, rfl, HW1.out, HK1.out⟩
  case round =>
    obtain ⟨k, hk, rfl, hw, hkp⟩ := hrel
    have HWR := Lib.hid hw
    have HKR := Lib.hid hkp
    clear hw hkp
    by_cases hlt : k < n
    · obtain ⟨ad, rfl⟩ : ∃ ad, A = some ad := by
        cases A with
        | none => have := (H.out.nil rfl).1; omega
        | some ad => exact ⟨ad, rfl⟩
      obtain ⟨b, o, rfl⟩ := H.out.plain (by omega) rfl
      have hg := (H.out.keep fun k hk _ => HKR.out.block k hk).get k hlt
      have c0 := hg 0 _ rfl
      have c1 := hg 1 _ rfl
      simp only [Nat.add_zero] at c0
      clear hg
      have HPL := Lib.hid (wPart_succ f k s1)
      have HLE := Lib.hid (show (wPart f k s1).2.length + cst ≤ 140737488355328 by
        have h1 := wPart_len HFL.out k s1 (by omega)
        have h2 : cst * (k + 1) ≤ cst * n := Nat.mul_le_mul_left _ hlt
        rw [Nat.mul_succ] at h2
        have := HQ.out
        omega)
      have hbx := (Below.refl wr.heap.size wr).alloc (Nat.le_refl _) (.cells (ndA (ss.getD k noNd) (B k)) 98)
      have HKX := Lib.hid (HKR.out.trans (Kp.of_below hbx HWR.out.lt))
      have HC := Lib.hid (HP.out k _ (wr.alloc (.cells (ndA (ss.getD k noNd) (B k)) 98)) hlt (HWR.out.below hbx) HKX.out HLE.out)
      clear hbx
      generalize ss.getD k noNd = y at *
      go_wp2_with ((with_reducible refine (HC.out).mono ?_); rintro en w3 ⟨rfl, hw, hk3⟩; have HW3 := Lib.hid hw; have HK3 := Lib.hid hk3; clear hw hk3)
      go_roundw
      case rel => exact ⟨k + 1, by omega, by go_num, by rw [HPL.out]; exact HW3.out, HKX.out.trans HK3.out⟩
      case measure => simp [intOf]; omega
    · obtain rfl : k = n := by omega
      go_wp2
      first | go_end0 | skip
      exact ⟨rfl, by rw [HW.out]; exact HWR.out, HKR.out⟩
set_option maxHeartbeats 1000000 in
theorem wlSym_any {F : Nat → Prop} {G g : Nat} {s : St} (size : Int) (A : Option Addr) (n c : Nat) (ss : List Sym) (fn cst : Nat) (f : Nat → St → St) (w : World) (h : Wi w F G g s) (hA : Els w F A n c 9 (fun k => symA (ss.getD k noSy))) (hE : ∀ (args : Array Value) (X : World), (callFunc fn args).run Tryz.prog X = .ok (.enter fn args) X)
    (hf : ∀ k t, k < n → (f k t).2.length ≤ t.2.length + cst) (hnn : n ≤ 140737488355328) (hn : s.2.length + 8 + cst * n ≤ 140737488355328)
    (HF : ∀ k (t : St) (X : World), k < n → Wi X F G g t → Kp F w X → t.2.length + cst ≤ 140737488355328 → Calls Tryz.prog fn #[.pointer (some ⟨G, 0, none⟩), .agg (symA (ss.getD k noSy))] X (Wro X F G g (f k t))) :
    Calls Tryz.prog 83 #[.pointer (some ⟨G, 0, none⟩), .int .i64 size, .func (.func fn) #[.pointer (some ⟨G, 0, none⟩)] #[], .slice A n c] w (Wro w F G g (wListF size n f s)) := by
  have H := Lib.hid hA
  have HP := Lib.hid HF
  have HFL := Lib.hid hf
  have hcap := hA.cap
  have hc := h.c0
  have HN := Lib.hid (h.nums size [(n : Int)] (by simp only [List.forall_mem_cons]; exact ⟨len_i64 hnn, by simp⟩) (by simp; omega))
  have HN := Lib.hid (show Calls Tryz.prog 77 #[.pointer (some ⟨g, 0, none⟩), .int .i64 size, .slice (some ⟨w.heap.size, 0, none⟩) 1 1] (w.alloc (.cells #[.int .i64 (n : Int)] 3)) (Wro w F G g (wNumsA size [(n : Int)] s)) from HN.out)
  have HQ := Lib.hid (show (wNumsA size [(n : Int)] s).2.length + cst * n ≤ 140737488355328 by have h1 := wNumsA_len size [(n : Int)] s; simp only [List.length_cons, List.length_nil] at h1; omega)
  have HW := Lib.hid (wListF_eq size n f s)
  generalize wListF size n f s = fin at *
  generalize wNumsA size [(n : Int)] s = s1 at *
  clear h hA HF hf hn
  go_enter Tryz.func83, Tryz.ntmps83
  go_wp2_with (go_at_call 77; (with_reducible refine (HN.out).mono ?_); rintro en w1 ⟨rfl, hw, hk⟩; have HW1 := Lib.hid hw; have HK1 := Lib.hid hk; clear hw hk)
  clear HN hc
  go_loopw [21] (fun t wr => ∃ k : Nat, k ≤ n ∧ t = .int .i64 k ∧ Wi wr F G g (wPart f k s1) ∧ Kp F w wr) (fun t _ => n - (intOf t).toNat)
  case atStart => exact ⟨0, Nat.zero_le _, rfl, HW1.out, HK1.out⟩
  case round =>
    obtain ⟨k, hk, rfl, hw, hkp⟩ := hrel
    have HWR := Lib.hid hw
    have HKR := Lib.hid hkp
    clear hw hkp
    by_cases hlt : k < n
    · obtain ⟨ad, rfl⟩ : ∃ ad, A = some ad := by
        cases A with
        | none => have := (H.out.nil rfl).1; omega
        | some ad => exact ⟨ad, rfl⟩
      obtain ⟨b, o, rfl⟩ := H.out.plain (by omega) rfl
      have hg := (H.out.keep fun k hk _ => HKR.out.block k hk).get k hlt
      have c0 := hg 0 _ rfl
      have c1 := hg 1 _ rfl
      have c2 := hg 2 _ rfl
      have c3 := hg 3 _ rfl
      have c4 := hg 4 _ rfl
      have c5 := hg 5 _ rfl
      have c6 := hg 6 _ rfl
      have c7 := hg 7 _ rfl
      have c8 := hg 8 _ rfl
      simp only [Nat.add_zero] at c0
      clear hg
      have HPL := Lib.hid (wPart_succ f k s1)
      have HLE := Lib.hid (show (wPart f k s1).2.length + cst ≤ 140737488355328 by
        have h1 := wPart_len HFL.out k s1 (by omega)
        have h2 : cst * (k + 1) ≤ cst * n := Nat.mul_le_mul_left _ hlt
        rw [Nat.mul_succ] at h2
        have := HQ.out
        omega)
      have hbx := (Below.refl wr.heap.size wr).alloc (Nat.le_refl _) (.cells (symA (ss.getD k noSy)) 105)
      have HKX := Lib.hid (HKR.out.trans (Kp.of_below hbx HWR.out.lt))
      have HC := Lib.hid (HP.out k _ (wr.alloc (.cells (symA (ss.getD k noSy)) 105)) hlt (HWR.out.below hbx) HKX.out HLE.out)
      clear hbx
      generalize ss.getD k noSy = y at *
      go_wp2_with ((with_reducible refine (HC.out).mono ?_); rintro en w3 ⟨rfl, hw, hk3⟩; have HW3 := Lib.hid hw; have HK3 := Lib.hid hk3; clear hw hk3)
      go_roundw
      case rel => exact ⟨k + 1, by omega, by go_num, by rw [HPL.out]; exact HW3.out, HKX.out.trans HK3.out⟩
      case measure => simp [intOf]; omega
    · obtain rfl : k = n := by omega
      go_wp2
      first | go_end0 | skip
      exact ⟨rfl, by rw [HW.out]; exact HWR.out, HKR.out⟩
set_option maxHeartbeats 1000000 in
theorem wlRel_any {F : Nat → Prop} {G g : Nat} {s : St} (size : Int) (A : Option Addr) (n c : Nat) (ss : List Rl) (fn cst : Nat) (f : Nat → St → St) (w : World) (h : Wi w F G g s) (hA : Els w F A n c 4 (fun k => rlA (ss.getD k noRl))) (hE : ∀ (args : Array Value) (X : World), (callFunc fn args).run Tryz.prog X = .ok (.enter fn args) X)
    (hf : ∀ k t, k < n → (f k t).2.length ≤ t.2.length + cst) (hnn : n ≤ 140737488355328) (hn : s.2.length + 8 + cst * n ≤ 140737488355328)
    (HF : ∀ k (t : St) (X : World), k < n → Wi X F G g t → Kp F w X → t.2.length + cst ≤ 140737488355328 → Calls Tryz.prog fn #[.pointer (some ⟨G, 0, none⟩), .agg (rlA (ss.getD k noRl))] X (Wro X F G g (f k t))) :
    Calls Tryz.prog 86 #[.pointer (some ⟨G, 0, none⟩), .int .i64 size, .func (.func fn) #[.pointer (some ⟨G, 0, none⟩)] #[], .slice A n c] w (Wro w F G g (wListF size n f s)) := by
  have H := Lib.hid hA
  have HP := Lib.hid HF
  have HFL := Lib.hid hf
  have hcap := hA.cap
  have hc := h.c0
  have HN := Lib.hid (h.nums size [(n : Int)] (by simp only [List.forall_mem_cons]; exact ⟨len_i64 hnn, by simp⟩) (by simp; omega))
  have HN := Lib.hid (show Calls Tryz.prog 77 #[.pointer (some ⟨g, 0, none⟩), .int .i64 size, .slice (some ⟨w.heap.size, 0, none⟩) 1 1] (w.alloc (.cells #[.int .i64 (n : Int)] 3)) (Wro w F G g (wNumsA size [(n : Int)] s)) from HN.out)
  have HQ := Lib.hid (show (wNumsA size [(n : Int)] s).2.length + cst * n ≤ 140737488355328 by have h1 := wNumsA_len size [(n : Int)] s; simp only [List.length_cons, List.length_nil] at h1; omega)
  have HW := Lib.hid (wListF_eq size n f s)
  generalize wListF size n f s = fin at *
  generalize wNumsA size [(n : Int)] s = s1 at *
  clear h hA HF hf hn
  go_enter Tryz.func86, Tryz.ntmps86
  go_wp2_with (go_at_call 77; (with_reducible refine (HN.out).mono ?_); rintro en w1 ⟨rfl, hw, hk⟩; have HW1 := Lib.hid hw; have HK1 := Lib.hid hk; clear hw hk)
  clear HN hc
  go_loopw [21] (fun t wr => ∃ k : Nat, k ≤ n ∧ t = .int .i64 k ∧ Wi wr F G g (wPart f k s1) ∧ Kp F w wr) (fun t _ => n - (intOf t).toNat)
  case atStart => exact ⟨0, Nat.zero_le _, rfl, HW1.out, HK1.out⟩
  case round =>
    obtain ⟨k, hk, rfl, hw, hkp⟩ := hrel
    have HWR := Lib.hid hw
    have HKR := Lib.hid hkp
    clear hw hkp
    by_cases hlt : k < n
    · obtain ⟨ad, rfl⟩ : ∃ ad, A = some ad := by
        cases A with
        | none => have := (H.out.nil rfl).1; omega
        | some ad => exact ⟨ad, rfl⟩
      obtain ⟨b, o, rfl⟩ := H.out.plain (by omega) rfl
      have hg := (H.out.keep fun k hk _ => HKR.out.block k hk).get k hlt
      have c0 := hg 0 _ rfl
      have c1 := hg 1 _ rfl
      have c2 := hg 2 _ rfl
      have c3 := hg 3 _ rfl
      simp only [Nat.add_zero] at c0
      clear hg
      have HPL := Lib.hid (wPart_succ f k s1)
      have HLE := Lib.hid (show (wPart f k s1).2.length + cst ≤ 140737488355328 by
        have h1 := wPart_len HFL.out k s1 (by omega)
        have h2 : cst * (k + 1) ≤ cst * n := Nat.mul_le_mul_left _ hlt
        rw [Nat.mul_succ] at h2
        have := HQ.out
        omega)
      have hbx := (Below.refl wr.heap.size wr).alloc (Nat.le_refl _) (.cells (rlA (ss.getD k noRl)) 57)
      have HKX := Lib.hid (HKR.out.trans (Kp.of_below hbx HWR.out.lt))
      have HC := Lib.hid (HP.out k _ (wr.alloc (.cells (rlA (ss.getD k noRl)) 57)) hlt (HWR.out.below hbx) HKX.out HLE.out)
      clear hbx
      generalize ss.getD k noRl = y at *
      go_wp2_with ((with_reducible refine (HC.out).mono ?_); rintro en w3 ⟨rfl, hw, hk3⟩; have HW3 := Lib.hid hw; have HK3 := Lib.hid hk3; clear hw hk3)
      go_roundw
      case rel => exact ⟨k + 1, by omega, by go_num, by rw [HPL.out]; exact HW3.out, HKX.out.trans HK3.out⟩
      case measure => simp [intOf]; omega
    · obtain rfl : k = n := by omega
      go_wp2
      first | go_end0 | skip
      exact ⟨rfl, by rw [HW.out]; exact HWR.out, HKR.out⟩
set_option maxHeartbeats 1000000 in
theorem wlSlot_any {F : Nat → Prop} {G g : Nat} {s : St} (size : Int) (A : Option Addr) (n c : Nat) (ss : List Sl) (fn cst : Nat) (f : Nat → St → St) (w : World) (h : Wi w F G g s) (hA : Els w F A n c 3 (fun k => slA (ss.getD k noSl))) (hE : ∀ (args : Array Value) (X : World), (callFunc fn args).run Tryz.prog X = .ok (.enter fn args) X)
    (hf : ∀ k t, k < n → (f k t).2.length ≤ t.2.length + cst) (hnn : n ≤ 140737488355328) (hn : s.2.length + 8 + cst * n ≤ 140737488355328)
    (HF : ∀ k (t : St) (X : World), k < n → Wi X F G g t → Kp F w X → t.2.length + cst ≤ 140737488355328 → Calls Tryz.prog fn #[.pointer (some ⟨G, 0, none⟩), .agg (slA (ss.getD k noSl))] X (Wro X F G g (f k t))) :
    Calls Tryz.prog 88 #[.pointer (some ⟨G, 0, none⟩), .int .i64 size, .func (.func fn) #[.pointer (some ⟨G, 0, none⟩)] #[], .slice A n c] w (Wro w F G g (wListF size n f s)) := by
  have H := Lib.hid hA
  have HP := Lib.hid HF
  have HFL := Lib.hid hf
  have hcap := hA.cap
  have hc := h.c0
  have HN := Lib.hid (h.nums size [(n : Int)] (by simp only [List.forall_mem_cons]; exact ⟨len_i64 hnn, by simp⟩) (by simp; omega))
  have HN := Lib.hid (show Calls Tryz.prog 77 #[.pointer (some ⟨g, 0, none⟩), .int .i64 size, .slice (some ⟨w.heap.size, 0, none⟩) 1 1] (w.alloc (.cells #[.int .i64 (n : Int)] 3)) (Wro w F G g (wNumsA size [(n : Int)] s)) from HN.out)
  have HQ := Lib.hid (show (wNumsA size [(n : Int)] s).2.length + cst * n ≤ 140737488355328 by have h1 := wNumsA_len size [(n : Int)] s; simp only [List.length_cons, List.length_nil] at h1; omega)
  have HW := Lib.hid (wListF_eq size n f s)
  generalize wListF size n f s = fin at *
  generalize wNumsA size [(n : Int)] s = s1 at *
  clear h hA HF hf hn
  go_enter Tryz.func88, Tryz.ntmps88
  go_wp2_with (go_at_call 77; (with_reducible refine (HN.out).mono ?_); rintro en w1 ⟨rfl, hw, hk⟩; have HW1 := Lib.hid hw; have HK1 := Lib.hid hk; clear hw hk)
  clear HN hc
  go_loopw [21] (fun t wr => ∃ k : Nat, k ≤ n ∧ t = .int .i64 k ∧ Wi wr F G g (wPart f k s1) ∧ Kp F w wr) (fun t _ => n - (intOf t).toNat)
  case atStart => exact ⟨0, Nat.zero_le _, rfl, HW1.out, HK1.out⟩
  case round =>
    obtain ⟨k, hk, rfl, hw, hkp⟩ := hrel
    have HWR := Lib.hid hw
    have HKR := Lib.hid hkp
    clear hw hkp
    by_cases hlt : k < n
    · obtain ⟨ad, rfl⟩ : ∃ ad, A = some ad := by
        cases A with
        | none => have := (H.out.nil rfl).1; omega
        | some ad => exact ⟨ad, rfl⟩
      obtain ⟨b, o, rfl⟩ := H.out.plain (by omega) rfl
      have hg := (H.out.keep fun k hk _ => HKR.out.block k hk).get k hlt
      have c0 := hg 0 _ rfl
      have c1 := hg 1 _ rfl
      have c2 := hg 2 _ rfl
      simp only [Nat.add_zero] at c0
      clear hg
      have HPL := Lib.hid (wPart_succ f k s1)
      have HLE := Lib.hid (show (wPart f k s1).2.length + cst ≤ 140737488355328 by
        have h1 := wPart_len HFL.out k s1 (by omega)
        have h2 : cst * (k + 1) ≤ cst * n := Nat.mul_le_mul_left _ hlt
        rw [Nat.mul_succ] at h2
        have := HQ.out
        omega)
      have hbx := (Below.refl wr.heap.size wr).alloc (Nat.le_refl _) (.cells (slA (ss.getD k noSl)) 112)
      have HKX := Lib.hid (HKR.out.trans (Kp.of_below hbx HWR.out.lt))
      have HC := Lib.hid (HP.out k _ (wr.alloc (.cells (slA (ss.getD k noSl)) 112)) hlt (HWR.out.below hbx) HKX.out HLE.out)
      clear hbx
      generalize ss.getD k noSl = y at *
      go_wp2_with ((with_reducible refine (HC.out).mono ?_); rintro en w3 ⟨rfl, hw, hk3⟩; have HW3 := Lib.hid hw; have HK3 := Lib.hid hk3; clear hw hk3)
      go_roundw
      case rel => exact ⟨k + 1, by omega, by go_num, by rw [HPL.out]; exact HW3.out, HKX.out.trans HK3.out⟩
      case measure => simp [intOf]; omega
    · obtain rfl : k = n := by omega
      go_wp2
      first | go_end0 | skip
      exact ⟨rfl, by rw [HW.out]; exact HWR.out, HKR.out⟩
set_option maxHeartbeats 1000000 in
theorem wlRow_any {F : Nat → Prop} {G g : Nat} {s : St} (size : Int) (A : Option Addr) (n c : Nat) (rf : Nat → List Int) (fn cst : Nat) (f : Nat → St → St) (w : World) (h : Wi w F G g s) (hA : Rws w F A n c rf) (hE : ∀ (args : Array Value) (X : World), (callFunc fn args).run Tryz.prog X = .ok (.enter fn args) X)
    (hf : ∀ k t, k < n → (f k t).2.length ≤ t.2.length + cst) (hnn : n ≤ 140737488355328) (hn : s.2.length + 8 + cst * n ≤ 140737488355328)
    (HF : ∀ k (t : St) (X : World) (Ai : Option Addr) (ci : Nat), k < n → Src X F Ai (rf k).length ci (il (rf k)) → Wi X F G g t → Kp F w X → t.2.length + cst ≤ 140737488355328 → Calls Tryz.prog fn #[.pointer (some ⟨G, 0, none⟩), .slice Ai (rf k).length ci] X (Wro X F G g (f k t))) :
    Calls Tryz.prog 156 #[.pointer (some ⟨G, 0, none⟩), .int .i64 size, .func (.func fn) #[.pointer (some ⟨G, 0, none⟩)] #[], .slice A n c] w (Wro w F G g (wListF size n f s)) := by
  have H := Lib.hid hA
  have HP := Lib.hid HF
  have HFL := Lib.hid hf
  have hcap := hA.cap
  have hc := h.c0
  have HN := Lib.hid (h.nums size [(n : Int)] (by simp only [List.forall_mem_cons]; exact ⟨len_i64 hnn, by simp⟩) (by simp; omega))
  have HN := Lib.hid (show Calls Tryz.prog 77 #[.pointer (some ⟨g, 0, none⟩), .int .i64 size, .slice (some ⟨w.heap.size, 0, none⟩) 1 1] (w.alloc (.cells #[.int .i64 (n : Int)] 3)) (Wro w F G g (wNumsA size [(n : Int)] s)) from HN.out)
  have HQ := Lib.hid (show (wNumsA size [(n : Int)] s).2.length + cst * n ≤ 140737488355328 by have h1 := wNumsA_len size [(n : Int)] s; simp only [List.length_cons, List.length_nil] at h1; omega)
  have HW := Lib.hid (wListF_eq size n f s)
  generalize wListF size n f s = fin at *
  generalize wNumsA size [(n : Int)] s = s1 at *
  clear h hA HF hf hn
  go_enter Tryz.func156, Tryz.ntmps156
  go_wp2_with (go_at_call 77; (with_reducible refine (HN.out).mono ?_); rintro en w1 ⟨rfl, hw, hk⟩; have HW1 := Lib.hid hw; have HK1 := Lib.hid hk; clear hw hk)
  clear HN hc
  go_loopw [21] (fun t wr => ∃ k : Nat, k ≤ n ∧ t = .int .i64 k ∧ Wi wr F G g (wPart f k s1) ∧ Kp F w wr) (fun t _ => n - (intOf t).toNat)
  case atStart => exact ⟨0, Nat.zero_le _, rfl, HW1.out, HK1.out⟩
  case round =>
    obtain ⟨k, hk, rfl, hw, hkp⟩ := hrel
    have HWR := Lib.hid hw
    have HKR := Lib.hid hkp
    clear hw hkp
    by_cases hlt : k < n
    · obtain ⟨ad, rfl⟩ : ∃ ad, A = some ad := by
        cases A with
        | none => have := (H.out.nil rfl).1; omega
        | some ad => exact ⟨ad, rfl⟩
      obtain ⟨Ai, ci, hcell, hsrc⟩ := (H.out.keep (w' := wr) fun k hk _ => HKR.out.block k hk).at_ ad rfl k hlt
      have HPL := Lib.hid (wPart_succ f k s1)
      have HLE := Lib.hid (show (wPart f k s1).2.length + cst ≤ 140737488355328 by
        have h1 := wPart_len HFL.out k s1 (by omega)
        have h2 : cst * (k + 1) ≤ cst * n := Nat.mul_le_mul_left _ hlt
        rw [Nat.mul_succ] at h2
        have := HQ.out
        omega)
      have HC := Lib.hid (HP.out k _ wr Ai ci hlt hsrc HWR.out HKR.out HLE.out)
      have HKX := Lib.hid HKR.out
      clear hsrc
      go_wp2_with ((with_reducible refine (HC.out).mono ?_); rintro en w3 ⟨rfl, hw, hk3⟩; have HW3 := Lib.hid hw; have HK3 := Lib.hid hk3; clear hw hk3)
      go_roundw
      case rel => exact ⟨k + 1, by omega, by go_num, by rw [HPL.out]; exact HW3.out, HKX.out.trans HK3.out⟩
      case measure => simp [intOf]; omega
    · obtain rfl : k = n := by omega
      go_wp2
      first | go_end0 | skip
      exact ⟨rfl, by rw [HW.out]; exact HWR.out, HKR.out⟩
set_option maxHeartbeats 1000000 in
theorem wlWord_any {F : Nat → Prop} {G g : Nat} {s : St} (size : Int) (A : Option Addr) (n c : Nat) (L : List UInt64) (fn cst : Nat) (f : Nat → St → St) (w : World) (h : Wi w F G g s) (hA : Src w F A n c (Siv.wds L)) (hE : ∀ (args : Array Value) (X : World), (callFunc fn args).run Tryz.prog X = .ok (.enter fn args) X)
    (hf : ∀ k t, k < n → (f k t).2.length ≤ t.2.length + cst) (hnn : n ≤ 140737488355328) (hn : s.2.length + 8 + cst * n ≤ 140737488355328)
    (HF : ∀ k (t : St) (X : World), k < n → Wi X F G g t → Kp F w X → t.2.length + cst ≤ 140737488355328 → Calls Tryz.prog fn #[.pointer (some ⟨G, 0, none⟩), Siv.u64v (L.getD k 0)] X (Wro X F G g (f k t))) :
    Calls Tryz.prog 158 #[.pointer (some ⟨G, 0, none⟩), .int .i64 size, .func (.func fn) #[.pointer (some ⟨G, 0, none⟩)] #[], .slice A n c] w (Wro w F G g (wListF size n f s)) := by
  have H := Lib.hid hA
  have HP := Lib.hid HF
  have HFL := Lib.hid hf
  have hcap := hA.cap
  have hc := h.c0
  have HN := Lib.hid (h.nums size [(n : Int)] (by simp only [List.forall_mem_cons]; exact ⟨len_i64 hnn, by simp⟩) (by simp; omega))
  have HN := Lib.hid (show Calls Tryz.prog 77 #[.pointer (some ⟨g, 0, none⟩), .int .i64 size, .slice (some ⟨w.heap.size, 0, none⟩) 1 1] (w.alloc (.cells #[.int .i64 (n : Int)] 3)) (Wro w F G g (wNumsA size [(n : Int)] s)) from HN.out)
  have HQ := Lib.hid (show (wNumsA size [(n : Int)] s).2.length + cst * n ≤ 140737488355328 by have h1 := wNumsA_len size [(n : Int)] s; simp only [List.length_cons, List.length_nil] at h1; omega)
  have HW := Lib.hid (wListF_eq size n f s)
  generalize wListF size n f s = fin at *
  generalize wNumsA size [(n : Int)] s = s1 at *
  clear h hA HF hf hn
  go_enter Tryz.func158, Tryz.ntmps158
  go_wp2_with (go_at_call 77; (with_reducible refine (HN.out).mono ?_); rintro en w1 ⟨rfl, hw, hk⟩; have HW1 := Lib.hid hw; have HK1 := Lib.hid hk; clear hw hk)
  clear HN hc
  go_loopw [21] (fun t wr => ∃ k : Nat, k ≤ n ∧ t = .int .i64 k ∧ Wi wr F G g (wPart f k s1) ∧ Kp F w wr) (fun t _ => n - (intOf t).toNat)
  case atStart => exact ⟨0, Nat.zero_le _, rfl, HW1.out, HK1.out⟩
  case round =>
    obtain ⟨k, hk, rfl, hw, hkp⟩ := hrel
    have HWR := Lib.hid hw
    have HKR := Lib.hid hkp
    clear hw hkp
    by_cases hlt : k < n
    · obtain ⟨ad, rfl⟩ : ∃ ad, A = some ad := by
        cases A with
        | none => have := (H.out.nil rfl).1; omega
        | some ad => exact ⟨ad, rfl⟩
      have hkl : k < L.length := by have := H.out.len; simp [Siv.wds] at this; omega
      have hcell : wr.cell? (ad.add k) = some (.int .u64 ((L.getD k 0).toNat : Int)) := (H.out.kp HKR.out).at_ ad rfl k _ (by simp [Siv.wds, List.getElem?_eq_getElem hkl, List.getD_eq_getElem?_getD])
      have HPL := Lib.hid (wPart_succ f k s1)
      have HLE := Lib.hid (show (wPart f k s1).2.length + cst ≤ 140737488355328 by
        have h1 := wPart_len HFL.out k s1 (by omega)
        have h2 : cst * (k + 1) ≤ cst * n := Nat.mul_le_mul_left _ hlt
        rw [Nat.mul_succ] at h2
        have := HQ.out
        omega)
      have HC := Lib.hid (HP.out k _ wr hlt HWR.out HKR.out HLE.out)
      have HKX := Lib.hid HKR.out
      generalize L.getD k 0 = y at *
      go_wp2_with ((with_reducible refine (HC.out).mono ?_); rintro en w3 ⟨rfl, hw, hk3⟩; have HW3 := Lib.hid hw; have HK3 := Lib.hid hk3; clear hw hk3)
      go_roundw
      case rel => exact ⟨k + 1, by omega, by go_num, by rw [HPL.out]; exact HW3.out, HKX.out.trans HK3.out⟩
      case measure => simp [intOf]; omega
    · obtain rfl : k = n := by omega
      go_wp2
      first | go_end0 | skip
      exact ⟨rfl, by rw [HW.out]; exact HWR.out, HKR.out⟩
end Go.Proofs.YtfljignkjmabpaaGreat

namespace Go.Proofs.YtfljignkjmabpaaGreat
set_option maxRecDepth 100000
set_option linter.unusedSimpArgs false
set_option linter.unusedVariables false
open Go.RowKit

/-- A way to write a thing, and to read it; Ok: what can be written. A reading tells whether something stands in no form. -/
structure Cd {α : Type} (Ok : α → Prop) (f : α → St → St) (r : St → α × Bool × St) : Prop where
  stick : ∀ s, s.1 ≠ 0 → (r s).2.2 = s
  back : ∀ x, Ok x → ∃ d, (∀ bs, f x (0, bs) = (0, bs ++ d)) ∧ ∀ rest, r (0, d ++ rest) = (x, false, (0, rest))
  form : ∀ s, (r s).2.2.1 = 0 → (r s).2.1 = false → ∃ d, s.2 = d ++ (r s).2.2.2 ∧ ∀ bs, f (r s).1 (0, bs) = (0, bs ++ d)
theorem Cd.was {α : Type} {Ok : α → Prop} {f : α → St → St} {r : St → α × Bool × St} (h : Cd Ok f r) {s : St} (h0 : (r s).2.2.1 = 0) : s.1 = 0 := by
  by_cases hs : s.1 = 0
  · exact hs
  · rw [h.stick s hs] at h0
    exact h0
def rdNum (size : Int) (s : St) : Int × Bool × St := ((rNum size s).1, false, (rNum size s).2)
def rdText (s : St) : Str × Bool × St := ((rMeas 2 4096 s).1, false, (rMeas 2 4096 s).2)
def rdBlock (s : St) : Str × Bool × St := ((rMeas 4 1048576 s).1, false, (rMeas 4 1048576 s).2)
theorem cdNum (size : Nat) (hs : sized size = true) : Cd (fun n => fitB size n = true ∧ I64 n) (fun n => wNumsA size [n]) (rdNum size) := by
  refine ⟨fun s h => rNum_stick _ s h, fun n hn => ⟨digs n size, fun bs => ?_, fun rest => ?_⟩, fun s h _ => ?_⟩
  · unfold wNumsA
    rw [if_pos hs, Int.toNat_natCast]
    simp [wNums, wNum1, hn.1]
  · unfold rdNum
    rw [rNum_back' n size rest hs hn.1 hn.2]
  · obtain ⟨d, h1, h2⟩ := num_form size s [] h
    refine ⟨d, h1, fun bs => ?_⟩
    obtain ⟨d', h3, h4⟩ := num_form size s bs h
    have : d' = d := List.append_cancel_right (h3.symm.trans h1)
    rw [← this]
    exact h4
theorem cdMeas (size most : Nat) (hs : sized size = true) (h4 : size ≤ 4) (hf : ∀ k : Nat, k ≤ most → fitB size k = true) (hm : most ≤ 1048576) :
    Cd (fun l : Str => l.length ≤ most) (fun l => wMeas size most l) (fun s => ((rMeas size most s).1, false, (rMeas size most s).2)) := by
  refine ⟨fun s h => rMeas_stick _ _ s h, fun l hl => ⟨encText size l, fun bs => ?_, fun rest => ?_⟩, fun s h _ => ?_⟩
  · exact (wMeas_ok size most l bs (by simp [wMeas, hl])).1
  · show ((rMeas size most (0, encText size l ++ rest)).1, false, (rMeas size most (0, encText size l ++ rest)).2) = _
    rw [rMeas_back size most l rest hs h4 hf hm hl]
  · obtain ⟨d, h1, h2, _⟩ := meas_form size most s [] hs h4 h
    refine ⟨d, h1, fun bs => ?_⟩
    obtain ⟨d', h3, h4, _⟩ := meas_form size most s bs hs h4 h
    have : d' = d := List.append_cancel_right (h3.symm.trans h1)
    rw [← this]
    exact h4
theorem cdText : Cd (fun l : Str => l.length ≤ 4096) (fun l => wTexts [l]) rdText := cdMeas 2 4096 (by decide) (by decide) fit_text (by decide)
theorem cdBlock : Cd (fun l : Str => l.length ≤ 1048576) (fun l => wMeas 4 1048576 l) rdBlock := cdMeas 4 1048576 (by decide) (by decide) fit_block (by decide)
/-- A number of one, two or four bytes is not below nought. -/
theorem rNum_small (size : Nat) (h4 : size ≤ 4) (s : St) : 0 ≤ (rNum size s).1 := by
  unfold rNum
  split
  · rw [Int.toNat_natCast]
    show 0 ≤ val (rTake size s).1
    rw [val_small _ (Nat.le_trans (rTake_len _ _) h4)]
    omega
  · exact Int.le_refl _
def rdPair {α β : Type} (r1 : St → α × Bool × St) (r2 : St → β × Bool × St) (s : St) : (α × β) × Bool × St :=
  (((r1 s).1, (r2 (r1 s).2.2).1), (r1 s).2.1 || (r2 (r1 s).2.2).2.1, (r2 (r1 s).2.2).2.2)
theorem Cd.pair {α β : Type} {O1 : α → Prop} {O2 : β → Prop} {f1 : α → St → St} {f2 : β → St → St} {r1 : St → α × Bool × St} {r2 : St → β × Bool × St} (h1 : Cd O1 f1 r1) (h2 : Cd O2 f2 r2) :
    Cd (fun p : α × β => O1 p.1 ∧ O2 p.2) (fun p s => f2 p.2 (f1 p.1 s)) (rdPair r1 r2) := by
  refine ⟨fun s h => ?_, fun p hp => ?_, fun s h0 hb => ?_⟩
  · show (r2 (r1 s).2.2).2.2 = s
    rw [h1.stick s h, h2.stick s h]
  · obtain ⟨d1, a1, b1⟩ := h1.back p.1 hp.1
    obtain ⟨d2, a2, b2⟩ := h2.back p.2 hp.2
    refine ⟨d1 ++ d2, fun bs => ?_, fun rest => ?_⟩
    · show f2 p.2 (f1 p.1 (0, bs)) = _
      rw [a1, a2, List.append_assoc]
    · unfold rdPair
      rw [List.append_assoc, b1, b2]
      rfl
  · have h0' : (r2 (r1 s).2.2).2.2.1 = 0 := h0
    have hb' : ((r1 s).2.1 || (r2 (r1 s).2.2).2.1) = false := hb
    rw [Bool.or_eq_false_iff] at hb'
    have hm := h2.was h0'
    obtain ⟨d1, a1, b1⟩ := h1.form s hm hb'.1
    obtain ⟨d2, a2, b2⟩ := h2.form _ h0' hb'.2
    refine ⟨d1 ++ d2, ?_, fun bs => ?_⟩
    · show s.2 = d1 ++ d2 ++ (r2 (r1 s).2.2).2.2.2
      rw [a1, a2, List.append_assoc]
    · show f2 (r2 (r1 s).2.2).1 (f1 (r1 s).1 (0, bs)) = _
      rw [b1, b2, List.append_assoc]
theorem Cd.map {α β : Type} {O : α → Prop} {f : α → St → St} {r : St → α × Bool × St} (h : Cd O f r) (g : α → β) (k : β → α) (hg : ∀ y, g (k y) = y) (hk : ∀ s, (r s).2.2.1 = 0 → (r s).2.1 = false → k (g (r s).1) = (r s).1) :
    Cd (fun y => O (k y)) (fun y => f (k y)) (fun s => (g (r s).1, (r s).2)) := by
  refine ⟨fun s hs => h.stick s hs, fun y hy => ?_, fun s h0 hb => ?_⟩
  · obtain ⟨d, a, b⟩ := h.back (k y) hy
    refine ⟨d, a, fun rest => ?_⟩
    show (g (r (0, d ++ rest)).1, (r (0, d ++ rest)).2) = _
    rw [b, hg]
  · obtain ⟨d, a, b⟩ := h.form s h0 hb
    refine ⟨d, a, fun bs => ?_⟩
    show f (k (g (r s).1)) (0, bs) = _
    rw [hk s h0 hb, b]
theorem Cd.same {α : Type} {O O' : α → Prop} {f f' : α → St → St} {r r' : St → α × Bool × St} (h : Cd O f r) (hO : ∀ x, O' x → O x) (hf : ∀ x s, f' x s = f x s) (hr : ∀ s, r' s = r s) : Cd O' f' r' := by
  have e1 : f' = f := funext fun x => funext fun s => hf x s
  have e2 : r' = r := funext hr
  subst e1 e2
  exact ⟨h.stick, fun x hx => h.back x (hO x hx), h.form⟩
def rdMany {α : Type} (r : St → α × Bool × St) : Nat → St → List α × Bool × St
  | 0, s => ([], false, s)
  | n + 1, s => ((r s).1 :: (rdMany r n (r s).2.2).1, (r s).2.1 || (rdMany r n (r s).2.2).2.1, (rdMany r n (r s).2.2).2.2)
theorem rdMany_len {α : Type} (r : St → α × Bool × St) : ∀ n s, (rdMany r n s).1.length = n
  | 0, _ => rfl
  | n + 1, s => by simp [rdMany, rdMany_len r n]
theorem rdMany_stick {α : Type} {O : α → Prop} {f : α → St → St} {r : St → α × Bool × St} (h : Cd O f r) : ∀ n s, s.1 ≠ 0 → (rdMany r n s).2.2 = s
  | 0, _, _ => rfl
  | n + 1, s, hs => by
    show (rdMany r n (r s).2.2).2.2 = s
    rw [h.stick s hs, rdMany_stick h n s hs]
theorem rdMany_back {α : Type} {O : α → Prop} {f : α → St → St} {r : St → α × Bool × St} (h : Cd O f r) : ∀ l : List α, (∀ x ∈ l, O x) → ∃ d, (∀ bs, l.foldl (fun t x => f x t) (0, bs) = (0, bs ++ d)) ∧ ∀ rest, rdMany r l.length (0, d ++ rest) = (l, false, (0, rest))
  | [], _ => ⟨[], fun bs => by simp, fun rest => rfl⟩
  | x :: l, hx => by
    obtain ⟨d1, a1, b1⟩ := h.back x (hx x (by simp))
    obtain ⟨d2, a2, b2⟩ := rdMany_back h l (fun y hy => hx y (by simp [hy]))
    refine ⟨d1 ++ d2, fun bs => ?_, fun rest => ?_⟩
    · rw [List.foldl_cons, a1, a2, List.append_assoc]
    · show ((r (0, d1 ++ d2 ++ rest)).1 :: _, _, _) = _
      rw [List.append_assoc, b1, b2]
      rfl
theorem rdMany_form {α : Type} {O : α → Prop} {f : α → St → St} {r : St → α × Bool × St} (h : Cd O f r) : ∀ n s, (rdMany r n s).2.2.1 = 0 → (rdMany r n s).2.1 = false → ∃ d, s.2 = d ++ (rdMany r n s).2.2.2 ∧ ∀ bs, (rdMany r n s).1.foldl (fun t x => f x t) (0, bs) = (0, bs ++ d)
  | 0, s, _, _ => ⟨[], rfl, fun bs => by simp [rdMany]⟩
  | n + 1, s, h0, hb => by
    have h0' : (rdMany r n (r s).2.2).2.2.1 = 0 := h0
    have hb' : ((r s).2.1 || (rdMany r n (r s).2.2).2.1) = false := hb
    rw [Bool.or_eq_false_iff] at hb'
    have hm : (r s).2.2.1 = 0 := by
      by_cases hz : (r s).2.2.1 = 0
      · exact hz
      · rw [rdMany_stick h n _ hz] at h0'
        exact h0'
    obtain ⟨d1, a1, b1⟩ := h.form s hm hb'.1
    obtain ⟨d2, a2, b2⟩ := rdMany_form h n _ h0' hb'.2
    refine ⟨d1 ++ d2, ?_, fun bs => ?_⟩
    · show s.2 = d1 ++ d2 ++ (rdMany r n (r s).2.2).2.2.2
      rw [a1, a2, List.append_assoc]
    · show ((r s).1 :: (rdMany r n (r s).2.2).1).foldl _ _ = _
      rw [List.foldl_cons, b1, b2, List.append_assoc]
def rdList {α : Type} (size : Int) (r : St → α × Bool × St) (s : St) : List α × Bool × St := rdMany r (rNum size s).1.toNat (rNum size s).2
theorem Cd.list {α : Type} {O : α → Prop} {f : α → St → St} {r : St → α × Bool × St} (h : Cd O f r) (size : Nat) (hs : sized size = true) (h4 : size ≤ 4) :
    Cd (fun l : List α => (fitB size (l.length : Int) = true ∧ I64 (l.length : Int)) ∧ ∀ x ∈ l, O x) (fun l => wList size f l) (rdList size r) := by
  have hn := cdNum size hs
  refine ⟨fun s hs' => ?_, fun l hl => ?_, fun s h0 hb => ?_⟩
  · show (rdMany r _ (rNum size s).2).2.2 = s
    have e : (rNum size s).2 = s := hn.stick s hs'
    rw [e, rdMany_stick h _ _ hs']
  · obtain ⟨d1, a1, b1⟩ := hn.back (l.length : Int) hl.1
    obtain ⟨d2, a2, b2⟩ := rdMany_back h l hl.2
    refine ⟨d1 ++ d2, fun bs => ?_, fun rest => ?_⟩
    · show l.foldl _ (wNumsA size [(l.length : Int)] (0, bs)) = _
      have q : wNumsA size [(l.length : Int)] (0, bs) = (0, bs ++ d1) := a1 bs
      rw [q, a2, List.append_assoc]
    · have e := b1 (d2 ++ rest)
      unfold rdNum at e
      simp only [Prod.mk.injEq, true_and] at e
      show rdMany r (rNum size (0, d1 ++ d2 ++ rest)).1.toNat (rNum size (0, d1 ++ d2 ++ rest)).2 = _
      rw [List.append_assoc, e.1, e.2, Int.toNat_natCast, b2]
  · have hm : (rNum size s).2.1 = 0 := by
      by_cases hz : (rNum size s).2.1 = 0
      · exact hz
      · have h0' : (rdMany r (rNum size s).1.toNat (rNum size s).2).2.2.1 = 0 := h0
        rw [rdMany_stick h _ _ hz] at h0'
        exact h0'
    obtain ⟨d1, a1, b1⟩ := hn.form s hm rfl
    obtain ⟨d2, a2, b2⟩ := rdMany_form h _ _ h0 hb
    refine ⟨d1 ++ d2, ?_, fun bs => ?_⟩
    · have a1' : s.2 = d1 ++ (rNum size s).2.2 := a1
      show s.2 = d1 ++ d2 ++ (rdMany r (rNum size s).1.toNat (rNum size s).2).2.2.2
      rw [a1', a2, List.append_assoc]
    · show (rdMany r (rNum size s).1.toNat (rNum size s).2).1.foldl _ (wNumsA size [((rdMany r (rNum size s).1.toNat (rNum size s).2).1.length : Int)] (0, bs)) = _
      have e : (((rdMany r (rNum size s).1.toNat (rNum size s).2).1.length : Nat) : Int) = (rNum size s).1 := by
        rw [rdMany_len]
        have := rNum_small size h4 s
        omega
      have q : wNumsA size [(rNum size s).1] (0, bs) = (0, bs ++ d1) := b1 bs
      rw [e, q, b2, List.append_assoc]
theorem cdNum' {size : Int} (k : Nat) (hk : size = (k : Int)) (hs : sized size = true) : Cd (fun n => fitB size n = true ∧ I64 n) (fun n => wNumsA size [n]) (rdNum size) := by
  subst hk
  exact cdNum k hs
theorem cd1 : Cd (fun n => fitB 1 n = true ∧ I64 n) (fun n => wNumsA 1 [n]) (rdNum 1) := cdNum' 1 rfl (by decide)
theorem cd2 : Cd (fun n => fitB 2 n = true ∧ I64 n) (fun n => wNumsA 2 [n]) (rdNum 2) := cdNum' 2 rfl (by decide)
theorem cd4 : Cd (fun n => fitB 4 n = true ∧ I64 n) (fun n => wNumsA 4 [n]) (rdNum 4) := cdNum' 4 rfl (by decide)
theorem cd8 : Cd (fun n => fitB 8 n = true ∧ I64 n) (fun n => wNumsA 8 [n]) (rdNum 8) := cdNum' 8 rfl (by decide)
theorem Cd.list' {α : Type} {O : α → Prop} {f : α → St → St} {r : St → α × Bool × St} (h : Cd O f r) {size : Int} (k : Nat) (hk : size = (k : Int)) (hs : sized size = true) (h4 : k ≤ 4) :
    Cd (fun l : List α => (fitB size (l.length : Int) = true ∧ I64 (l.length : Int)) ∧ ∀ x ∈ l, O x) (fun l => wList size f l) (rdList size r) := by
  subst hk
  exact h.list k hs h4
theorem rNum_nn {size : Int} (h4 : size ≤ 4) (s : St) : 0 ≤ (rNum size s).1 := by
  by_cases hs : sized size = true
  · obtain ⟨k, rfl⟩ : ∃ k : Nat, size = k := ⟨size.toNat, by simp only [sized, decide_eq_true_eq] at hs; omega⟩
    exact rNum_small k (by omega) s
  · unfold rNum
    rw [if_neg hs]
    exact Int.le_refl _
/-- A flag: what a number of one byte says. -/
def bitOf (n : Int) : Bool := n == 1
def bitBad (n : Int) : Bool := decide (1 < n)
def mkBit (t : Int × St) : Bool × Bool × St := (bitOf t.1, bitBad t.1, t.2)
theorem mkBit_st (t : Int × St) : (mkBit t).2.2 = t.2 := rfl
theorem mkBit_bad (t : Int × St) : (mkBit t).2.1 = bitBad t.1 := rfl
theorem mkBit_val (t : Int × St) : (mkBit t).1 = bitOf t.1 := rfl
def rdBit (s : St) : Bool × Bool × St := mkBit (rNum 1 s)
theorem rdBit_eq (s : St) : rdBit s = mkBit (rNum 1 s) := rfl
theorem bit_one {n : Int} (h0 : 0 ≤ n) (h : bitBad n = false) : oneI (bitOf n) = n := by
  unfold bitBad at h
  simp only [decide_eq_false_iff_not] at h
  unfold bitOf oneI
  by_cases hz : n = 1
  · subst hz; rfl
  · have : n = 0 := by omega
    subst this
    rfl
theorem one_bit (b : Bool) : bitOf (oneI b) = b ∧ bitBad (oneI b) = false := by cases b <;> exact ⟨rfl, rfl⟩
theorem one_fit (b : Bool) : fitB 1 (oneI b) = true := by cases b <;> decide
theorem cdBit : Cd (fun _ : Bool => True) (fun b => wNumsA 1 [oneI b]) rdBit := by
  refine ⟨fun s h => ?_, fun b _ => ?_, fun s h0 hb => ?_⟩
  · rw [rdBit_eq, mkBit_st]
    exact rNum_stick 1 s h
  · obtain ⟨d, a, c⟩ := cd1.back (oneI b) ⟨one_fit b, one_i64 b⟩
    refine ⟨d, a, fun rest => ?_⟩
    have e : rNum 1 (0, d ++ rest) = (oneI b, (0, rest)) := by
      have e := c rest
      unfold rdNum at e
      simp only [Prod.mk.injEq, true_and] at e
      exact Prod.ext e.1 e.2
    rw [rdBit_eq, e]
    refine Prod.ext ?_ (Prod.ext ?_ ?_)
    · rw [mkBit_val]; exact (one_bit b).1
    · rw [mkBit_bad]; exact (one_bit b).2
    · rw [mkBit_st]
  · rw [rdBit_eq, mkBit_st] at h0
    rw [rdBit_eq, mkBit_bad] at hb
    obtain ⟨d, h1, h2⟩ := num_form 1 s [] h0
    rw [rdBit_eq, mkBit_st, mkBit_val]
    refine ⟨d, h1, fun bs => ?_⟩
    obtain ⟨d', h3, h4⟩ := num_form 1 s bs h0
    have e : d' = d := List.append_cancel_right (h3.symm.trans h1)
    rw [← e, bit_one (rNum_nn (by decide) s) hb]
    exact h4
end Go.Proofs.YtfljignkjmabpaaGreat
