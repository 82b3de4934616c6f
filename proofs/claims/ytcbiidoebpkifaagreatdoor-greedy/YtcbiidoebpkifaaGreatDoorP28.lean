/- Rounds of an atom, and two of them one behind the other: what each leaves to the other. -/
import Derived.Test.YtcbiidoebpkifaaGreatDoorP27
set_option linter.unusedVariables false
set_option linter.unusedSimpArgs false
namespace Go.Proofs.YtcbiidoebpkifaaGreatDoor.G

def starT (p : ByteArray) : ByteArray := p ++ ⟨#[42]⟩
def gr2T (p : ByteArray) : ByteArray := ⟨#[40]⟩ ++ p ++ ⟨#[42, 41, 40]⟩ ++ p ++ ⟨#[42, 41]⟩
def lz2T (p : ByteArray) : ByteArray := ⟨#[40]⟩ ++ p ++ ⟨#[42, 63, 41, 40]⟩ ++ p ++ ⟨#[42, 41]⟩
def noS : List Nat := [0, 0, 0, 0, 0, 0, 0, 0, 0, 0]
def grS : List Nat := [1, 2, 2, 2, 0, 0, 0, 0, 0, 0]
def lzS : List Nat := [1, 1, 1, 2, 0, 0, 0, 0, 0, 0]
def takesOf (p : ByteArray) : List Ins := (patC p).filter (fun x => x.op == 0)
def c1Of (p : ByteArray) : Rx.Q.Cls := match takesOf p with
  | x :: _ => x.cls
  | [] => ⟨0, 0, false⟩
def c2Of (p : ByteArray) : Rx.Q.Cls := match (takesOf p).reverse with
  | x :: _ => x.cls
  | [] => ⟨0, 0, false⟩
def sameC (a b : Rx.Q.Cls) : Bool := decide (a.lo = b.lo ∧ a.hi = b.hi ∧ a.hg = b.hg)
def caseL (p : ByteArray) : List (Bool × Bool) := if sameC (c1Of p) (c2Of p) then [(true, true)] else [(true, true), (true, false), (false, true)]
def roundB (p t : ByteArray) (sl : List Nat) : Bool := goodP t && runB (patC t) (c1Of p) (c2Of p) (caseL p) sl
def fit2B (t : ByteArray) : Bool := spanB (patC t) && (patM t).isEmpty && patN t == 2
def atomB (p : ByteArray) : Bool := decide (p.size ≤ 7) && goodP p && (matchM (patC p) ⟨#[97]⟩).isSome && roundB p (starT p) noS && roundB p (gr2T p) grS && fit2B (gr2T p) && roundB p (lz2T p) lzS && fit2B (lz2T p)
def tookB (p s : ByteArray) : Bool := allR (twoT (c1Of p) (c2Of p)) s s.size 0
theorem sameC_eq {a b : Rx.Q.Cls} (h : sameC a b = true) : a = b := by
  obtain ⟨h1, h2, h3⟩ := of_decide_eq_true h
  cases a; cases b
  simp_all
theorem caseL_ok (p : ByteArray) (r : Int) (h : twoT (c1Of p) (c2Of p) r = true) : (Rx.Q.hasC (c1Of p) r, Rx.Q.hasC (c2Of p) r) ∈ caseL p := by
  unfold twoT at h
  unfold caseL
  by_cases hs : sameC (c1Of p) (c2Of p) = true
  · rw [if_pos hs]
    have e := sameC_eq hs
    rw [← e] at h ⊢
    simp at h
    rw [h]
    simp
  · rw [if_neg hs]
    cases h1 : Rx.Q.hasC (c1Of p) r <;> cases h2 : Rx.Q.hasC (c2Of p) r
    · rw [h1, h2] at h; simp at h
    · simp
    · simp
    · simp
theorem round_match {p t : ByteArray} {sl : List Nat} (h : roundB p t sl = true) (s : ByteArray) : matchM (patC t) s = if tookB p s then some (sl.map (gam 0 s.size)) else none := by
  unfold roundB at h
  rw [Bool.and_eq_true] at h
  exact match_abs (runA_of (fit_of h.1) (caseL_ok p) h.2) s
theorem round_good {p t : ByteArray} {sl : List Nat} (h : roundB p t sl = true) : goodP t = true := by
  unfold roundB at h
  rw [Bool.and_eq_true] at h
  exact h.1
theorem fit2_of {t : ByteArray} (hg : goodP t = true) (h : fit2B t = true) : Fit2 (patC t) (patN t) (patM t) ∧ patN t = 2 := by
  unfold fit2B at h
  simp only [Bool.and_eq_true, List.isEmpty_iff, beq_iff_eq] at h
  obtain ⟨⟨h1, h2⟩, h3⟩ := h
  exact ⟨⟨fit_of hg, h1, by rw [h2]; simp, by rw [h2]; simp, by rw [h2]; simp⟩, h3⟩

def tplT : ByteArray := ⟨#[60, 36, 49, 124, 36, 123, 50, 125, 62, 36, 48, 36, 36]⟩
set_option maxRecDepth 100000 in
theorem tpl_six (F : ByteArray → ByteArray) : tempM F 13 tplT = [60] ++ ((F ⟨#[49]⟩).data.toList ++ ([124] ++ ((F ⟨#[50]⟩).data.toList ++ ([62] ++ ((F ⟨#[48]⟩).data.toList ++ ([36] ++ [])))))) := by
  have step : ∀ (f : Nat) (t : ByteArray) (a : ByteArray) (n : Nat) (u : ByteArray), ¬ t.size = 0 → firstM F t = (a, n) → t.extract n t.size = u → tempM F (f + 1) t = a.data.toList ++ tempM F f u := fun f t a n u h0 h1 h2 => by
    show (if t.size = 0 then [] else (firstM F t).1.data.toList ++ tempM F f (t.extract (firstM F t).2 t.size)) = _
    rw [if_neg h0, h1, h2]
  rw [step 12 tplT ⟨#[60]⟩ 1 ⟨#[36, 49, 124, 36, 123, 50, 125, 62, 36, 48, 36, 36]⟩ (by decide) (by kernel_rfl) (by kernel_rfl)]
  rw [step 11 _ (F ⟨#[49]⟩) 2 ⟨#[124, 36, 123, 50, 125, 62, 36, 48, 36, 36]⟩ (by decide) (by kernel_rfl) (by kernel_rfl)]
  rw [step 10 _ ⟨#[124]⟩ 1 ⟨#[36, 123, 50, 125, 62, 36, 48, 36, 36]⟩ (by decide) (by kernel_rfl) (by kernel_rfl)]
  rw [step 9 _ (F ⟨#[50]⟩) 4 ⟨#[62, 36, 48, 36, 36]⟩ (by decide) (by kernel_rfl) (by kernel_rfl)]
  rw [step 8 _ ⟨#[62]⟩ 1 ⟨#[36, 48, 36, 36]⟩ (by decide) (by kernel_rfl) (by kernel_rfl)]
  rw [step 7 _ (F ⟨#[48]⟩) 2 ⟨#[36, 36]⟩ (by decide) (by kernel_rfl) (by kernel_rfl)]
  rw [step 6 _ ⟨#[36]⟩ 2 ⟨#[]⟩ (by decide) (by kernel_rfl) (by kernel_rfl)]
  rw [temp_empty F 6 ⟨#[]⟩ rfl]
theorem tpl_two (F : ByteArray → ByteArray) : tplM F tplT = ⟨#[60]⟩ ++ F ⟨#[49]⟩ ++ ⟨#[124]⟩ ++ F ⟨#[50]⟩ ++ ⟨#[62]⟩ ++ F ⟨#[48]⟩ ++ ⟨#[36]⟩ := by
  unfold tplM
  rw [show tplT.size = 13 from rfl, tpl_six]
  apply ByteArray.ext
  apply Array.toList_inj.1
  simp [ByteArray.data_append]
theorem stand_at (s : ByteArray) (l : List (Int × Int)) (nm : List (ByteArray × Nat)) (n : ByteArray) (k : Nat) (a b : Nat) (h1 : gnB n = true) (h2 : gnN n = (k : Int)) (h3 : l[k]? = some ((a : Int), (b : Int))) : standM s l nm n = s.extract a b := by
  unfold standM
  rw [h1, h2]
  simp only [if_true]
  unfold numM
  rw [if_neg (by omega), Int.toNat_natCast, h3]
  dsimp only
  rw [if_neg (by omega), Int.toNat_natCast, Int.toNat_natCast]
set_option maxRecDepth 100000 in
theorem groups_gr (s : ByteArray) (nm : List (ByteArray × Nat)) : tplM (groupsM s (grS.map (gam 0 s.size)) 2 nm) tplT = ⟨#[60]⟩ ++ s ++ ⟨#[124, 62]⟩ ++ s ++ ⟨#[36]⟩ := by
  rw [tpl_two]
  have e1 : groupsM s (grS.map (gam 0 s.size)) 2 nm ⟨#[49]⟩ = s := by
    unfold groupsM
    rw [stand_at s _ nm ⟨#[49]⟩ 1 0 s.size (by kernel_rfl) (by kernel_rfl) (by rfl), ext_all]
  have e2 : groupsM s (grS.map (gam 0 s.size)) 2 nm ⟨#[50]⟩ = ⟨#[]⟩ := by
    unfold groupsM
    rw [stand_at s _ nm ⟨#[50]⟩ 2 s.size s.size (by kernel_rfl) (by kernel_rfl) (by rfl), ext_none]
  have e0 : groupsM s (grS.map (gam 0 s.size)) 2 nm ⟨#[48]⟩ = s := by
    unfold groupsM
    rw [stand_at s _ nm ⟨#[48]⟩ 0 0 s.size (by kernel_rfl) (by kernel_rfl) (by rfl), ext_all]
  rw [e1, e2, e0]
  apply ByteArray.ext
  apply Array.toList_inj.1
  simp [ByteArray.data_append]
set_option maxRecDepth 100000 in
theorem groups_lz (s : ByteArray) (nm : List (ByteArray × Nat)) : tplM (groupsM s (lzS.map (gam 0 s.size)) 2 nm) tplT = ⟨#[60, 124]⟩ ++ s ++ ⟨#[62]⟩ ++ s ++ ⟨#[36]⟩ := by
  rw [tpl_two]
  have ee : s.extract 0 0 = ⟨#[]⟩ := by
    apply ByteArray.ext
    exact Array.eq_empty_of_size_eq_zero (by show (s.extract 0 0).size = 0; rw [Go.Proofs.YtcbiidoebpkifaaGreatDoor.G.size_extract s 0 0 (Nat.zero_le _)])
  have e1 : groupsM s (lzS.map (gam 0 s.size)) 2 nm ⟨#[49]⟩ = ⟨#[]⟩ := by
    unfold groupsM
    rw [stand_at s _ nm ⟨#[49]⟩ 1 0 0 (by kernel_rfl) (by kernel_rfl) (by rfl), ee]
  have e2 : groupsM s (lzS.map (gam 0 s.size)) 2 nm ⟨#[50]⟩ = s := by
    unfold groupsM
    rw [stand_at s _ nm ⟨#[50]⟩ 2 0 s.size (by kernel_rfl) (by kernel_rfl) (by rfl), ext_all]
  have e0 : groupsM s (lzS.map (gam 0 s.size)) 2 nm ⟨#[48]⟩ = s := by
    unfold groupsM
    rw [stand_at s _ nm ⟨#[48]⟩ 0 0 s.size (by kernel_rfl) (by kernel_rfl) (by rfl), ext_all]
  rw [e1, e2, e0]
  apply ByteArray.ext
  apply Array.toList_inj.1
  simp [ByteArray.data_append]

structure GA (p : ByteArray) : Prop where
  sz : p.size ≤ 7
  g0 : goodP p = true
  one : (matchM (patC p) ⟨#[97]⟩).isSome = true
  g1 : goodP (starT p) = true
  m1 : ∀ s, (matchM (patC (starT p)) s).isSome = tookB p s
  g2 : goodP (gr2T p) = true
  f2 : Fit2 (patC (gr2T p)) (patN (gr2T p)) (patM (gr2T p))
  x2 : ∀ s, expM (gr2T p) s tplT = if tookB p s then ⟨#[60]⟩ ++ s ++ ⟨#[124, 62]⟩ ++ s ++ ⟨#[36]⟩ else ⟨#[]⟩
  g3 : goodP (lz2T p) = true
  f3 : Fit2 (patC (lz2T p)) (patN (lz2T p)) (patM (lz2T p))
  x3 : ∀ s, expM (lz2T p) s tplT = if tookB p s then ⟨#[60, 124]⟩ ++ s ++ ⟨#[62]⟩ ++ s ++ ⟨#[36]⟩ else ⟨#[]⟩
theorem ga_of {p : ByteArray} (h : atomB p = true) : GA p := by
  unfold atomB at h
  simp only [Bool.and_eq_true, decide_eq_true_eq] at h
  obtain ⟨⟨⟨⟨⟨⟨⟨h1, h2⟩, h3⟩, h4⟩, h5⟩, h6⟩, h7⟩, h8⟩ := h
  have f2 := fit2_of (round_good h5) h6
  have f3 := fit2_of (round_good h7) h8
  refine ⟨h1, h2, h3, round_good h4, fun s => ?_, round_good h5, f2.1, fun s => ?_, round_good h7, f3.1, fun s => ?_⟩
  · rw [round_match h4 s]
    cases tookB p s <;> rfl
  · unfold expM
    rw [round_match h5 s, f2.2]
    cases tookB p s with
    | true => exact groups_gr s _
    | false => rfl
  · unfold expM
    rw [round_match h7 s, f3.2]
    cases tookB p s with
    | true => exact groups_lz s _
    | false => rfl
def atoms : List ByteArray := [⟨#[97]⟩, ⟨#[91, 97, 98, 93]⟩, ⟨#[46]⟩, ⟨#[92, 119]⟩, ⟨#[91, 94, 98, 93]⟩, ⟨#[40, 63, 58, 97, 124, 98, 41]⟩]
set_option maxRecDepth 100000 in
theorem atoms_ok : atoms.all atomB = true := by kernel_rfl
theorem atom_ga {p : ByteArray} (h : p ∈ atoms) : GA p := ga_of (List.all_eq_true.1 atoms_ok p h)
end Go.Proofs.YtcbiidoebpkifaaGreatDoor.G
