/- Y4 X3 X9, one behind the other. -/
import Derived.Test.YtcbiidoebpkifaaGreatDoorM37
import Derived.Test.YtcbiidoebpkifaaGreatDoorM44
import Derived.Test.YtcbiidoebpkifaaGreatDoorM01
import Derived.Test.YtcbiidoebpkifaaGreatDoorM05
import Derived.Test.YtcbiidoebpkifaaGreatDoorM33
import Derived.Test.YtcbiidoebpkifaaGreatDoorM34
import Derived.Lib.AppendIntMem
import Derived.Deep.RegionHeld3
set_option linter.unusedVariables false
set_option linter.unusedSimpArgs false
/- A label set by the name that was built; Replace: what such a rule does. -/
namespace Go.Proofs.YtcbiidoebpkifaaGreatDoor.G
open Go.RowKit

def nmdL (ls : List Lab) (a v : ByteArray) : List Lab := if nameB a then Go.Proofs.YtcbiidoebpkifaaGreatDoor.setL ls a v else ls
theorem LOK.nmd {ls : List Lab} (h : LOK ls) (a v : ByteArray) : LOK (nmdL ls a v) := by
  unfold nmdL
  split
  · next ha => exact h.set a v ha
  · exact h
set_option maxHeartbeats 1000000 in
set_option maxRecDepth 100000 in
theorem setNamed_ltn (q base : Nat) (ls : List Lab) (a v : ByteArray) (v0 : Value) (w : World) (hle : base ≤ w.heap.size) (hq : BK w q (.cells #[v0] 143 (0, 0))) (ho : w.ownsRow base 42 2 v0 ls.length (cellsOfL ls)) (hnq : v0.ownBlock ≠ some q)
    (hok : LOK ls) (ha : a.size ≤ 9223372036854775807) (hvl : v.size ≤ 281474976710656) :
    Calls Tryz.prog 131 #[.pointer (some ⟨q, 0, none⟩), .string a, .string v] w fun e w' => e = .returned (.tuple #[]) ∧ LTN w' q base (nmdL ls a v) v0.ownBlock w.heap.size ∧ Ex (q :: v0.ownBlock.toList) w w' := by
  have HLT : Hid (LTN w q base ls v0.ownBlock w.heap.size) := ⟨hle, v0, hq, ho, hnq, fun k hk => .inl hk⟩
  have KN := hide (fun w' => isName_any a w' ha)
  have KS := hide (set_ls q base ls a v v0 w hle hq ho hnq hok.len (hok.srt.for a) hvl)
  unfold nmdL
  obtain ⟨B, hB⟩ : ∃ B, B = nameB a := ⟨_, rfl⟩
  rw [← hB] at KN ⊢
  clear hq ho hnq hok hB
  cases B with
  | true =>
    go_enter Tryz.func131, Tryz.ntmps131
    go_wp2_with fail
    refine (KN.out _).mono ?_
    rintro e w1 ⟨rfl, rfl⟩
    go_wp2_with fail
    refine KS.out.mono ?_
    rintro e w1 ⟨rfl, hl1, hx1⟩
    have HL1 := hide hl1
    have HX1 := hide hx1
    clear hl1 hx1
    go_wp2_with fail
    go_end0
    exact ⟨rfl, HL1.out, HX1.out⟩
  | false =>
    go_enter Tryz.func131, Tryz.ntmps131
    go_wp2_with fail
    refine (KN.out _).mono ?_
    rintro e w1 ⟨rfl, rfl⟩
    go_wp2_with fail
    go_end0
    exact ⟨rfl, HLT.out, Ex.refl _ _⟩

theorem setNamed_any (q base : Nat) (ls : List Lab) (a v : ByteArray) (v0 : Value) (w : World) (hle : base ≤ w.heap.size) (hq : BK w q (.cells #[v0] 143 (0, 0))) (ho : w.ownsRow base 42 2 v0 ls.length (cellsOfL ls)) (hnq : v0.ownBlock ≠ some q)
    (hok : LOK ls) (ha : a.size ≤ 9223372036854775807) (hvl : v.size ≤ 281474976710656) :
    Calls Tryz.prog 131 #[.pointer (some ⟨q, 0, none⟩), .string a, .string v] w fun e w' => e = .returned (.tuple #[]) ∧ LT w' q base (nmdL ls a v) ∧ Ex (q :: v0.ownBlock.toList) w w' :=
  (setNamed_ltn q base ls a v v0 w hle hq ho hnq hok ha hvl).mono fun _ _ h => ⟨h.1, h.2.1.lt, h.2.2⟩

theorem tpl_size (F : ByteArray → ByteArray) (M : Nat) (hF : ∀ n, (F n).size ≤ M) (hM : 60 ≤ M) : ∀ (f : Nat) (t : ByteArray), t.size ≤ 60 → (tempM F f t).length ≤ t.size * M
  | 0, t, _ => Nat.zero_le _
  | f + 1, t, ht => by
    unfold tempM
    by_cases h0 : t.size = 0
    · rw [if_pos h0]; exact Nat.zero_le _
    · rw [if_neg h0, List.length_append, len_list]
      obtain ⟨h1, h2⟩ := first_len F t (by omega)
      have h3 := first_size F t M hF (by omega) (by omega)
      have hz := Go.Proofs.YtcbiidoebpkifaaGreatDoor.G.size_extract t (firstM F t).2 t.size (Nat.le_refl _)
      have h4 := tpl_size F M hF hM f (t.extract (firstM F t).2 t.size) (by omega)
      rw [hz] at h4
      have h5 : (t.size - (firstM F t).2) * M ≤ (t.size - 1) * M := Nat.mul_le_mul_right _ (by omega)
      have h6 : t.size * M = (t.size - 1) * M + M := by
        have : t.size = (t.size - 1) + 1 := by omega
        rw [this, Nat.add_sub_cancel, Nat.add_mul, Nat.one_mul]
      omega
theorem tplM_size (F : ByteArray → ByteArray) (M : Nat) (hF : ∀ n, (F n).size ≤ M) (hM : 60 ≤ M) (t : ByteArray) (ht : t.size ≤ 60) : (tplM F t).size ≤ 60 * M := by
  have h := tpl_size F M hF hM t.size t ht
  unfold tplM
  show (tempM F t.size t).toArray.size ≤ _
  rw [List.size_toArray]
  exact Nat.le_trans h (Nat.mul_le_mul_right _ ht)

structure Fit2 (code : List Ins) (ng : Nat) (nm : List (ByteArray × Nat)) : Prop where
  fit : Fit code ng
  span : spanB code = true
  nk : ∀ x ∈ nm, x.1.size ≤ 60
  nu : ∀ x ∈ nm, ∀ y ∈ nm, x.1 = y.1 → x.2 = y.2
  nv : ∀ x ∈ nm, x.2 ≤ 1000
def groupsM (s : ByteArray) (sl : List Int) (ng : Nat) (nm : List (ByteArray × Nat)) : ByteArray → ByteArray := standM s (spansM s.size sl ng) nm
theorem template_post (code : List Ins) (ng : Nat) (nm : List (ByteArray × Nat)) (hf : Fit2 code ng nm) (s : ByteArray) (hs : s.size ≤ 100000000) (sl : List Int) (hm : matchM code s = some sl) (v : Value) (mb base : Nat) (W : World) (ho : W.ownsRow base 49 2 v (ng + 1) (spanL (spansM s.size sl ng))) (hmb : BK W mb (.map (nmE nm) nm.length)) (t : ByteArray) (ht : t.size ≤ 60) (w : World) (hx : Ex [] W w) :
    Calls Tryz.prog 19 #[.string t, .agg #[.string s, v, .map (some mb)]] w fun e w' => e = .returned (.string (tplM (groupsM s sl ng nm) t)) ∧ Ex [] w w' := by
  obtain ⟨g, cap, rfl, hgl, hcell⟩ : ∃ g cap, v = .slice (some ⟨g, 0, none⟩) (ng + 1) cap ∧ g < W.heap.size ∧ ∀ j u, (spanL (spansM s.size sl ng))[j]? = some u → W.cell? ⟨g, j, none⟩ = some u := by
    obtain ⟨g, cap, rfl, _, hgl, _, hc, _⟩ := own_cells ho (by omega)
    refine ⟨g, cap, rfl, hgl, fun j u hj => ?_⟩
    rw [hc j (by have := (List.getElem?_eq_some_iff.1 hj).1; rw [← ho.1]; exact this)]
    exact hj
  have hfd : FD w s mb g (spansM s.size sl ng) nm := FD.ex ⟨hmb, hf.nk, hf.nu, hf.nv, hgl, hcell, by rw [spansM_len]; have := hf.fit.ng5; omega, hs, spans_in hf.span s sl hm ng hf.fit.ng5⟩ hx
  have h := template_any s mb g cap (spansM s.size sl ng) nm t w hfd ht
  rw [spansM_len] at h
  exact h
end Go.Proofs.YtcbiidoebpkifaaGreatDoor.G

/- The hash of a text. -/
namespace Go.Proofs.YtcbiidoebpkifaaGreatDoor.G
open Go.RowKit

def hashStep (h : Int) (b : UInt8) : Int := IntKind.wrap .u64 (bits .xor .u64 h (IntKind.wrap .u64 (b.toNat : Int)) * 1099511628211)
def hashM (s : ByteArray) : Int := s.data.toList.foldl hashStep 14695981039346656037

theorem foldl_step {α β : Type} (f : β → α → β) (b : β) (l : List α) (j : Nat) (a : α) (h : l[j]? = some a) : (l.take (j + 1)).foldl f b = f ((l.take j).foldl f b) a := by
  rw [List.take_add_one, h, List.foldl_append]
  rfl

set_option maxHeartbeats 1000000 in
set_option maxRecDepth 100000 in
theorem hash_any (s : ByteArray) (w : World) (hs : s.size ≤ 9223372036854775807) :
    Calls Tryz.prog 137 #[.string s] w fun e w' => e = .returned (.int .u64 (hashM s)) ∧ w' = w := by
  obtain ⟨R, hR⟩ : ∃ R, R = hashM s := ⟨_, rfl⟩
  rw [← hR]
  have HR := hide hR
  clear hR
  obtain ⟨n, hn⟩ : ∃ n, n = s.size := ⟨_, rfl⟩
  go_enter Tryz.func137, Tryz.ntmps137
  go_wp2_with fail
  go_loopg [3, 7] n (fun gk h i wr => ∃ (j : Nat) (x : Int), j + gk = n ∧ i = .int .i64 j ∧ h = .int .u64 x ∧ x = (s.data.toList.take j).foldl hashStep 14695981039346656037 ∧ wr = w)
  case atStart => exact ⟨0, _, by omega, rfl, rfl, rfl, rfl⟩
  case round =>
    obtain ⟨j, x, hj, rfl, rfl, hx, rfl⟩ := hrel
    have HX := hide hx
    clear hx
    cases gk with
    | zero =>
      have hr : R = x := by rw [HR.out, HX.out, List.take_of_length_le (by rw [len_list]; omega)]; rfl
      subst hr
      have h1 : ¬ ((j : Int) < (s.size : Int)) := by omega
      go_wp2_with fail
      go_ret
      exact ⟨rfl, rfl⟩
    | succ g =>
      have hjl : j < s.size := by omega
      have h1 : (j : Int) < (s.size : Int) := by omega
      have hst := foldl_step hashStep 14695981039346656037 s.data.toList j _ (at_list hjl)
      rw [← HX.out] at hst
      have HST := hide hst
      clear hst
      go_wp2_with fail
      go_roundg g
      case measure => omega
      case rel => exact ⟨j + 1, _, by omega, by simp, rfl, HST.out.symm, rfl⟩
end Go.Proofs.YtcbiidoebpkifaaGreatDoor.G

/- A number's digits; what is left of a hash. -/
namespace Go.Proofs.YtcbiidoebpkifaaGreatDoor.G
open Go.RowKit Go.Sort

theorem grow_ex (w : World) (k : Nat) (os : Array Obj) : Ex [] w (grow (w.drewN k) os) :=
  ⟨rfl, rfl, rfl, by show w.heap.size ≤ (w.heap ++ os).size; simp, fun g hg _ => Lib.heap_grow_old w k os g hg⟩
def decB (u : Nat) : ByteArray := ⟨(Lib.decDigits u).toArray⟩

set_option maxHeartbeats 4000000 in
set_option maxRecDepth 100000 in
theorem iFormatUint_any (u : Nat) (hu64 : u < 18446744073709551616) (w : World) (htab : PT w) :
    Calls Tryz.prog 150 #[.int .u64 u, .int .i64 10] w fun e w' => e = .returned (.string (decB u)) ∧ Ex [] w w' := by
  unfold decB
  by_cases hs : u < 100
  · have KS := hide (fun w' => Tryz.internal_strconv_small u hs w')
    have hlt : (u : Int) < 100 := by omega
    have hwr : IntKind.i64.wrap (u : Int) = (u : Int) := by rw [IntKind.wrap_i64]; omega
    clear htab hs
    go_enter Tryz.func150, Tryz.ntmps150
    go_wp2_with fail
    refine (KS.out _).mono ?_
    rintro e w1 ⟨rfl, rfl⟩
    go_wp2_with fail
    go_ret
    exact ⟨rfl, Ex.refl _ _⟩
  · have hu1 : 1 ≤ u := by omega
    have hge : ¬ ((u : Int) < 100) := by omega
    have hnd20 : Lib.nDigits u ≤ 20 := by have := Lib.numDigits_eq u hu1 hu64; split at this <;> omega
    have hal : Tryz.prog.arrayLen 250 = 24 := by kernel_rfl
    have hsl1 : ∀ W, (Instr.sliceAt 250 (.pointer (some ⟨w.heap.size, 0, none⟩)) none (some (.int .i64 (Lib.nDigits u : Int))) none).run Tryz.prog W = .ok (.slice (some ⟨w.heap.size, 0, none⟩) (Lib.nDigits u) 24) W := fun W => by
      rw [run_sliceAt_array_h W 250 ⟨w.heap.size, 0, none⟩ (by kernel_rfl) .i64 (Lib.nDigits u : Int) (by omega) (by rw [hal]; omega)]
      have hel : Tryz.prog.elem 250 = 5 := by kernel_rfl
      rw [hel, hal]
      go_simp
    have hH0 := Lib.holds_zero0 w 250 (Lib.nDigits u) (by omega)
    have hfmt := Tryz.internal_strconv_formatBase10 w.heap.size 0 24 u (Array.replicate (Lib.nDigits u) 0) (w.alloc (.cells Lib.zeros24 250)) hH0 (by rw [Array.size_replicate]; exact Lib.lt_pow_nDigits u) hu64 (by rw [Array.size_replicate]; omega)
    rw [Array.size_replicate] at hfmt
    have HH0 := hide hH0
    have KN := hide (fun w' ht => Tryz.internal_strconv_numDigits u hu1 hu64 w' ht)
    have HT := hide htab
    have HF := hide hfmt
    obtain ⟨nd, hnd⟩ : ∃ nd, nd = Lib.nDigits u := ⟨_, rfl⟩
    rw [← hnd] at hsl1 KN hnd20 HF HH0
    have HND := hide hnd
    clear hH0 hal hfmt htab hs hnd
    go_enter Tryz.func150, Tryz.ntmps150
    go_wp2_with fail
    refine (KN.out _ (PT.ex HT.out ((Ex.refl _ _).alloc _))).mono ?_
    rintro e w1 ⟨rfl, rfl⟩
    go_wp2_with fail
    refine HF.out.mono ?_
    rintro e w1 ⟨rfl, k, v', dk, rfl, hF⟩
    have hcv : (convert 119 9 (.slice (some ⟨w.heap.size, 0, none⟩) nd 24)).run Tryz.prog ((putRow (fun (b : UInt8) => Value.int .u8 (b.toNat : Int)) (w.alloc (.cells Lib.zeros24 250)) w.heap.size 0 dk).drewN k) = .ok (.string ⟨(Lib.decDigits u).toArray⟩) ((putRow (fun (b : UInt8) => Value.int .u8 (b.toNat : Int)) (w.alloc (.cells Lib.zeros24 250)) w.heap.size 0 dk).drewN k) := by
      have hF' : Lib.FmtInv (Lib.nDigits u) u 0 v' dk := by rw [← HND.out]; exact hF
      have h := run_convert_bytes_back (P := Tryz.prog) ((putRow (fun (b : UInt8) => Value.int .u8 (b.toNat : Int)) (w.alloc (.cells Lib.zeros24 250)) w.heap.size 0 dk).drewN k) 119 9 5 ⟨w.heap.size, 0, none⟩ 24 (Lib.decDigits u) Tryz.underlying119 Tryz.underlying5 Tryz.underlying9 (fun j hj => by
        rw [Lib.row_is_numeral hF' j hj, Lib.add_plain, World.cell?_drewN]
        exact cell?_putRow (fun (b : UInt8) => Value.int .u8 (b.toNat : Int)) _ w.heap.size 0 _ dk HH0.out (by rw [hF.size, Array.size_replicate]) j (by rw [hF.size]; rw [Lib.decDigits_length] at hj; rw [HND.out]; exact hj))
      rw [Lib.decDigits_length, ← HND.out] at h
      exact h
    obtain ⟨os, eo⟩ := Lib.fin_at w (.cells Lib.zeros24 250) dk k 0
    have HX : Hid (Ex [] w ((putRow (fun (b : UInt8) => Value.int .u8 (b.toNat : Int)) (w.alloc (.cells Lib.zeros24 250)) w.heap.size 0 dk).drewN k)) := by rw [eo]; exact grow_ex _ _ _
    clear eo hF
    generalize (putRow (fun (b : UInt8) => Value.int .u8 (b.toNat : Int)) (w.alloc (.cells Lib.zeros24 250)) w.heap.size 0 dk).drewN k = W at hcv HX ⊢
    go_wp2_with fail
    go_ret
    exact ⟨rfl, HX.out⟩

set_option maxHeartbeats 1000000 in
theorem formatUint_any (u : Nat) (hu64 : u < 18446744073709551616) (w : World) (htab : PT w) :
    Calls Tryz.prog 136 #[.int .u64 u, .int .i64 10] w fun e w' => e = .returned (.string (decB u)) ∧ Ex [] w w' := by
  have K := hide (iFormatUint_any u hu64 w htab)
  clear htab
  go_enter Tryz.func136, Tryz.ntmps136
  go_wp2_with fail
  refine K.out.mono ?_
  rintro e w1 ⟨rfl, hx⟩
  have HX := hide hx
  clear hx
  go_wp2_with fail
  go_ret
  exact ⟨rfl, HX.out⟩

def remM (mo : Int) (s : ByteArray) : ByteArray := decB (hashM s % mo).toNat
theorem wrap64_bound (x : Int) : 0 ≤ IntKind.u64.wrap x ∧ IntKind.u64.wrap x < 18446744073709551616 := by
  rw [IntKind.wrap_u64]
  omega
theorem hash_bound (s : ByteArray) : 0 ≤ hashM s ∧ hashM s < 18446744073709551616 := by
  unfold hashM
  have key : ∀ (l : List UInt8) (h : Int), 0 ≤ h ∧ h < 18446744073709551616 → 0 ≤ l.foldl hashStep h ∧ l.foldl hashStep h < 18446744073709551616 := by
    intro l
    induction l with
    | nil => exact fun h hh => hh
    | cons b l ih => exact fun h hh => ih _ (wrap64_bound _)
  exact key _ _ ⟨by decide, by decide⟩

set_option maxHeartbeats 4000000 in
set_option maxRecDepth 100000 in
theorem remainder_any (p : Option Addr) (n c : Nat) (se : ByteArray) (pp : Option Addr) (ta rp : ByteArray) (mo : Int) (hmo : 1 ≤ mo) (s : ByteArray) (hs : s.size ≤ 9223372036854775807) (w : World) (ht : PT w) :
    Calls Tryz.prog 108 #[meansV (.slice p n c) se (.pointer pp) ta rp mo, .string s] w fun e w' => e = .returned (.string (remM mo s)) ∧ Ex [] w w' := by
  unfold meansV
  have KH := hide (fun w' => hash_any s w' hs)
  obtain ⟨b1, b2⟩ := hash_bound s
  obtain ⟨R, hR⟩ : ∃ R, R = remM mo s := ⟨_, rfl⟩
  rw [← hR]
  unfold remM at hR
  obtain ⟨h, hh⟩ : ∃ h, h = hashM s := ⟨_, rfl⟩
  rw [← hh] at KH b1 b2 hR
  obtain ⟨H, rfl⟩ : ∃ H : Nat, h = H := ⟨h.toNat, by omega⟩
  obtain ⟨M, rfl⟩ : ∃ M : Nat, mo = M := ⟨mo.toNat, by omega⟩
  have hle : H % M ≤ H := Nat.mod_le H M
  have e1 : ((H : Int) % (M : Int)).toNat = H % M := by rw [← Int.natCast_emod]; rfl
  rw [e1] at hR
  have KF := hide (fun w' hx => formatUint_any (H % M) (by omega) w' (ht.ex hx))
  rw [← hR] at KF
  have e2 : (H : Int).tmod (M : Int) = ((H % M : Nat) : Int) := by rw [Int.tmod_eq_emod_of_nonneg (by omega)]; rfl
  have e3 : IntKind.u64.wrap ((H % M : Nat) : Int) = ((H % M : Nat) : Int) := by rw [IntKind.wrap_u64]; omega
  have hm0 : ¬ (M : Int) = 0 := by omega
  obtain ⟨D, hD⟩ : ∃ D, D = H % M := ⟨_, rfl⟩
  rw [← hD] at KF e2 e3
  have e4 : H % M = D := hD.symm
  have hm1 : ¬ M = 0 := by omega
  have h0 : ((M : Int) == 0) = false := beq_eq_false_iff_ne.2 hm0
  clear hR e1 hle hD hh b1 b2 ht
  go_enter Tryz.func108, Tryz.ntmps108
  go_wp2_with fail
  generalize hw0 : World.alloc w _ = w0
  have hx0 : Ex [] w w0 := by rw [← hw0]; exact (Ex.refl _ _).alloc _
  have hb0 : BK w0 w.heap.size (.cells #[.slice p n c, .string se, .pointer pp, .string ta, .string rp, .int .u64 M] 189 (0, 0)) := by rw [← hw0]; exact BK.new _ _
  have t1 := hb0.all.1
  have HX0 := hide hx0
  have HB0 := hide hb0
  have hl0 := hb0.lt
  clear hw0 hx0 hb0
  go_region_held3 (fun w' => ∀ o, w'.cell? ⟨w.heap.size, o, none⟩ = #[Value.slice p n c, .string se, .pointer pp, .string ta, .string rp, .int .u64 M][o]?)
    (first | exact hb3.all.1 | exact t1)
    (first
      | (go_at_call 137; refine (show Calls _ _ _ _ _ from KH.out _).mono ?_; rintro e w2 ⟨rfl, rfl⟩)
      | (go_at_call 136; refine (show Calls _ _ _ _ _ from KF.out _ (HX0.out.drew)).mono ?_; rintro e w3 ⟨rfl, hx3⟩; have hb3 := HB0.out.drew.ex hx3 (by simp)))
  have HX3 := hide ((HX0.out.drew).trans hx3)
  clear hb3 hx3 t1
  go_wp2_with fail
  go_ret
  exact ⟨rfl, HX3.out⟩
end Go.Proofs.YtcbiidoebpkifaaGreatDoor.G
