/- N3 L3 L4, one behind the other. -/
import Derived.Test.YtgmjjhmnchefbaaGreatDoorM24
import Derived.Test.YtgmjjhmnchefbaaGreatDoorM01
import Derived.Test.YtgmjjhmnchefbaaGreatDoorM05
set_option linter.unusedVariables false
set_option linter.unusedSimpArgs false
/- The document's own check of a rule: names, what an action uses. -/
namespace Go.Proofs.YtgmjjhmnchefbaaGreatDoor.G
open Go.RowKit

set_option maxHeartbeats 1000000 in
theorem refWord (x : Int) (w : World) : Calls Tryz.prog 127 #[.int .u8 x] w fun e w' => e = .returned (.bool (wordB x)) ∧ w' = w := by
  unfold wordB
  have K1 := hide (fun w => refLetter x w)
  have K2 := hide (fun w => refDigit x w)
  obtain ⟨l, hl⟩ : ∃ l, l = letB x := ⟨_, rfl⟩
  obtain ⟨d, hd⟩ : ∃ d, d = digB x := ⟨_, rfl⟩
  rw [← hl] at K1 ⊢
  rw [← hd] at K2 ⊢
  clear hl hd
  go_enter Tryz.func127, Tryz.ntmps127
  go_wp2_with fail
  refine (K1.out _).mono ?_
  rintro e w1 ⟨rfl, rfl⟩
  go_wp2_with fail
  refine (K2.out _).mono ?_
  rintro e w2 ⟨rfl, rfl⟩
  cases l
  · cases d
    · go_wp2_with fail
      go_ret
      exact ⟨by simp, rfl⟩
    · go_wp2_with fail
      go_ret
      exact ⟨by simp, rfl⟩
  · go_wp2_with fail
    go_ret
    exact ⟨by simp, rfl⟩
set_option maxHeartbeats 2000000 in
set_option maxRecDepth 100000 in
theorem refName (s : ByteArray) (w : World) (hs : s.size ≤ maxLen) :
    Calls Tryz.prog 90 #[.string s] w fun e w' => e = .returned (.bool (nameB s)) ∧ w' = w := by
  by_cases h0 : s.size = 0
  · have hs : s = ⟨#[]⟩ := by apply ByteArray.ext; exact Array.eq_empty_of_size_eq_zero h0
    subst hs
    go_enter Tryz.func90, Tryz.ntmps90
    go_wp2_with fail
    refine wp_loop_rounds 1 ?_
    rw [rounds_succ]
    go_wp2_with fail
    go_ret
    exact ⟨rfl, rfl⟩
  have hem := nonempty_list h0
  have hz : (s.size == 0) = false := by simpa using h0
  have hp : 0 < s.size := by omega
  have hnm : nameB s = (!decide (60 < s.size) && !digB ((s[0]'hp).toNat : Int) && s.data.toList.all (fun b => wordB (b.toNat : Int))) := by
    simp only [nameB, hz, head_list hp, Bool.not_false, Bool.true_and]
  obtain ⟨N, hN⟩ : ∃ N, N = nameB s := ⟨_, rfl⟩
  rw [← hN] at hnm ⊢
  have HN := hide hnm
  clear hnm hz hN h0
  unfold maxLen at hs
  go_enter Tryz.func90, Tryz.ntmps90
  go_wp2_with fail
  go_loopg [3] s.size (fun gk i wr => ∃ j : Nat, j + gk = s.size ∧ i = .int .i64 j ∧ wordsTo s j ∧ (0 < j → digB ((s[0]'hp).toNat : Int) = false) ∧ wr = w)
  case atStart => exact ⟨0, by omega, rfl, (fun i _ h => by omega), (fun h => by omega), rfl⟩
  case round =>
    obtain ⟨j, hj, rfl, hw, hdg, rfl⟩ := hrel
    have HW := hide hw
    have HDG := hide hdg
    clear hw hdg
    cases gk with
    | zero =>
      obtain rfl : j = s.size := by omega
      have hN2 : N = !decide (60 < s.size) := by rw [HN.out, HDG.out hp, all_of_words HW.out]; simp
      have HN2 := hide hN2
      clear hj hN2
      by_cases h60 : s.size ≤ 60
      · have h60i : (s.size : Int) ≤ 60 := by omega
        go_wp2_with fail
        go_ret
        exact ⟨by rw [HN2.out]; simp; omega, rfl⟩
      · have h60i : ¬ (s.size : Int) ≤ 60 := by omega
        go_wp2_with fail
        go_ret
        exact ⟨by rw [HN2.out]; simp; omega, rfl⟩
    | succ g =>
      have hjl : j < s.size := by omega
      have hj' : (j : Int) < (s.size : Int) := by omega
      have hstep : wordB ((s[j]'hjl).toNat : Int) = true → wordsTo s (j + 1) := fun hb i hi hlt => by
        by_cases hij : i = j
        · subst hij; exact hb
        · exact HW.out i hi (by omega)
      have HS := hide hstep
      have K1 := hide (fun w => refWord ((s[j]'hjl).toNat : Int) w)
      have K2 := hide (fun w => refDigit ((s[j]'hjl).toNat : Int) w)
      have hno : wordB ((s[j]'hjl).toNat : Int) = false → N = false := fun h => by rw [HN.out, not_all_of hjl h]; simp
      have hd0 : j = 0 → digB ((s[j]'hjl).toNat : Int) = true → N = false := fun h0 h => by
        subst h0
        rw [HN.out, h]
        simp
      have hd1 : (j = 0 → digB ((s[j]'hjl).toNat : Int) = false) → (0 < j + 1 → digB ((s[0]'hp).toNat : Int) = false) := fun h _ => by
        by_cases h0 : j = 0
        · subst h0; exact h rfl
        · exact HDG.out (by omega)
      obtain ⟨wb, hwb⟩ : ∃ x, x = wordB ((s[j]'hjl).toNat : Int) := ⟨_, rfl⟩
      obtain ⟨db, hdb⟩ : ∃ x, x = digB ((s[j]'hjl).toNat : Int) := ⟨_, rfl⟩
      rw [← hwb] at K1 hno HS
      rw [← hdb] at K2 hd0 hd1
      have HNO := hide hno
      have HD0 := hide hd0
      have HD1 := hide hd1
      clear hstep hno hd0 hd1 hwb hdb
      go_wp2_with fail
      refine (K1.out _).mono ?_
      rintro e w1 ⟨rfl, rfl⟩
      go_wp2_with fail
      refine (K2.out _).mono ?_
      rintro e w2 ⟨rfl, rfl⟩
      cases wb with
      | false =>
        obtain rfl := HNO.out rfl
        go_wp2_with fail
        go_ret
        exact ⟨rfl, rfl⟩
      | true =>
        by_cases hj0 : j = 0
        · have q0 : ((j : Int) == 0) = true := by rw [hj0]; rfl
          cases db with
          | true =>
            obtain rfl := HD0.out hj0 rfl
            clear hj0
            go_wp2_with fail
            go_ret
            exact ⟨rfl, rfl⟩
          | false =>
            have HRL := hide (HD1.out (fun _ => rfl))
            clear hj0
            go_wp2_with fail
            go_roundg g
            case measure => omega
            case rel => exact ⟨j + 1, by omega, by simp, HS.out (by first | rfl | trivial), HRL.out, rfl⟩
        · have q0 : ((j : Int) == 0) = false := by rw [beq_eq_false_iff_ne]; omega
          have HRL := hide (HD1.out (fun h => absurd h hj0))
          clear hj0
          go_wp2_with fail
          go_roundg g
          case measure => omega
          case rel => exact ⟨j + 1, by omega, by simp, HS.out (by first | rfl | trivial), HRL.out, rfl⟩
end Go.Proofs.YtgmjjhmnchefbaaGreatDoor.G

/- The document's own reader of patterns: its state, and its small functions. -/
namespace Go.Proofs.YtgmjjhmnchefbaaGreatDoor.G
open Go.RowKit

def NmOK (nm : List (ByteArray × Nat)) (ns : List ByteArray) : Prop := ∀ a : ByteArray, a.size ≠ 0 → (takenM nm a = ns.any (fun x => decide (x = a)))
def RK (w : World) (p r : Nat) (t : ByteArray) (s : RS) (bad : Bool) (hv : Int) : Prop :=
  BK w p (.cells #[.string t, .int .i64 (s.k : Int), .bool bad, .pointer (some ⟨r, 0, none⟩), .bool s.f, .int .i64 (s.d : Int), .int .i64 hv] 50 (0, 0))
structure RN (w : World) (r base : Nat) (s : RS) (n : Nat) : Prop where
  ex : ∃ av nv xs ns, BK w r (.cells #[av, .int .i64 0, .int .i64 (s.g : Int), nv] 48 (0, 0)) ∧ w.ownsRow base 109 134 av n xs ∧ w.ownsRow base 9 1 nv (ns : List ByteArray).length (ns.map Value.string) ∧ NmOK s.nm ns ∧ ns.length = s.g
structure RA (w : World) (p r base : Nat) (t : ByteArray) (s : RS) (bad : Bool) (hv : Int) (n : Nat) : Prop where
  rk : RK w p r t s bad hv
  rn : RN w r base s n
  pb : base ≤ p
  rb : base ≤ r
  bw : base ≤ w.heap.size
def KS (w w' : World) : Prop := ∀ b bs, SB w b bs → SB w' b bs
theorem KS.refl (w : World) : KS w w := fun _ _ h => h
theorem KS.trans {a b c : World} (h : KS a b) (k : KS b c) : KS a c := fun x bs hx => k x bs (h x bs hx)
theorem KS.ex {w w' : World} (h : Ex [] w w') : KS w w' := fun x bs hx => hx.ex h (by simp)
theorem RK.drewN {w : World} {p r : Nat} {t : ByteArray} {s : RS} {bad : Bool} {hv : Int} (h : RK w p r t s bad hv) (k : Nat) : RK (w.drewN k) p r t s bad hv := h
theorem RA.drewN {w : World} {p r base : Nat} {t : ByteArray} {s : RS} {bad : Bool} {hv : Int} {n : Nat} (h : RA w p r base t s bad hv n) (k : Nat) : RA (w.drewN k) p r base t s bad hv n := ⟨h.rk, ⟨h.rn.ex⟩, h.pb, h.rb, h.bw⟩
theorem RA.ex {w w' : World} {p r base : Nat} {t : ByteArray} {s : RS} {bad : Bool} {hv : Int} {n : Nat} (h : RA w p r base t s bad hv n) (hx : Ex [] w w') : RA w' p r base t s bad hv n := by
  obtain ⟨av, nv, xs, ns, h1, h2, h3, h4, h5⟩ := h.rn.ex
  exact ⟨h.rk.ex hx (by simp), ⟨av, nv, xs, ns, h1.ex hx (by simp), own_ex h2 hx (by simp), own_ex h3 hx (by simp), h4, h5⟩, h.pb, h.rb, Nat.le_trans h.bw hx.size⟩
theorem KS.set {w : World} {p : Nat} {cs : Array Value} (h : BK w p (.cells cs 50 (0, 0))) (o : Nat) (u : Value) : KS w (w.setCell ⟨p, o, none⟩ u) := fun b bs hb => by
  have hne : b ≠ p := fun e => by
    subst e
    have h1 := hb.1
    unfold BK at h1 h
    rw [h] at h1
    injection h1 with h1
    injection h1 with _ h2 _
    exact absurd h2 (by decide)
  exact ⟨hb.1.set hne _, hb.2⟩
theorem own_blk {w w' : World} {base : Nat} {e : TypeId} {size : Nat} {v : Value} {n : Nat} {xs : List Value} (h : w.ownsRow base e size v n xs) (hb : ∀ g, v.ownBlock = some g → w'.heap[g]? = w.heap[g]?) : w'.ownsRow base e size v n xs := by
  refine ⟨h.1, ?_⟩
  rcases h.2 with hn | ⟨g, cap, cur, rfl, hg, hgg, rest⟩
  · exact .inl hn
  · exact .inr ⟨g, cap, cur, rfl, hg, (hb g rfl).trans hgg, rest⟩
theorem RA.setCell {w : World} {p r base : Nat} {t : ByteArray} {s s' : RS} {bad bad' : Bool} {hv hv' : Int} {n : Nat} (h : RA w p r base t s bad hv n) (o : Nat) (u : Value)
    (he : (#[.string t, .int .i64 (s.k : Int), .bool bad, .pointer (some ⟨r, 0, none⟩), .bool s.f, .int .i64 (s.d : Int), .int .i64 hv] : Array Value).setIfInBounds o u = #[.string t, .int .i64 (s'.k : Int), .bool bad', .pointer (some ⟨r, 0, none⟩), .bool s'.f, .int .i64 (s'.d : Int), .int .i64 hv']) (hg : s'.g = s.g) (hnm : s'.nm = s.nm) :
    RA (w.setCell ⟨p, o, none⟩ u) p r base t s' bad' hv' n ∧ KS w (w.setCell ⟨p, o, none⟩ u) ∧ EB base [] w (w.setCell ⟨p, o, none⟩ u) := by
  obtain ⟨av, nv, xs, ns, h1, h2, h3, h4, h5⟩ := h.rn.ex
  have hk := h.rk
  unfold RK at hk
  have hpr : r ≠ p := fun e => by
    subst e
    unfold BK at h1 hk
    rw [h1] at hk
    injection hk with hk
    injection hk with _ h9 _
    exact absurd h9 (by decide)
  have hrow : ∀ {e : TypeId} {size : Nat} {v : Value} {m : Nat} {ys : List Value}, e ≠ 50 → w.ownsRow base e size v m ys → (w.setCell ⟨p, o, none⟩ u).ownsRow base e size v m ys := fun {e size v m ys} hne ho => by
    refine own_blk ho (fun g hv => Below.heap_setCell _ _ _ _ (fun e2 => ?_))
    dsimp only at e2
    subst e2
    rcases ho.2 with ⟨hn, _⟩ | ⟨g2, cap, cur, hv2, hb, hgg, _⟩
    · rw [hn] at hv; simp [Value.ownBlock] at hv
    · rw [hv2] at hv
      simp [Value.ownBlock] at hv
      subst hv
      unfold BK at hk
      rw [hgg] at hk
      injection hk with hk
      injection hk with _ h9 _
      exact hne h9
  refine ⟨⟨?_, ⟨av, nv, xs, ns, ?_, hrow (by decide) h2, hrow (by decide) h3, by rw [hnm]; exact h4, by rw [hg]; exact h5⟩, h.pb, h.rb, by simpa [World.setCell] using h.bw⟩, KS.set hk _ _, (EB.refl _ _ _).setCell (.inr h.pb) _⟩
  · unfold RK
    have := hk.self o u
    rw [he] at this
    exact this
  · rw [hg]
    exact h1.set hpr _

def nextN (t : ByteArray) (k : Nat) : Nat := match byteAt t k with
  | some b => b.toNat
  | none => 0
set_option maxHeartbeats 1000000 in
theorem next_any {w : World} {p r : Nat} {t : ByteArray} {s : RS} {bad : Bool} {hv : Int} (h : RK w p r t s bad hv) :
    Calls Tryz.prog 34 #[.pointer (some ⟨p, 0, none⟩)] w fun e w' => e = .returned (.int .u8 (nextN t s.k : Int)) ∧ ∃ q, w' = w.drewN q := by
  have h0 : w.cell? ⟨p, 0, none⟩ = some (.string t) := by rw [h.all.1 0]; rfl
  have h1 : w.cell? ⟨p, 1, none⟩ = some (.int .i64 (s.k : Int)) := by rw [h.all.1 1]; rfl
  have hl := h.lt
  obtain ⟨k, hk⟩ : ∃ k, k = s.k := ⟨_, rfl⟩
  rw [← hk] at h1 ⊢
  clear h hk
  by_cases hlt : k < t.size
  · have hlti : (k : Int) < (t.size : Int) := by omega
    have e : nextN t k = (t[k]'hlt).toNat := by
      unfold nextN byteAt
      rw [Array.getElem?_eq_getElem hlt]
      rfl
    have HE := hide e
    clear e
    go_enter Tryz.func34, Tryz.ntmps34
    go_wp2_with fail
    go_quiet (fail)
    go_wp2_with fail
    go_quiet (fail)
    go_wp2_with fail
    go_ret
    exact ⟨by rw [HE.out]; rfl, _, (World.drewN_drewN _ _ _)⟩
  · have hlti : ¬ (k : Int) < (t.size : Int) := by omega
    have e : nextN t k = 0 := by
      unfold nextN byteAt
      rw [Array.getElem?_eq_none (by show t.size ≤ k; omega)]
    have HE := hide e
    clear e
    go_enter Tryz.func34, Tryz.ntmps34
    go_wp2_with fail
    go_quiet (fail)
    go_wp2_with fail
    go_ret
    exact ⟨by rw [HE.out]; rfl, _, rfl⟩
set_option maxHeartbeats 1000000 in
theorem fail_any {w : World} {p r base : Nat} {t : ByteArray} {s : RS} {bad : Bool} {hv : Int} {n : Nat} (h : RA w p r base t s bad hv n) :
    Calls Tryz.prog 106 #[.pointer (some ⟨p, 0, none⟩)] w fun e w' => e = .returned (.int .i64 0) ∧ RA w' p r base t s true hv n ∧ KS w w' ∧ EB base [] w w' := by
  have hc := h.rk.all.1 2
  have hf := h.rk.all.2 2
  have hl := h.rk.lt
  have H := hide (h.setCell (s' := s) (bad' := true) (hv' := hv) 2 (.bool true) rfl rfl rfl)
  have hc2 : w.cell? ⟨p, 2, none⟩ = some (.bool bad) := hc
  clear h hc
  go_enter Tryz.func106, Tryz.ntmps106
  go_wp2_with fail
  go_ret
  exact ⟨rfl, H.out⟩
end Go.Proofs.YtgmjjhmnchefbaaGreatDoor.G

/- The document's own reader of patterns: a byte that must stand here; expressions are kept. -/
namespace Go.Proofs.YtgmjjhmnchefbaaGreatDoor.G
open Go.RowKit

theorem nextN_at {t : ByteArray} {k : Nat} (h : k < t.size) : nextN t k = (t[k]'h).toNat := by
  unfold nextN byteAt
  rw [Array.getElem?_eq_getElem h]
  rfl
theorem sees_next {t : ByteArray} {s : RS} {b : UInt8} : seesM t s b = (decide (s.k < t.size) && decide (nextN t s.k = b.toNat)) := by
  unfold seesM
  by_cases h : s.k < t.size
  · rw [nextN_at h]
    unfold byteAt
    rw [Array.getElem?_eq_getElem h, decide_eq_true h, Bool.true_and]
    show (some (t.data[s.k]'h) == some b) = decide ((t.data[s.k]'h).toNat = b.toNat)
    rw [Bool.eq_iff_iff]
    simp [UInt8.toNat_inj]
  · unfold byteAt
    rw [Array.getElem?_eq_none (by show t.size ≤ s.k; omega), decide_eq_false h, Bool.false_and]
    rfl
theorem draw_frame {base p : Nat} {w X : World} {q : Nat} {A : Prop} (h : A ∧ KS (w.drewN q) X ∧ EB base [] (w.drewN q) X) : A ∧ KS w X ∧ EB base [] w X :=
  ⟨h.1, fun b bs hb => h.2.1 b bs hb, h.2.2.os, h.2.2.tape, h.2.2.output, h.2.2.size, h.2.2.block⟩
set_option maxHeartbeats 1000000 in
theorem eats_bad {w : World} {p r base : Nat} {t : ByteArray} {s : RS} {hv : Int} {n : Nat} (c : Int) (h : RA w p r base t s true hv n) :
    Calls Tryz.prog 73 #[.pointer (some ⟨p, 0, none⟩), .int .u8 c] w fun e w' => e = .returned (.tuple #[]) ∧ w' = w := by
  have hc2 : w.cell? ⟨p, 2, none⟩ = some (.bool true) := h.rk.all.1 2
  have hl := h.rk.lt
  clear h
  go_enter Tryz.func73, Tryz.ntmps73
  go_wp2_with fail
  refine bodyPost_ret (results_none rfl _ _ _) rfl ⟨rfl, rfl⟩
set_option maxHeartbeats 2000000 in
theorem eats_yes {w : World} {p r base : Nat} {t : ByteArray} {s : RS} {hv : Int} {n : Nat} (c : Nat) (h : RA w p r base t s false hv n) (ht : t.size ≤ 60) (hlt : s.k < t.size) (hc : nextN t s.k = c) :
    Calls Tryz.prog 73 #[.pointer (some ⟨p, 0, none⟩), .int .u8 (c : Int)] w fun e w' => e = .returned (.tuple #[]) ∧ RA w' p r base t s.up false hv n ∧ KS w w' ∧ EB base [] w w' := by
  have hc0 : w.cell? ⟨p, 0, none⟩ = some (.string t) := h.rk.all.1 0
  have hc1 : w.cell? ⟨p, 1, none⟩ = some (.int .i64 (s.k : Int)) := h.rk.all.1 1
  have hc2 : w.cell? ⟨p, 2, none⟩ = some (.bool false) := h.rk.all.1 2
  have hf1 : w.frozen? ⟨p, 1, none⟩ = false := h.rk.all.2 1
  have hl := h.rk.lt
  have H := hide (fun q => draw_frame (p := p) ((h.drewN q).setCell (s' := s.up) (bad' := false) (hv' := hv) 1 (.int .i64 ((s.k : Int) + 1)) (by simp [RS.up]) rfl rfl))
  have hd : decide (t.size ≤ s.k) = false := decide_eq_false (by omega)
  have hget : (((t[s.k]'hlt).toNat : Int) != (c : Int)) = false := by rw [nextN_at hlt] at hc; rw [hc]; simp
  have hki : (s.k : Int) < (t.size : Int) := by omega
  obtain ⟨k, d, f, g, nm⟩ := s
  dsimp only at hc1 H hd hget hki hlt
  clear h hc
  go_enter Tryz.func73, Tryz.ntmps73
  go_wp2_with fail
  go_quiet (fail)
  go_wp2_with fail
  go_end0
  exact ⟨rfl, H.out _⟩
set_option maxHeartbeats 2000000 in
theorem eats_no {w : World} {p r base : Nat} {t : ByteArray} {s : RS} {hv : Int} {n : Nat} (c : Nat) (h : RA w p r base t s false hv n) (hno : t.size ≤ s.k ∨ nextN t s.k ≠ c) :
    Calls Tryz.prog 73 #[.pointer (some ⟨p, 0, none⟩), .int .u8 (c : Int)] w fun e w' => e = .returned (.tuple #[]) ∧ RA w' p r base t s true hv n ∧ KS w w' ∧ EB base [] w w' := by
  have hc0 : w.cell? ⟨p, 0, none⟩ = some (.string t) := h.rk.all.1 0
  have hc1 : w.cell? ⟨p, 1, none⟩ = some (.int .i64 (s.k : Int)) := h.rk.all.1 1
  have hc2 : w.cell? ⟨p, 2, none⟩ = some (.bool false) := h.rk.all.1 2
  have hf2 : w.frozen? ⟨p, 2, none⟩ = false := h.rk.all.2 2
  have hl := h.rk.lt
  have H := hide (fun q => draw_frame (p := p) ((h.drewN q).setCell (s' := s) (bad' := true) (hv' := hv) 2 (.bool true) rfl rfl rfl))
  by_cases hlt : s.k < t.size
  · have hne : nextN t s.k ≠ c := hno.resolve_left (by omega)
    have hd : decide (t.size ≤ s.k) = false := decide_eq_false (by omega)
    have hget : (((t[s.k]'hlt).toNat : Int) != (c : Int)) = true := by rw [nextN_at hlt] at hne; rw [bne_iff_ne]; omega
    have hki : (s.k : Int) < (t.size : Int) := by omega
    obtain ⟨k, d, f, g, nm⟩ := s
    dsimp only at hc1 H hd hget hki hlt
    clear h hno hne
    go_enter Tryz.func73, Tryz.ntmps73
    go_wp2_with fail
    go_quiet (fail)
    go_wp2_with fail
    refine bodyPost_ret (results_none rfl _ _ _) rfl ⟨rfl, H.out _⟩
  · have hd : decide (t.size ≤ s.k) = true := decide_eq_true (by omega)
    obtain ⟨k, d, f, g, nm⟩ := s
    dsimp only at hc1 H hd
    clear h hno hlt
    go_enter Tryz.func73, Tryz.ntmps73
    go_wp2_with fail
    go_quiet (fail)
    go_wp2_with fail
    refine bodyPost_ret (results_none rfl _ _ _) rfl ⟨rfl, H.out _⟩
theorem eats_any {w : World} {p r base : Nat} {t : ByteArray} {s : RS} {hv : Int} {n : Nat} (c : UInt8) (h : RA w p r base t s false hv n) (ht : t.size ≤ 60) :
    Calls Tryz.prog 73 #[.pointer (some ⟨p, 0, none⟩), .int .u8 (c.toNat : Int)] w fun e w' => e = .returned (.tuple #[]) ∧ (if seesM t s c then RA w' p r base t s.up false hv n else RA w' p r base t s true hv n) ∧ KS w w' ∧ EB base [] w w' := by
  rw [sees_next]
  by_cases hlt : s.k < t.size
  · by_cases hc : nextN t s.k = c.toNat
    · rw [decide_eq_true hlt, decide_eq_true hc]
      exact eats_yes c.toNat h ht hlt hc
    · rw [decide_eq_true hlt, decide_eq_false hc]
      exact eats_no c.toNat h (.inr hc)
  · rw [decide_eq_false hlt]
    exact eats_no c.toNat h (.inl (by omega))
end Go.Proofs.YtgmjjhmnchefbaaGreatDoor.G
