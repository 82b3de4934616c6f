/- L9 L13 L14, one behind the other. -/
import Derived.Test.YtgmjjhmnchefbaaGreatDoorM26
import Derived.Test.YtgmjjhmnchefbaaGreatDoorM05
set_option linter.unusedVariables false
set_option linter.unusedSimpArgs false
/- The document's own reader of patterns: rounds; the numbers of a count, as the plain reader tells them. -/
namespace Go.Proofs.YtgmjjhmnchefbaaGreatDoor.G
open Go.RowKit

theorem sees_nx {t : ByteArray} {s : RS} {b : UInt8} (hb : b.toNat ≠ 0) : seesM t s b = decide (nextN t s.k = b.toNat) := by
  rw [sees_next]
  by_cases h : s.k < t.size
  · rw [decide_eq_true h, Bool.true_and]
  · rw [decide_eq_false h, Bool.false_and]
    have : nextN t s.k = 0 := by unfold nextN byteAt; rw [Array.getElem?_eq_none (by show t.size ≤ s.k; omega)]
    rw [this]
    exact (decide_eq_false (fun e => hb e.symm)).symm
theorem timesM_nx (t : ByteArray) (least : Nat) (s : RS) : timesM t least s = if 48 + least ≤ nextN t s.k ∧ nextN t s.k ≤ 57 then .ok (nextN t s.k - 48) s.up else .bad s := by
  unfold timesM nextN
  cases h : byteAt t s.k with
  | none => dsimp only; rw [if_neg (by omega)]
  | some b =>
    dsimp only
    by_cases hc : 48 + least ≤ b.toNat ∧ b.toNat ≤ 57
    · rw [if_neg (by omega), if_pos hc]
    · rw [if_pos (by omega), if_neg hc]
theorem times_mirror {t : ByteArray} {k d g : Nat} {f : Bool} {nm : List (ByteArray × Nat)} {o : Option (Nat × Int)} {k' : Nat} (h : TimesR t k o k') : match o with
    | some x => bracesM t ⟨k + 1, d, f, g, nm⟩ = .ok x ⟨k' + 1, d, f, g, nm⟩ ∧ nextN t k' = 125
    | none => bracesM t ⟨k + 1, d, f, g, nm⟩ = .bad ⟨k', d, f, g, nm⟩ := by
  have s125 : ∀ s : RS, seesM t s 125 = decide (nextN t s.k = 125) := fun s => sees_nx (by decide)
  have s44 : ∀ s : RS, seesM t s 44 = decide (nextN t s.k = 44) := fun s => sees_nx (by decide)
  have hz : ∀ a : Nat, 48 + 0 ≤ a ∧ a ≤ 57 ↔ 48 ≤ a ∧ a ≤ 57 := fun a => by omega
  cases h with
  | noDig h1 =>
    have hd := of_decide_eq_false h1
    simp [bracesM, timesM_nx, Res.bind, hd]
  | one h1 h2 =>
    have hd := of_decide_eq_true h1
    refine ⟨?_, h2⟩
    simp [bracesM, timesM_nx, s125, Res.bind, RS.up, hd, h2]
  | oneBad h1 h2 h3 =>
    have hd := of_decide_eq_true h1
    simp [bracesM, mustM, timesM_nx, s125, s44, Res.bind, RS.up, hd, h2, h3]
  | more h1 h2 h3 =>
    have hd := of_decide_eq_true h1
    refine ⟨?_, h3⟩
    simp [bracesM, mustM, timesM_nx, s125, s44, Res.bind, RS.up, hd, h2, h3]
  | twoBad h1 h2 h3 h4 =>
    have hd := of_decide_eq_true h1
    have h5 : ¬ (48 + (nextN t (k + 1) - 48) ≤ nextN t (k + 3) ∧ nextN t (k + 3) ≤ 57) := by
      rcases h4 with h4 | h4
      · have := of_decide_eq_false h4; omega
      · omega
    simp [bracesM, mustM, timesM_nx, s125, s44, Res.bind, RS.up, hd, h2, h3, h5]
    rw [if_neg (show ¬ (nextN t (k + 1) ≤ nextN t (k + 3) ∧ nextN t (k + 3) ≤ 57) by omega)]
  | two h1 h2 h3 h4 h5 =>
    have hd := of_decide_eq_true h1
    have hd3 := of_decide_eq_true h3
    refine ⟨?_, h5⟩
    have h6 : 48 + (nextN t (k + 1) - 48) ≤ nextN t (k + 3) ∧ nextN t (k + 3) ≤ 57 := by omega
    have h7 : nextN t (k + 3) ≠ 125 := by omega
    simp [bracesM, mustM, timesM_nx, s125, s44, Res.bind, RS.up, hd, h2, h5, h6, h7]
    rw [if_pos (show nextN t (k + 1) ≤ nextN t (k + 3) from h4)]
    dsimp only
    rw [if_pos (show nextN t (k + 4) = 125 from h5)]
  | endBad h1 h2 h3 h4 h5 =>
    have hd := of_decide_eq_true h1
    have hd3 := of_decide_eq_true h3
    have h6 : 48 + (nextN t (k + 1) - 48) ≤ nextN t (k + 3) ∧ nextN t (k + 3) ≤ 57 := by omega
    have h7 : nextN t (k + 3) ≠ 125 := by omega
    simp [bracesM, mustM, timesM_nx, s125, s44, Res.bind, RS.up, hd, h2, h5, h6, h7]
    rw [if_pos (show nextN t (k + 1) ≤ nextN t (k + 3) from h4)]
    dsimp only
    rw [if_neg (show ¬ nextN t (k + 4) = 125 from h5)]

def exprL (k a b n : Int) (z : Bool) (bs : List Bool) : List Value := [.int .i64 k, .int .i64 a, .int .i64 b, .int .i64 n, .bool z] ++ sB bs
theorem node_ex {w : World} {p r base : Nat} {t : ByteArray} {s : RS} {bad : Bool} {hv : Int} {n : Nat} (k a b m : Int) (z : Bool) (bs : List Bool) (hb : bs.length = 129) (h : RA w p r base t s bad hv n) (hn : n ≤ 100000) :
    Calls Tryz.prog 35 #[.pointer (some ⟨p, 0, none⟩), .agg (exprL k a b m z bs).toArray] w fun e w' => e = .returned (.int .i64 (n : Int)) ∧ RA w' p r base t s bad hv (n + 1) ∧ Fr w w' base := by
  refine (node_any (exprL k a b m z bs) (by simp [exprL, sB_len, hb]) (fun u hu => ?_) h hn).mono ?_
  · unfold exprL at hu
    rcases List.mem_append.1 hu with hu | hu
    · simp at hu
      rcases hu with rfl | rfl | rfl | rfl | rfl <;> rfl
    · exact sB_plain bs u hu
  · rintro e w' ⟨h1, h2, h3, h4⟩
    exact ⟨h1, h2, h3, h4⟩
set_option maxHeartbeats 8000000 in
set_option maxRecDepth 100000 in
theorem rounds_any {w : World} {p r base : Nat} {t : ByteArray} {s : RS} {bad : Bool} {hv : Int} {n : Nat} (x : Int) (le : Nat) (mo : Int) (z : Bool) (h : RA w p r base t s bad hv n) (hn : n ≤ 90000) (hle : le ≤ 9) (hmo : mo = -1 ∨ ((le : Int) ≤ mo ∧ mo ≤ 9)) :
    Calls Tryz.prog 74 #[.pointer (some ⟨p, 0, none⟩), .int .i64 x, .int .i64 (le : Int), .int .i64 mo, .bool z] w fun e w' => ∃ (y : Int) (n' : Nat), e = .returned (.int .i64 y) ∧ n' ≤ n + 30 ∧ RA w' p r base t s bad hv n' ∧ Fr w w' base := by
  have H := hide h
  clear h
  go_enter Tryz.func74, Tryz.ntmps74
  go_wp2_with fail
  refine (node_ex 1 0 0 0 false noB rfl H.out (by omega)).mono ?_
  rintro e w1 ⟨rfl, h1, fr1⟩
  have H1 := hide h1
  have F1 := hide fr1
  clear h1 fr1
  by_cases hm : mo = -1
  · subst hm
    go_wp2_with fail
    refine (node_ex 5 x 0 0 z noB rfl H1.out (by omega)).mono ?_
    rintro e w2 ⟨rfl, h2, fr2⟩
    have H2 := hide h2
    have F2 := hide (F1.out.trans fr2)
    clear h2 fr2
    have hno : ¬ (le : Int) < -1 := by omega
    go_wp2_with fail
    go_loopg [11, 12] 0 (fun gk o i wr => wr = w2 ∧ i = .int .i64 (le : Int) ∧ ∃ y : Int, o = .int .i64 y)
    case atStart => exact ⟨rfl, rfl, _, rfl⟩
    case round =>
      obtain ⟨rfl, rfl, y0, rfl⟩ := hrel
      go_wp2_with fail
      go_loopg [11, 13] le (fun gk o i wr => ∃ (j : Nat) (y : Int), j + gk = le ∧ i = .int .i64 (j : Int) ∧ o = .int .i64 y ∧ RA wr p r base t s bad hv (n + 2 + j) ∧ Fr w wr base)
      case atStart => exact ⟨0, _, by omega, rfl, rfl, H2.out, F2.out⟩
      case round =>
        obtain ⟨j, y, hj, rfl, rfl, h3, fr3⟩ := hrel
        have H3 := hide h3
        have F3 := hide fr3
        clear h3 fr3
        cases gk with
        | zero =>
          have hjl : ¬ (j : Int) < (le : Int) := by omega
          go_wp2_with fail
          go_ret
          exact ⟨⟨_, rfl⟩, n + 2 + j, by omega, H3.out, F3.out⟩
        | succ g =>
          have hjl : (j : Int) < (le : Int) := by omega
          go_wp2_with fail
          refine (node_ex 3 x y 0 false noB rfl H3.out (by omega)).mono ?_
          rintro e w4 ⟨rfl, h4, fr4⟩
          have H4 := hide h4
          have F4 := hide (F3.out.trans fr4)
          clear h4 fr4
          go_wp2_with fail
          go_roundg g
          case measure => omega
          case rel => exact ⟨j + 1, _, by omega, by simp, rfl, H4.out, F4.out⟩
  · obtain ⟨m, hmm⟩ : ∃ m : Nat, (m : Int) = mo := ⟨mo.toNat, by omega⟩
    subst hmm
    have hlem : le ≤ m ∧ m ≤ 9 := by omega
    have hneg : ¬ (m : Int) < 0 := by omega
    go_wp2_with fail
    go_loopg [11, 12] (m - le) (fun gk o i wr => ∃ (j : Nat) (y : Int), j + gk = m - le ∧ i = .int .i64 ((le + j : Nat) : Int) ∧ o = .int .i64 y ∧ RA wr p r base t s bad hv (n + 1 + 2 * j) ∧ Fr w wr base)
    case atStart => exact ⟨0, _, by omega, rfl, rfl, H1.out, F1.out⟩
    case round =>
      obtain ⟨j, y, hj, rfl, rfl, h2, fr2⟩ := hrel
      have H2 := hide h2
      have F2 := hide fr2
      clear h2 fr2
      cases gk with
      | succ g =>
        have hjl : ((le + j : Nat) : Int) < (m : Int) := by omega
        have hjl2 : (le : Int) + (j : Int) < (m : Int) := by omega
        go_wp2_with fail
        refine (node_ex 3 x y 0 false noB rfl H2.out (by omega)).mono ?_
        rintro e w3 ⟨rfl, h3, fr3⟩
        have H3 := hide h3
        have F3 := hide (F2.out.trans fr3)
        clear h3 fr3
        go_wp2_with fail
        refine (node_ex 6 _ 0 0 z noB rfl H3.out (by omega)).mono ?_
        rintro e w4 ⟨rfl, h4, fr4⟩
        have H4 := hide h4
        have F4 := hide (F3.out.trans fr4)
        clear h4 fr4
        go_wp2_with fail
        go_roundg g
        case measure => omega
        case rel => exact ⟨j + 1, _, by omega, by simp; omega, rfl, H4.out, F4.out⟩
      | zero =>
        have hjl : ¬ ((le + j : Nat) : Int) < (m : Int) := by omega
        have hjl2 : ¬ (le : Int) + (j : Int) < (m : Int) := by omega
        go_wp2_with fail
        go_loopg [11, 13] le (fun gk o i wr => ∃ (i' : Nat) (y : Int), i' + gk = le ∧ i = .int .i64 (i' : Int) ∧ o = .int .i64 y ∧ RA wr p r base t s bad hv (n + 1 + 2 * j + i') ∧ Fr w wr base)
        case atStart => exact ⟨0, _, by omega, rfl, rfl, H2.out, F2.out⟩
        case round =>
          obtain ⟨i', y', hj', rfl, rfl, h3, fr3⟩ := hrel
          have H3 := hide h3
          have F3 := hide fr3
          clear h3 fr3
          cases gk with
          | zero =>
            have hjl9 : ¬ (i' : Int) < (le : Int) := by omega
            go_wp2_with fail
            go_ret
            exact ⟨⟨_, rfl⟩, n + 1 + 2 * j + i', by omega, H3.out, F3.out⟩
          | succ g =>
            have hjl9 : (i' : Int) < (le : Int) := by omega
            go_wp2_with fail
            refine (node_ex 3 x y' 0 false noB rfl H3.out (by omega)).mono ?_
            rintro e w4 ⟨rfl, h4, fr4⟩
            have H4 := hide h4
            have F4 := hide (F3.out.trans fr4)
            clear h4 fr4
            go_wp2_with fail
            go_roundg g
            case measure => omega
            case rel => exact ⟨i' + 1, _, by omega, by simp, rfl, H4.out, F4.out⟩
end Go.Proofs.YtgmjjhmnchefbaaGreatDoor.G

/- The document's own reader of patterns: an end of a pair, in plain words, and the plain reader's items. -/
namespace Go.Proofs.YtgmjjhmnchefbaaGreatDoor.G

def endM (t : ByteArray) (low : Int) (s : RS) : Res (Option Nat) := match byteAt t s.k with
  | none => .bad s
  | some b =>
    if 128 ≤ b.toNat then .bad s
    else if b = 92 then
      if 125 < low then .bad s
      else match escapeM t s.up with
        | .bad s' => .bad s'
        | .ok x s' => if 0 ≤ low ∧ (if x.2.2 then (x.2.1.toNat : Int) else -1) < low then .bad s.up else .ok (if x.2.2 then some x.2.1.toNat else none) s'
    else if b = 91 ∨ b = 93 ∨ b = 94 ∨ b = 45 ∨ (b.toNat : Int) < low then .bad s
    else .ok (some b.toNat) s.up
theorem sees_byte {t : ByteArray} {s : RS} {b c : UInt8} (h : byteAt t s.k = some b) : seesM t s c = decide (b = c) := by
  unfold seesM
  rw [h]
  by_cases e : b = c
  · rw [e]; simp
  · rw [decide_eq_false e]
    simpa using e
theorem sees_nobyte {t : ByteArray} {s : RS} {c : UInt8} (h : byteAt t s.k = none) : seesM t s c = false := by
  unfold seesM
  rw [h]
  rfl
theorem escape_flag {t : ByteArray} {s s' : RS} {x : Cls × UInt8 × Bool} (h : escapeM t s = .ok x s') : (x.2.2 = true → byteAt t s.k = some x.2.1 ∧ x.2.1 ∈ escL) ∧ s' = s.up := by
  unfold escapeM at h
  split at h
  · cases h
  · next b hb =>
    split at h
    · next hm => cases h; exact ⟨fun _ => ⟨hb, hm⟩, rfl⟩
    · split at h
      · cases h
      · cases h; exact ⟨fun h9 => absurd h9 (by simp), rfl⟩
theorem end_item (t : ByteArray) (s : RS) : match endM t (-1) s with
    | .bad s' => itemM t s = .bad s'
    | .ok none s' => ∃ c, itemM t s = .ok c s'
    | .ok (some n) s' => ∃ b : UInt8, b.toNat = n ∧ itemM t s = itemTail t b s' := by
  unfold endM
  cases hb : byteAt t s.k with
  | none =>
    dsimp only
    unfold itemM plainM
    rw [sees_nobyte hb, hb]
    rfl
  | some b =>
    dsimp only
    by_cases h128 : 128 ≤ b.toNat
    · rw [if_pos h128]
      dsimp only
      unfold itemM plainM
      have h92 : b ≠ 92 := fun e => by subst e; revert h128; decide
      rw [sees_byte hb, decide_eq_false h92, hb]
      simp [h128, Res.bind]
    · rw [if_neg h128]
      by_cases h92 : b = 92
      · rw [if_pos h92, if_neg (by omega)]
        cases he : escapeM t s.up with
        | bad s' =>
          dsimp only
          unfold itemM
          rw [sees_byte hb, decide_eq_true h92, if_pos rfl, he]
          rfl
        | ok x s' =>
          dsimp only
          rw [if_neg (by omega)]
          cases hx : x.2.2 with
          | true =>
            simp only [if_true]
            refine ⟨x.2.1, rfl, ?_⟩
            unfold itemM
            rw [sees_byte hb, decide_eq_true h92, if_pos rfl, he, Res.bind_ok, hx, if_pos rfl]
          | false =>
            simp only [Bool.false_eq_true, if_false]
            refine ⟨x.1, ?_⟩
            unfold itemM
            rw [sees_byte hb, decide_eq_true h92, if_pos rfl, he, Res.bind_ok, hx, if_neg (by simp)]
      · rw [if_neg h92]
        by_cases hs : b = 91 ∨ b = 93 ∨ b = 94 ∨ b = 45
        · rw [if_pos (by rcases hs with h | h | h | h <;> simp [h])]
          dsimp only
          unfold itemM plainM
          rw [sees_byte hb, decide_eq_false h92, hb]
          have hm : b ∈ setL := by rcases hs with h | h | h | h <;> (subst h; decide)
          simp [hm, Res.bind]
        · have hneg : ¬ (b = 91 ∨ b = 93 ∨ b = 94 ∨ b = 45 ∨ (b.toNat : Int) < -1) := by
            rintro (h | h | h | h | h)
            · exact hs (.inl h)
            · exact hs (.inr (.inl h))
            · exact hs (.inr (.inr (.inl h)))
            · exact hs (.inr (.inr (.inr h)))
            · omega
          rw [if_neg hneg]
          dsimp only
          refine ⟨b, rfl, ?_⟩
          unfold itemM plainM
          rw [sees_byte hb, decide_eq_false h92, hb]
          have hm : b ∉ setL := fun hm => by
            simp only [setL, List.mem_cons, List.not_mem_nil, or_false] at hm
            rcases hm with h | h | h | h | h
            · exact h92 h
            · exact hs (.inl h)
            · exact hs (.inr (.inl h))
            · exact hs (.inr (.inr (.inl h)))
            · exact hs (.inr (.inr (.inr h)))
          simp [hm, h128, Res.bind]
theorem end_pair (t : ByteArray) (a : UInt8) (s : RS) : match endM t (a.toNat : Int) s with
    | .bad s' => pairEndM t a s = .bad s'
    | .ok none s' => False
    | .ok (some n) s' => ∃ e : UInt8, e.toNat = n ∧ pairEndM t a s = .ok e s' := by
  unfold endM
  cases hb : byteAt t s.k with
  | none =>
    dsimp only
    unfold pairEndM
    dsimp only
    rw [sees_nobyte hb, Bool.and_false, if_neg (by simp), hb]
  | some b =>
    dsimp only
    by_cases h128 : 128 ≤ b.toNat
    · rw [if_pos h128]
      dsimp only
      have h92 : b ≠ 92 := fun e => by subst e; revert h128; decide
      unfold pairEndM plainM
      dsimp only
      rw [sees_byte hb, decide_eq_false h92, Bool.and_false, if_neg (by simp), hb]
      simp [h128]
    · rw [if_neg h128]
      by_cases h92 : b = 92
      · rw [if_pos h92]
        by_cases hlo : (125 : Int) < (a.toNat : Int)
        · rw [if_pos hlo]
          dsimp only
          unfold pairEndM
          dsimp only
          rw [decide_eq_false (by omega), Bool.false_and, if_neg (by simp), hb]
          have h9 : b.toNat < a.toNat := by rw [h92]; show 92 < a.toNat; omega
          simp [h9]
        · rw [if_neg hlo]
          have hesc : (decide (a.toNat ≤ 125) && seesM t s 92) = true := by rw [decide_eq_true (by omega), sees_byte hb, decide_eq_true h92]; rfl
          cases he : escapeM t s.up with
          | bad s' =>
            dsimp only
            unfold pairEndM
            dsimp only
            rw [if_pos hesc]
            unfold escapeM at he
            cases hb2 : byteAt t s.up.k with
            | none => rw [hb2] at he; cases he; rfl
            | some c =>
              rw [hb2] at he
              dsimp only at he ⊢
              split at he
              · cases he
              · next hm =>
                split at he
                · cases he
                  by_cases hc : c.toNat < a.toNat
                  · rw [if_pos hc]
                  · rw [if_neg hc, if_pos hesc, if_neg hm]
                · cases he
          | ok x s' =>
            obtain ⟨hfl, hs'⟩ := escape_flag he
            have he2 := he
            unfold escapeM at he2
            cases hb2 : byteAt t s.up.k with
            | none => rw [hb2] at he2; cases he2
            | some c =>
              rw [hb2] at he2
              dsimp only at he2
              have hpair : pairEndM t a s = if c.toNat < a.toNat then .bad s.up else if c ∈ escL then .ok c s.up.up else .bad s.up := by
                unfold pairEndM
                dsimp only
                rw [if_pos hesc, hb2]
                dsimp only
                rw [if_pos hesc]
              dsimp only
              cases hx : x.2.2 with
              | true =>
                obtain ⟨h1, h2⟩ := hfl hx
                rw [hb2] at h1
                cases h1
                simp only [if_true]
                by_cases hc : x.2.1.toNat < a.toNat
                · rw [if_pos ⟨by omega, by omega⟩]
                  dsimp only
                  rw [hpair, if_pos hc]
                · rw [if_neg (by omega)]
                  dsimp only
                  exact ⟨_, rfl, by rw [hpair, if_neg hc, if_pos h2, hs']⟩
              | false =>
                simp only [Bool.false_eq_true, if_false]
                rw [if_pos ⟨by omega, by omega⟩]
                dsimp only
                rw [hpair]
                split at he2
                · cases he2; simp at hx
                · next hm =>
                  rw [if_neg hm]
                  split <;> rfl
      · rw [if_neg h92]
        have hesc : ¬ (decide (a.toNat ≤ 125) && seesM t s 92) = true := by rw [sees_byte hb, decide_eq_false h92, Bool.and_false]; simp
        have hpair : pairEndM t a s = if b.toNat < a.toNat then .bad s else plainM t setL s := by
          unfold pairEndM
          dsimp only
          rw [if_neg hesc, hb]
          dsimp only
          rw [if_neg hesc]
        by_cases hbad : b = 91 ∨ b = 93 ∨ b = 94 ∨ b = 45 ∨ (b.toNat : Int) < (a.toNat : Int)
        · rw [if_pos hbad]
          dsimp only
          rw [hpair]
          by_cases hc : b.toNat < a.toNat
          · rw [if_pos hc]
          · rw [if_neg hc]
            unfold plainM
            rw [hb]
            have hm : b ∈ setL := by
              rcases hbad with h | h | h | h | h
              · subst h; decide
              · subst h; decide
              · subst h; decide
              · subst h; decide
              · omega
            simp [hm]
        · rw [if_neg hbad]
          dsimp only
          refine ⟨b, rfl, ?_⟩
          rw [hpair, if_neg (fun h => hbad (.inr (.inr (.inr (.inr (by omega))))))]
          unfold plainM
          rw [hb]
          have hm : b ∉ setL := fun hm => by
            simp only [setL, List.mem_cons, List.not_mem_nil, or_false] at hm
            rcases hm with h | h | h | h | h
            · exact h92 h
            · exact hbad (.inl h)
            · exact hbad (.inr (.inl h))
            · exact hbad (.inr (.inr (.inl h)))
            · exact hbad (.inr (.inr (.inr (.inl h))))
          simp [hm, h128]
end Go.Proofs.YtgmjjhmnchefbaaGreatDoor.G

/- The document's own reader of patterns: the plain reader's parts, cut as the document's reader takes them. -/
namespace Go.Proofs.YtgmjjhmnchefbaaGreatDoor.G
open Go.RowKit

theorem byte_nxt {t : ByteArray} {k : Nat} (h : k < t.size) : ∃ b : UInt8, byteAt t k = some b ∧ nextN t k = b.toNat := by
  refine ⟨t.data[k]'h, by unfold byteAt; exact Array.getElem?_eq_getElem h, ?_⟩
  unfold nextN byteAt
  rw [Array.getElem?_eq_getElem h]
def tailM (t : ByteArray) (i : Nat) (s : RS) : Res Nat :=
  if s.k = i ∨ takenM s.nm (t.extract i s.k) = true then .bad s
  else (mustM t s 62).bind fun _ s5 => .ok (s5.g + 1) { s5 with g := s5.g + 1, nm := s5.nm ++ [(t.extract i s.k, s5.g + 1)] }
def namedM (t : ByteArray) (s : RS) : Res Nat :=
  (mustM t s 60).bind fun _ s3 => (gnLoop t s3.k 8 s3).bind fun _ s1 => tailM t s3.k s1
theorem named_eq (t : ByteArray) (s : RS) : ((mustM t s 60).bind fun _ s3 => (groupNameM t s3).bind fun n s4 => (mustM t s4 62).bind fun _ s5 =>
      Res.ok (s5.g + 1) { s5 with g := s5.g + 1, nm := s5.nm ++ [(n, s5.g + 1)] }) = namedM t s := by
  unfold namedM
  congr 1
  funext _ s3
  unfold groupNameM
  cases gnLoop t s3.k 8 s3 with
  | bad s1 => rfl
  | ok u s1 =>
    simp only [Res.bind_ok]
    unfold tailM
    by_cases h : s1.k = s3.k ∨ takenM s1.nm (t.extract s3.k s1.k) = true
    · rw [if_pos h, if_pos h]; rfl
    · rw [if_neg h, if_neg h]; rfl
theorem opening_q {t : ByteArray} {s : RS} (h : seesM t s 63 = true) : openingM t s = if seesM t s.up 58 then .ok 0 s.up.up else if s.g = 5 then .bad s.up else (mustM t s.up 80).bind fun _ s2 => namedM t s2 := by
  unfold openingM
  rw [if_neg (by simp [h])]
  unfold mustM
  rw [if_pos h, Res.bind_ok]
  by_cases h58 : seesM t s.up 58 = true
  · rw [if_pos h58, if_pos h58]
  · rw [if_neg h58, if_neg h58]
    show (if s.g = 5 then _ else _) = _
    by_cases h5 : s.g = 5
    · rw [if_pos h5, if_pos h5]
    · rw [if_neg h5, if_neg h5]
      congr 1
      funext _ s2
      exact named_eq t s2
theorem opening_p {t : ByteArray} {s : RS} (h : seesM t s 63 = false) : openingM t s = if s.g = 5 then .bad s else .ok (s.g + 1) { s with g := s.g + 1 } := by
  unfold openingM
  by_cases h5 : s.g = 5
  · rw [if_neg (by simp [h5]), if_pos h5]
    unfold mustM
    rw [if_neg (by simp [h])]
    rfl
  · rw [if_pos ⟨h5, h⟩, if_neg h5]
def Res.setD {α : Type} (x : Nat) : Res α → Res α
  | .ok a s => .ok a { s with d := x }
  | .bad s => .bad { s with d := x }
theorem gnLoop_d (t : ByteArray) (i x : Nat) : ∀ (n : Nat) (s : RS), gnLoop t i n { s with d := x } = (gnLoop t i n s).setD x
  | 0, s => rfl
  | n + 1, s => by
    unfold gnLoop
    dsimp only
    cases byteAt t s.k with
    | none => rfl
    | some b =>
      dsimp only
      by_cases h : 97 ≤ b.toNat ∧ b.toNat ≤ 122
      · rw [if_pos h, if_pos h]
        by_cases h2 : n = 0 ∧ takenM s.nm (t.extract i (s.k + 1)) = true
        · rw [if_pos h2, if_pos h2]; rfl
        · rw [if_neg h2, if_neg h2]
          exact gnLoop_d t i x n s.up
      · rw [if_neg h, if_neg h]; rfl
theorem must_d (t : ByteArray) (s : RS) (x : Nat) (b : UInt8) : mustM t { s with d := x } b = (mustM t s b).setD x := by
  unfold mustM
  show (if seesM t s b then _ else _) = _
  split <;> rfl
theorem tail_d (t : ByteArray) (s : RS) (x i : Nat) : tailM t i { s with d := x } = (tailM t i s).setD x := by
  unfold tailM
  dsimp only
  by_cases h : s.k = i ∨ takenM s.nm (t.extract i s.k) = true
  · rw [if_pos h, if_pos h]; rfl
  · rw [if_neg h, if_neg h, must_d]
    cases mustM t s 62 <;> rfl
theorem named_d (t : ByteArray) (s : RS) (x : Nat) : namedM t { s with d := x } = (namedM t s).setD x := by
  unfold namedM
  rw [must_d]
  cases mustM t s 60 with
  | bad s1 => rfl
  | ok u s1 =>
    simp only [Res.setD, Res.bind_ok]
    rw [gnLoop_d]
    cases gnLoop t s1.k 8 s1 with
    | bad s2 => rfl
    | ok u s2 =>
      simp only [Res.setD, Res.bind_ok]
      exact tail_d t s2 x s1.k
theorem opening_d (t : ByteArray) (s : RS) (x : Nat) : openingM t { s with d := x } = (openingM t s).setD x := by
  cases h : seesM t s 63 with
  | true =>
    rw [opening_q (s := { s with d := x }) (show seesM t { s with d := x } 63 = true from h), opening_q h]
    show (if seesM t s.up 58 then _ else _) = _
    by_cases h58 : seesM t s.up 58 = true
    · rw [if_pos h58, if_pos h58]; rfl
    · rw [if_neg h58, if_neg h58]
      dsimp only
      by_cases h5 : s.g = 5
      · rw [if_pos h5, if_pos h5]; rfl
      · rw [if_neg h5, if_neg h5]
        show (mustM t { s.up with d := x } 80).bind _ = _
        rw [must_d]
        cases mustM t s.up 80 with
        | bad s1 => rfl
        | ok u s1 => exact named_d t s1 x
  | false =>
    rw [opening_p (s := { s with d := x }) (show seesM t { s with d := x } 63 = false from h), opening_p h]
    dsimp only
    by_cases h5 : s.g = 5
    · rw [if_pos h5, if_pos h5]; rfl
    · rw [if_neg h5, if_neg h5]; rfl
theorem paren_eq {t : ByteArray} {E : RS → Res Pt} {s : RS} (h : seesM t s 40 = true) (hd : s.d ≠ 6) : parenM t E s = ((openingM t s.up).setD (s.d + 1)).bind fun g s2 => (E s2).bind fun p s3 => (mustM t s3 41).bind fun _ s4 => .ok (.wrap p g) { s4 with d := s4.d - 1 } := by
  unfold parenM
  rw [if_neg hd]
  unfold mustM
  rw [if_pos h, Res.bind_ok]
  show (openingM t { s.up with d := s.d + 1 }).bind _ = _
  rw [opening_d]
theorem expr_end {t : ByteArray} {E : RS → Res Pt} {s : RS} (h : s.k = t.size) : exprM t E s = .ok (.alt [.seq []]) s := by
  have hno : seesM t s 124 = false := by
    rw [sees_next, decide_eq_false (by omega)]
    rfl
  unfold exprM branchM
  rw [if_pos (.inl h), Res.bind_ok]
  unfold altM
  rw [if_neg (by simp [hno]), Res.bind_ok]
theorem opening_end {t : ByteArray} {s : RS} (h : t.size ≤ s.k) : openingM t s = if s.g = 5 then .bad s else .ok (s.g + 1) { s with g := s.g + 1 } := opening_p (by rw [sees_next, decide_eq_false (by omega)]; rfl)
theorem paren_end {t : ByteArray} {E : RS → Res Pt} {s : RS} (h : seesM t s 40 = true) (hd : s.d ≠ 6) (hk : s.k + 1 = t.size) (hE : ∀ s' : RS, s'.d = s.d + 1 → s'.k = t.size → E s' = .ok (.alt [.seq []]) s') : ∃ s', parenM t E s = .bad s' ∧ s'.k = s.k + 1 := by
  rw [paren_eq h hd, opening_end (by show t.size ≤ s.k + 1; omega)]
  by_cases h5 : s.up.g = 5
  · rw [if_pos h5]
    exact ⟨_, rfl, rfl⟩
  · rw [if_neg h5]
    show ∃ s', (E ⟨s.k + 1, s.d + 1, s.f, s.g + 1, s.nm⟩).bind _ = .bad s' ∧ _
    rw [hE ⟨s.k + 1, s.d + 1, s.f, s.g + 1, s.nm⟩ rfl hk, Res.bind_ok]
    refine ⟨⟨s.k + 1, s.d + 1, s.f, s.g + 1, s.nm⟩, ?_, rfl⟩
    unfold mustM
    rw [if_neg]
    · rfl
    · rw [sees_next, decide_eq_false (by show ¬ s.k + 1 < t.size; omega)]
      simp
theorem RA.hvs {w : World} {p r base : Nat} {t : ByteArray} {s : RS} {bad : Bool} {hv : Int} {n : Nat} (h : RA w p r base t s bad hv n) (W : World) {v : Int} (hW : w.setCell ⟨p, 6, none⟩ (.int .i64 v) = W) : RA W p r base t s bad v n ∧ Fr w W base := by
  obtain ⟨a, b, c⟩ := h.setCell (s' := s) (bad' := bad) (hv' := v) 6 (.int .i64 v) rfl rfl rfl
  rw [hW] at a b c
  exact ⟨a, b, c⟩
theorem RA.dps {w : World} {p r base : Nat} {t : ByteArray} {s : RS} {bad : Bool} {hv : Int} {n : Nat} (h : RA w p r base t s bad hv n) (W : World) {v : Int} (x : Nat) (hW : w.setCell ⟨p, 5, none⟩ (.int .i64 v) = W) (e : v = (x : Int)) : RA W p r base t { s with d := x } bad hv n ∧ Fr w W base := by
  subst e
  obtain ⟨a, b, c⟩ := h.setCell (s' := { s with d := x }) (bad' := bad) (hv' := hv) 5 (.int .i64 (x : Int)) rfl rfl rfl
  rw [hW] at a b c
  exact ⟨a, b, c⟩
theorem RA.ats {w : World} {p r base : Nat} {t : ByteArray} {s : RS} {bad : Bool} {hv : Int} {n : Nat} (h : RA w p r base t s bad hv n) (W : World) {v : Int} (x : Nat) (hW : w.setCell ⟨p, 1, none⟩ (.int .i64 v) = W) (e : v = (x : Int)) : RA W p r base t { s with k := x } bad hv n ∧ Fr w W base := by
  subst e
  obtain ⟨a, b, c⟩ := h.setCell (s' := { s with k := x }) (bad' := bad) (hv' := hv) 1 (.int .i64 (x : Int)) rfl rfl rfl
  rw [hW] at a b c
  exact ⟨a, b, c⟩
theorem RA.more {w : World} {p r base : Nat} {t : ByteArray} {s : RS} {bad : Bool} {hv : Int} {n : Nat} (h : RA w p r base t s bad hv n) :
    w.cell? ⟨p, 3, none⟩ = some (.pointer (some ⟨r, 0, none⟩)) ∧ w.cell? ⟨p, 5, none⟩ = some (.int .i64 (s.d : Int)) ∧ w.cell? ⟨p, 6, none⟩ = some (.int .i64 hv) ∧ w.frozen? ⟨p, 5, none⟩ = false ∧ w.frozen? ⟨p, 6, none⟩ = false ∧ w.cell? ⟨r, 2, none⟩ = some (.int .i64 (s.g : Int)) ∧ w.frozen? ⟨r, 2, none⟩ = false ∧ r < w.heap.size := by
  obtain ⟨av, nv, ys, ns, h1, h2, h3, h4, h5⟩ := h.rn.ex
  exact ⟨h.rk.all.1 3, h.rk.all.1 5, h.rk.all.1 6, h.rk.all.2 5, h.rk.all.2 6, h1.all.1 2, h1.all.2 2, h1.lt⟩
theorem eats_gen {w : World} {p r base : Nat} {t : ByteArray} {s : RS} {bad : Bool} {hv : Int} {n : Nat} (c : UInt8) (h : RA w p r base t s bad hv n) (ht : t.size ≤ 60) :
    Calls Tryz.prog 73 #[.pointer (some ⟨p, 0, none⟩), .int .u8 (c.toNat : Int)] w fun e w' => e = .returned (.tuple #[]) ∧ Fr w w' base ∧ ((bad = false ∧ seesM t s c = true ∧ RA w' p r base t s.up false hv n) ∨ ((bad = true ∨ seesM t s c = false) ∧ RA w' p r base t s true hv n)) := by
  cases bad with
  | true =>
    refine (eats_bad _ h).mono ?_
    rintro e w' ⟨rfl, rfl⟩
    exact ⟨rfl, Fr.refl _ _, .inr ⟨.inl rfl, h⟩⟩
  | false =>
    refine (eats_any c h ht).mono ?_
    rintro e w' ⟨rfl, h1, h2, h3⟩
    cases hs : seesM t s c with
    | true => rw [hs] at h1; exact ⟨rfl, ⟨h2, h3⟩, .inl ⟨rfl, rfl, h1⟩⟩
    | false => rw [hs] at h1; exact ⟨rfl, ⟨h2, h3⟩, .inr ⟨.inr rfl, h1⟩⟩
theorem next_gen {w : World} {p r base : Nat} {t : ByteArray} {s : RS} {bad : Bool} {hv : Int} {n : Nat} (h : RA w p r base t s bad hv n) :
    Calls Tryz.prog 34 #[.pointer (some ⟨p, 0, none⟩)] w fun e w' => e = .returned (.int .u8 (nextN t s.k : Int)) ∧ RA w' p r base t s bad hv n ∧ Fr w w' base ∧ Ex [] w w' := by
  refine (next_any h.rk).mono ?_
  rintro e w' ⟨rfl, q, rfl⟩
  exact ⟨rfl, h.drewN q, Fr.drewN _ _ _, (Ex.refl _ _).drewN q⟩
def RdPost {α : Type} (w' : World) (p r base : Nat) (t : ByteArray) (s : RS) (n c1 c2 c3 : Nat) (hw : α → Int) (e : Ending) (m : Res α) : Prop :=
  (∃ y : Int, e = .returned (.int .i64 y)) ∧ match m with
  | .ok a s' => ∃ n', RA w' p r base t s' false (hw a) n' ∧ n' + c1 + 50 * s.k ≤ n + 50 * s'.k + c2
  | .bad s' => ∃ s'' hv' n', s''.k = s'.k ∧ s''.d = s.d ∧ RA w' p r base t s'' true hv' n' ∧ n' ≤ 20000 + 10 * (7 - s.d) + c3
theorem RdPost.mkOk {α : Type} {w' : World} {p r base : Nat} {t : ByteArray} {s : RS} {n c1 c2 c3 : Nat} {hw : α → Int} {y : Int} {m : Res α} {a : α} {s' : RS} {n' : Nat} {v : Int} (hm : m = .ok a s') (hv : v = hw a) (h : RA w' p r base t s' false v n') (hn : n' + c1 + 50 * s.k ≤ n + 50 * s'.k + c2) : RdPost w' p r base t s n c1 c2 c3 hw (.returned (.int .i64 y)) m := by
  subst hm; subst hv
  exact ⟨⟨_, rfl⟩, n', h, hn⟩
theorem RdPost.mkBad {α : Type} {w' : World} {p r base : Nat} {t : ByteArray} {s : RS} {n c1 c2 c3 : Nat} {hw : α → Int} {y : Int} {m : Res α} {s' s'' : RS} {hv' : Int} {n' : Nat} (hm : m = .bad s') (hk : s''.k = s'.k) (hd : s''.d = s.d) (h : RA w' p r base t s'' true hv' n') (hn : n' ≤ 20000 + 10 * (7 - s.d) + c3) : RdPost w' p r base t s n c1 c2 c3 hw (.returned (.int .i64 y)) m := by
  subst hm
  exact ⟨⟨_, rfl⟩, s'', hv', n', hk, hd, h, hn⟩
theorem RdPost.split {α : Type} {w' : World} {p r base : Nat} {t : ByteArray} {s : RS} {n c1 c2 c3 : Nat} {hw : α → Int} {e : Ending} {m : Res α} (h : RdPost w' p r base t s n c1 c2 c3 hw e m) : ∃ y : Int, e = .returned (.int .i64 y) ∧
    ((∃ a s' n', m = .ok a s' ∧ RA w' p r base t s' false (hw a) n' ∧ n' + c1 + 50 * s.k ≤ n + 50 * s'.k + c2) ∨ (∃ s' s'' hv' n', m = .bad s' ∧ s''.k = s'.k ∧ s''.d = s.d ∧ RA w' p r base t s'' true hv' n' ∧ n' ≤ 20000 + 10 * (7 - s.d) + c3)) := by
  obtain ⟨⟨y, hy⟩, h2⟩ := h
  refine ⟨y, hy, ?_⟩
  cases m with
  | ok a s' =>
    obtain ⟨n', h3, h4⟩ := h2
    exact .inl ⟨a, s', n', rfl, h3, h4⟩
  | bad s' =>
    obtain ⟨s'', hv', n', h3⟩ := h2
    exact .inr ⟨s', s'', hv', n', rfl, h3⟩
def ExprC (t : ByteArray) (p r base d : Nat) (E : RS → Res Pt) : Prop := ∀ (w : World) (s : RS) (hv : Int) (n : Nat), RA w p r base t s false hv n → s.d = d → s.g ≤ 5 → s.k ≤ t.size → n ≤ 10000 + 50 * s.k →
  Calls Tryz.prog 13 #[.pointer (some ⟨p, 0, none⟩)] w fun e w' => Fr w w' base ∧ RdPost w' p r base t s n 0 1 2 (fun q => (wt q : Int)) e (E s)
def AtomC (t : ByteArray) (p r base d : Nat) (E : RS → Res Pt) : Prop := ∀ (w : World) (s : RS) (hv : Int) (n : Nat), RA w p r base t s false hv n → s.d = d → s.g ≤ 5 → s.k < t.size → n ≤ 10001 + 50 * s.k →
  Calls Tryz.prog 71 #[.pointer (some ⟨p, 0, none⟩)] w fun e w' => Fr w w' base ∧ RdPost w' p r base t s n 40 0 0 (fun q => (wt q : Int)) e (atomM t E s)
def PieceC (t : ByteArray) (p r base d : Nat) (E : RS → Res Pt) : Prop := ∀ (w : World) (s : RS) (hv : Int) (n : Nat), RA w p r base t s false hv n → s.d = d → s.g ≤ 5 → s.k < t.size → n ≤ 10001 + 50 * s.k →
  Calls Tryz.prog 54 #[.pointer (some ⟨p, 0, none⟩)] w fun e w' => Fr w w' base ∧ RdPost w' p r base t s n 9 0 0 (fun q => (wt q : Int)) e (pieceM t E s)
def BranchC (t : ByteArray) (p r base d : Nat) (E : RS → Res Pt) : Prop := ∀ (w : World) (s : RS) (hv : Int) (n : Nat), RA w p r base t s false hv n → s.d = d → s.g ≤ 5 → s.k ≤ t.size → n ≤ 10000 + 50 * s.k →
  Calls Tryz.prog 33 #[.pointer (some ⟨p, 0, none⟩)] w fun e w' => Fr w w' base ∧ RdPost w' p r base t s n 0 1 1 (fun l => (wtL l : Int)) e (branchM t E (t.size + 1) [] s)
def FineE (t : ByteArray) (m : Nat) (E : RS → Res Pt) : Prop := ∀ s p s', E s = .ok p s' → s.g ≤ 5 → s.k ≤ t.size → Fine t m s p s'
end Go.Proofs.YtgmjjhmnchefbaaGreatDoor.G
