import Derived.Test.YtfnanjbleifjkaaGreatDoorM22
import Derived.Test.YtfnanjbleifjkaaGreatDoorM23
set_option linter.unusedVariables false
set_option linter.unusedSimpArgs false
set_option maxHeartbeats 8000000
set_option maxRecDepth 100000
namespace Go.Proofs.YtfnanjbleifjkaaGreatDoor.G
variable {t : ByteArray} {s s' : RS} {w w' : World} {base c1 c2 c3 n p r : Nat} {bad : Bool} {hv v : Int}
open Go.RowKit
theorem bL {b : UInt8} (hb : b.toNat ≠ 0) : ac t s b = decide (ai t s.k = b.toNat) := by
 rw [fx]
 by_cases h : s.k < t.size
 ·rw [decide_eq_true h, Bool.true_and]
 ·rw [decide_eq_false h, Bool.false_and]
  have : ai t s.k = 0 := by unfold ai aj; rw [Array.getElem?_eq_none (by show t.size <= s.k; omega)]
  rw [this]
  exact (decide_eq_false (fun e => hb e.symm)).symm
theorem dO (t : ByteArray) (least : Nat) (s : RS) : dh t least s = if 48 + least <= ai t s.k /\ ai t s.k <= 57 then .ok (ai t s.k - 48) s.up else .bad s := by
 unfold dh ai
 cases h : aj t s.k with
 |none => dsimp only; rw [if_neg (by omega)]
 |some b =>
  dsimp only
  by_cases hc : 48 + least <= b.toNat /\ b.toNat <= 57
  ·rw [if_neg (by omega), if_pos hc]
  ·rw [if_pos (by omega), if_neg hc]
theorem oz {k d g : Nat} {f : Bool} {nm : List (ByteArray × Nat)} {o : Option (Nat × Int)} {k' : Nat} (h : d9 t k o k') : match o with
  |some x => bl t ⟨k + 1, d, f, g, nm⟩ = .ok x ⟨k' + 1, d, f, g, nm⟩ /\ ai t k' = 125
  |none => bl t ⟨k + 1, d, f, g, nm⟩ = .bad ⟨k', d, f, g, nm⟩ := by
 have s125 : ∀ s : RS, ac t s 125 = decide (ai t s.k = 125) := fun s => bL (by decide)
 have s44 : ∀ s : RS, ac t s 44 = decide (ai t s.k = 44) := fun s => bL (by decide)
 have hz : ∀ a : Nat, 48 + 0 <= a /\ a <= 57 ↔ 48 <= a /\ a <= 57 := fun a => by omega
 cases h with
 |noDig h1 =>
  have hd := of_decide_eq_false h1
  simp [bl, dO, Res.bind, hd]
 |one h1 h2 =>
  have hd := of_decide_eq_true h1
  refine ⟨?_, h2⟩
  simp [bl, dO, s125, Res.bind, RS.up, hd, h2]
 |oneBad h1 h2 h3 =>
  have hd := of_decide_eq_true h1
  simp [bl, ax, dO, s125, s44, Res.bind, RS.up, hd, h2, h3]
 |more h1 h2 h3 =>
  have hd := of_decide_eq_true h1
  refine ⟨?_, h3⟩
  simp [bl, ax, dO, s125, s44, Res.bind, RS.up, hd, h2, h3]
 |twoBad h1 h2 h3 h4 =>
  have hd := of_decide_eq_true h1
  have h5 : ¬ (48 + (ai t (k + 1) - 48) <= ai t (k + 3) /\ ai t (k + 3) <= 57) := by
   rcases h4 with h4 | h4
   ·have := of_decide_eq_false h4; omega
   ·omega
  simp [bl, ax, dO, s125, s44, Res.bind, RS.up, hd, h2, h3, h5]
  rw [if_neg (show ¬ (ai t (k + 1) <= ai t (k + 3) /\ ai t (k + 3) <= 57) by omega)]
 |two h1 h2 h3 h4 h5 =>
  have hd := of_decide_eq_true h1
  have hd3 := of_decide_eq_true h3
  refine ⟨?_, h5⟩
  have h6 : 48 + (ai t (k + 1) - 48) <= ai t (k + 3) /\ ai t (k + 3) <= 57 := by omega
  have h7 : ai t (k + 3) ≠ 125 := by omega
  simp [bl, ax, dO, s125, s44, Res.bind, RS.up, hd, h2, h5, h6, h7]
  rw [if_pos (show ai t (k + 1) <= ai t (k + 3) from h4)]
  dsimp only
  rw [if_pos (show ai t (k + 4) = 125 from h5)]
 |endBad h1 h2 h3 h4 h5 =>
  have hd := of_decide_eq_true h1
  have hd3 := of_decide_eq_true h3
  have h6 : 48 + (ai t (k + 1) - 48) <= ai t (k + 3) /\ ai t (k + 3) <= 57 := by omega
  have h7 : ai t (k + 3) ≠ 125 := by omega
  simp [bl, ax, dO, s125, s44, Res.bind, RS.up, hd, h2, h5, h6, h7]
  rw [if_pos (show ai t (k + 1) <= ai t (k + 3) from h4)]
  dsimp only
  rw [if_neg (show ¬ ai t (k + 4) = 125 from h5)]
def aX (k a b n : Int) (z : Bool) (bs : List Bool) : List Value := [.int .i64 k, .int .i64 a, .int .i64 b, .int .i64 n, .bool z] ++ sB bs
inductive XT (w : World) (r : Nat) : Nat -> Xp -> Prop
 |emp {y} : aJ w r y (aX 1 0 0 0 false noB) -> XT w r y .emp
 |set {y c bs} : aJ w r y (aX 2 0 0 0 false bs) -> bs.length = 129 -> AgC bs c -> XT w r y (.set c)
 |cat {y a b A B} : aJ w r y (aX 3 (a : Nat) (b : Nat) 0 false noB) -> XT w r a A -> XT w r b B -> XT w r y (.cat A B)
 |alt {y a b A B} : aJ w r y (aX 4 (a : Nat) (b : Nat) 0 false noB) -> XT w r a A -> XT w r b B -> XT w r y (.alt A B)
 |star {y a z A} : aJ w r y (aX 5 (a : Nat) 0 0 z noB) -> XT w r a A -> XT w r y (.star A z)
 |may {y a z A} : aJ w r y (aX 6 (a : Nat) 0 0 z noB) -> XT w r a A -> XT w r y (.may A z)
 |grp {y a n A} : aJ w r y (aX 7 (a : Nat) 0 (n : Nat) false noB) -> XT w r a A -> XT w r y (.grp A n)
theorem XT.mono {y : Nat} {X : Xp} (h : XT w r y X) (hr : ∀ y E, aJ w r y E -> aJ w' r y E) : XT w' r y X := by
 induction h with
 |emp h1 => exact .emp (hr _ _ h1)
 |set h1 h2 h3 => exact .set (hr _ _ h1) h2 h3
 |cat h1 _ _ i1 i2 => exact .cat (hr _ _ h1) i1 i2
 |alt h1 _ _ i1 i2 => exact .alt (hr _ _ h1) i1 i2
 |star h1 _ i1 => exact .star (hr _ _ h1) i1
 |may h1 _ i1 => exact .may (hr _ _ h1) i1
 |grp h1 _ i1 => exact .grp (hr _ _ h1) i1
theorem XT.fr {y : Nat} {X : Xp} (h : XT w r y X) (hf : Fr w w' r base) : XT w' r y X := h.mono hf.ks.rw
theorem bJ (k a b m : Int) (z : Bool) (bs : List Bool) (hb : bs.length = 129) (h : RA w p r base t s bad hv n) (hn : n <= 100000) :
  Calls Tryz.prog 96 #[.pointer (some ⟨p, 0, none⟩), .agg (aX k a b m z bs).toArray] w fun e w' => e = .returned (.int .i64 (n : Int)) /\ RA w' p r base t s bad hv (n + 1) /\ Fr w w' r base /\ aJ w' r n (aX k a b m z bs) := by
 refine (ud (aX k a b m z bs) (by simp [aX, ah, hb]) (fun u hu => ?_) h hn).mono ?_
 ·unfold aX at hu
  rcases List.mem_append.1 hu with hu | hu
  ·simp at hu
   rcases hu with rfl | rfl | rfl | rfl | rfl <;> rfl
  ·exact ay bs u hu
 ·rintro e w' ⟨h1, h2, h3, h4, h5⟩
  exact ⟨h1, h2, ⟨h3, h4⟩, h5⟩
theorem cv (x : Nat) (X : Xp) (le : Nat) (mo : Int) (z : Bool) (hX : XT w r x X) (h : RA w p r base t s bad hv n) (hn : n <= 90000) (hle : le <= 9) (hmo : mo = -1 \/ ((le : Int) <= mo /\ mo <= 9)) :
  Calls Tryz.prog 185 #[.pointer (some ⟨p, 0, none⟩), .int .i64 (x : Int), .int .i64 (le : Int), .int .i64 mo, .bool z] w fun e w' => ∃ (y : Nat) (n' : Nat), e = .returned (.int .i64 (y : Int)) /\ n' <= n + 30 /\ RA w' p r base t s bad hv n' /\ Fr w w' r base /\ XT w' r y (ek X le mo z) := by
 have H := aa h
 have HX := aa hX
 clear h hX
 go_enter Tryz.func185, Tryz.ntmps185
 go_wp2_with fail
 refine (bJ 1 0 0 0 false noB rfl H.O (by omega)).mono ?_
 rintro e w1 ⟨rfl, h1, fr1, er1⟩
 have H1 := aa h1
 have F1 := aa fr1
 have T1 := aa (XT.emp er1)
 clear h1 fr1 er1
 by_cases hm : mo = -1
 ·subst hm
  go_wp2_with fail
  refine (bJ 5 x 0 0 z noB rfl H1.O (by omega)).mono ?_
  rintro e w2 ⟨rfl, h2, fr2, er2⟩
  have H2 := aa h2
  have F2 := aa (F1.O.trans fr2)
  have T2 := aa (XT.star er2 (HX.O.fr F2.O))
  clear h2 fr2 er2
  have hno : ¬ (le : Int) < -1 := by omega
  go_wp2_with fail
  go_loopg [11, 12] 0 (fun gk o i wr => wr = w2 /\ i = .int .i64 (le : Int) /\ o = .int .i64 ((n + 1 : Nat) : Int))
  case atStart => exact ⟨rfl, rfl, rfl⟩
  case round =>
   obtain ⟨rfl, rfl, rfl⟩ := hrel
   go_wp2_with fail
   go_loopg [11, 13] le (fun gk o i wr => ∃ (j : Nat) (y : Nat), j + gk = le /\ i = .int .i64 (j : Int) /\ o = .int .i64 (y : Int) /\ RA wr p r base t s bad hv (n + 2 + j) /\ Fr w wr r base /\ XT wr r y (kB X j (.star X z)))
   case atStart => exact ⟨0, _, by omega, rfl, rfl, H2.O, F2.O, T2.O⟩
   case round =>
    obtain ⟨j, y, hj, rfl, rfl, h3, fr3, t3⟩ := hrel
    have H3 := aa h3
    have F3 := aa fr3
    have T3 := aa t3
    clear h3 fr3 t3
    cases gk with
    |zero =>
     have hjl : ¬ (j : Int) < (le : Int) := by omega
     go_wp2_with fail
     go_ret
     have hjl9 : j = le := by omega
     exact ⟨y, rfl, n + 2 + j, by omega, H3.O, F3.O, by rw [<- hjl9]; exact T3.O⟩
    |succ g =>
     have hjl : (j : Int) < (le : Int) := by omega
     go_wp2_with fail
     refine (bJ 3 x y 0 false noB rfl H3.O (by omega)).mono ?_
     rintro e w4 ⟨rfl, h4, fr4, er4⟩
     have H4 := aa h4
     have F4 := aa (F3.O.trans fr4)
     have T4 := aa (XT.cat er4 (HX.O.fr F4.O) (T3.O.fr fr4))
     clear h4 fr4 er4
     go_wp2_with fail
     go_roundg g
     case measure => omega
     case rel => exact ⟨j + 1, _, by omega, by simp, rfl, H4.O, F4.O, by rw [et]; exact T4.O⟩
 ·obtain ⟨m, hmm⟩ : ∃ m : Nat, (m : Int) = mo := ⟨mo.toNat, by omega⟩
  subst hmm
  have hlem : le <= m /\ m <= 9 := by omega
  have hneg : ¬ (m : Int) < 0 := by omega
  go_wp2_with fail
  go_loopg [11, 12] (m - le) (fun gk o i wr => ∃ (j : Nat) (y : Nat), j + gk = m - le /\ i = .int .i64 ((le + j : Nat) : Int) /\ o = .int .i64 (y : Int) /\ RA wr p r base t s bad hv (n + 1 + 2 * j) /\ Fr w wr r base /\ XT wr r y (upX X z j .emp))
  case atStart => exact ⟨0, _, by omega, rfl, rfl, H1.O, F1.O, T1.O⟩
  case round =>
   obtain ⟨j, y, hj, rfl, rfl, h2, fr2, t2⟩ := hrel
   have H2 := aa h2
   have F2 := aa fr2
   have T2 := aa t2
   clear h2 fr2 t2
   cases gk with
   |succ g =>
    have hjl : ((le + j : Nat) : Int) < (m : Int) := by omega
    have hjl2 : (le : Int) + (j : Int) < (m : Int) := by omega
    go_wp2_with fail
    refine (bJ 3 x y 0 false noB rfl H2.O (by omega)).mono ?_
    rintro e w3 ⟨rfl, h3, fr3, er3⟩
    have H3 := aa h3
    have F3 := aa (F2.O.trans fr3)
    have T3 := aa (XT.cat er3 (HX.O.fr F3.O) (T2.O.fr fr3))
    clear h3 fr3 er3
    go_wp2_with fail
    refine (bJ 6 _ 0 0 z noB rfl H3.O (by omega)).mono ?_
    rintro e w4 ⟨rfl, h4, fr4, er4⟩
    have H4 := aa h4
    have F4 := aa (F3.O.trans fr4)
    have T4 := aa (XT.may er4 (T3.O.fr fr4))
    clear h4 fr4 er4
    go_wp2_with fail
    go_roundg g
    case measure => omega
    case rel => exact ⟨j + 1, _, by omega, by simp; omega, rfl, H4.O, F4.O, by rw [gd]; exact T4.O⟩
   |zero =>
    have hjl : ¬ ((le + j : Nat) : Int) < (m : Int) := by omega
    have hjl2 : ¬ (le : Int) + (j : Int) < (m : Int) := by omega
    go_wp2_with fail
    go_loopg [11, 13] le (fun gk o i wr => ∃ (i' : Nat) (y : Nat), i' + gk = le /\ i = .int .i64 (i' : Int) /\ o = .int .i64 (y : Int) /\ RA wr p r base t s bad hv (n + 1 + 2 * j + i') /\ Fr w wr r base /\ XT wr r y (kB X i' (upX X z (m - le) .emp)))
    case atStart => exact ⟨0, _, by omega, rfl, rfl, H2.O, F2.O, (by rw [<- (show j = m - le by omega)]; exact T2.O)⟩
    case round =>
     obtain ⟨i', y', hj', rfl, rfl, h3, fr3, t3⟩ := hrel
     have H3 := aa h3
     have F3 := aa fr3
     have T3 := aa t3
     clear h3 fr3 t3
     cases gk with
     |zero =>
      have hjl9 : ¬ (i' : Int) < (le : Int) := by omega
      go_wp2_with fail
      go_ret
      have hjl8 : i' = le := by omega
      exact ⟨y', rfl, n + 1 + 2 * j + i', by omega, H3.O, F3.O, by
       unfold ek
       rw [if_neg (by omega), <- hjl8, show ((m : Int) - (i' : Int)).toNat = m - i' by omega, hjl8]
       rw [hjl8] at T3
       exact T3.O⟩
     |succ g =>
      have hjl9 : (i' : Int) < (le : Int) := by omega
      go_wp2_with fail
      refine (bJ 3 x y' 0 false noB rfl H3.O (by omega)).mono ?_
      rintro e w4 ⟨rfl, h4, fr4, er4⟩
      have H4 := aa h4
      have F4 := aa (F3.O.trans fr4)
      have T4 := aa (XT.cat er4 (HX.O.fr F4.O) (T3.O.fr fr4))
      clear h4 fr4 er4
      go_wp2_with fail
      go_roundg g
      case measure => omega
      case rel => exact ⟨i' + 1, _, by omega, by simp, rfl, H4.O, F4.O, by rw [et]; exact T4.O⟩
def cH (t : ByteArray) (low : Int) (s : RS) : Res (Option Nat) := match aj t s.k with
 |none => .bad s
 |some b =>
  if 128 <= b.toNat then .bad s
  else if b = 92 then
   if 125 < low then .bad s
   else match am t s.up with
    |.bad s' => .bad s'
    |.ok x s' => if 0 <= low /\ (if x.2.2 then (x.2.1.toNat : Int) else -1) < low then .bad s.up else .ok (if x.2.2 then some x.2.1.toNat else none) s'
  else if b = 91 \/ b = 93 \/ b = 94 \/ b = 45 \/ (b.toNat : Int) < low then .bad s
  else .ok (some b.toNat) s.up
theorem cO {b c : UInt8} (h : aj t s.k = some b) : ac t s c = decide (b = c) := by
 unfold ac
 rw [h]
 by_cases e : b = c
 ·rw [e]; simp
 ·rw [decide_eq_false e]
  simpa using e
theorem gu {c : UInt8} (h : aj t s.k = none) : ac t s c = false := by
 unfold ac
 rw [h]
 rfl
theorem eZ {x : Cls × UInt8 × Bool} (h : am t s = .ok x s') : (x.2.2 = true -> aj t s.k = some x.2.1 /\ x.2.1 ∈ dX) /\ s' = s.up := by
 unfold am at h
 split at h
 ·cases h
 ·next b hb =>
  split at h
  ·next hm => cases h; exact ⟨fun _ => ⟨hb, hm⟩, rfl⟩
  ·split at h
   ·cases h
   ·cases h; exact ⟨fun h9 => absurd h9 (by simp), rfl⟩
theorem uM (t : ByteArray) (s : RS) : match cH t (-1) s with
  |.bad s' => aH t s = .bad s'
  |.ok none s' => ∃ c, aH t s = .ok c s'
  |.ok (some n) s' => ∃ b : UInt8, b.toNat = n /\ aH t s = aZ t b s' := by
 unfold cH
 cases hb : aj t s.k with
 |none =>
  dsimp only
  unfold aH aN
  rw [gu hb, hb]
  rfl
 |some b =>
  dsimp only
  by_cases h128 : 128 <= b.toNat
  ·rw [if_pos h128]
   dsimp only
   unfold aH aN
   have h92 : b ≠ 92 := fun e => by subst e; revert h128; decide
   rw [cO hb, decide_eq_false h92, hb]
   simp [h128, Res.bind]
  ·rw [if_neg h128]
   by_cases h92 : b = 92
   ·rw [if_pos h92, if_neg (by omega)]
    cases he : am t s.up with
    |bad s' =>
     dsimp only
     unfold aH
     rw [cO hb, decide_eq_true h92, if_pos rfl, he]
     rfl
    |ok x s' =>
     dsimp only
     rw [if_neg (by omega)]
     cases hx : x.2.2 with
     |true =>
      simp only [if_true]
      refine ⟨x.2.1, rfl, ?_⟩
      unfold aH
      rw [cO hb, decide_eq_true h92, if_pos rfl, he, Res.bind_ok, hx, if_pos rfl]
     |false =>
      simp only [Bool.false_eq_true, if_false]
      refine ⟨x.1, ?_⟩
      unfold aH
      rw [cO hb, decide_eq_true h92, if_pos rfl, he, Res.bind_ok, hx, if_neg (by simp)]
   ·rw [if_neg h92]
    by_cases hs : b = 91 \/ b = 93 \/ b = 94 \/ b = 45
    ·rw [if_pos (by rcases hs with h | h | h | h <;> simp [h])]
     dsimp only
     unfold aH aN
     rw [cO hb, decide_eq_false h92, hb]
     have hm : b ∈ dJ := by rcases hs with h | h | h | h <;> (subst h; decide)
     simp [hm, Res.bind]
    ·have hneg : ¬ (b = 91 \/ b = 93 \/ b = 94 \/ b = 45 \/ (b.toNat : Int) < -1) := by
      rintro (h | h | h | h | h)
      ·exact hs (.inl h)
      ·exact hs (.inr (.inl h))
      ·exact hs (.inr (.inr (.inl h)))
      ·exact hs (.inr (.inr (.inr h)))
      ·omega
     rw [if_neg hneg]
     dsimp only
     refine ⟨b, rfl, ?_⟩
     unfold aH aN
     rw [cO hb, decide_eq_false h92, hb]
     have hm : b ∉ dJ := fun hm => by
      simp only [dJ, List.mem_cons, List.not_mem_nil, or_false] at hm
      rcases hm with h | h | h | h | h
      ·exact h92 h
      ·exact hs (.inl h)
      ·exact hs (.inr (.inl h))
      ·exact hs (.inr (.inr (.inl h)))
      ·exact hs (.inr (.inr (.inr h)))
     simp [hm, h128, Res.bind]
theorem t7 (t : ByteArray) (a : UInt8) (s : RS) : match cH t (a.toNat : Int) s with
  |.bad s' => au t a s = .bad s'
  |.ok none s' => False
  |.ok (some n) s' => ∃ e : UInt8, e.toNat = n /\ au t a s = .ok e s' := by
 unfold cH
 cases hb : aj t s.k with
 |none =>
  dsimp only
  unfold au
  dsimp only
  rw [gu hb, Bool.and_false, if_neg (by simp), hb]
 |some b =>
  dsimp only
  by_cases h128 : 128 <= b.toNat
  ·rw [if_pos h128]
   dsimp only
   have h92 : b ≠ 92 := fun e => by subst e; revert h128; decide
   unfold au aN
   dsimp only
   rw [cO hb, decide_eq_false h92, Bool.and_false, if_neg (by simp), hb]
   simp [h128]
  ·rw [if_neg h128]
   by_cases h92 : b = 92
   ·rw [if_pos h92]
    by_cases hlo : (125 : Int) < (a.toNat : Int)
    ·rw [if_pos hlo]
     dsimp only
     unfold au
     dsimp only
     rw [decide_eq_false (by omega), Bool.false_and, if_neg (by simp), hb]
     have h9 : b.toNat < a.toNat := by rw [h92]; show 92 < a.toNat; omega
     simp [h9]
    ·rw [if_neg hlo]
     have hesc : (decide (a.toNat <= 125) && ac t s 92) = true := by rw [decide_eq_true (by omega), cO hb, decide_eq_true h92]; rfl
     cases he : am t s.up with
     |bad s' =>
      dsimp only
      unfold au
      dsimp only
      rw [if_pos hesc]
      unfold am at he
      cases hb2 : aj t s.up.k with
      |none => rw [hb2] at he; cases he; rfl
      |some c =>
       rw [hb2] at he
       dsimp only at he ⊢
       split at he
       ·cases he
       ·next hm =>
        split at he
        ·cases he
         by_cases hc : c.toNat < a.toNat
         ·rw [if_pos hc]
         ·rw [if_neg hc, if_pos hesc, if_neg hm]
        ·cases he
     |ok x s' =>
      obtain ⟨hfl, hs'⟩ := eZ he
      have he2 := he
      unfold am at he2
      cases hb2 : aj t s.up.k with
      |none => rw [hb2] at he2; cases he2
      |some c =>
       rw [hb2] at he2
       dsimp only at he2
       have hpair : au t a s = if c.toNat < a.toNat then .bad s.up else if c ∈ dX then .ok c s.up.up else .bad s.up := by
        unfold au
        dsimp only
        rw [if_pos hesc, hb2]
        dsimp only
        rw [if_pos hesc]
       dsimp only
       cases hx : x.2.2 with
       |true =>
        obtain ⟨h1, h2⟩ := hfl hx
        rw [hb2] at h1
        cases h1
        simp only [if_true]
        by_cases hc : x.2.1.toNat < a.toNat
        ·rw [if_pos ⟨by omega, by omega⟩]
         dsimp only
         rw [hpair, if_pos hc]
        ·rw [if_neg (by omega)]
         dsimp only
         exact ⟨_, rfl, by rw [hpair, if_neg hc, if_pos h2, hs']⟩
       |false =>
        simp only [Bool.false_eq_true, if_false]
        rw [if_pos ⟨by omega, by omega⟩]
        dsimp only
        rw [hpair]
        split at he2
        ·cases he2; simp at hx
        ·next hm =>
         rw [if_neg hm]
         split <;> rfl
   ·rw [if_neg h92]
    have hesc : ¬ (decide (a.toNat <= 125) && ac t s 92) = true := by rw [cO hb, decide_eq_false h92, Bool.and_false]; simp
    have hpair : au t a s = if b.toNat < a.toNat then .bad s else aN t dJ s := by
     unfold au
     dsimp only
     rw [if_neg hesc, hb]
     dsimp only
     rw [if_neg hesc]
    by_cases hbad : b = 91 \/ b = 93 \/ b = 94 \/ b = 45 \/ (b.toNat : Int) < (a.toNat : Int)
    ·rw [if_pos hbad]
     dsimp only
     rw [hpair]
     by_cases hc : b.toNat < a.toNat
     ·rw [if_pos hc]
     ·rw [if_neg hc]
      unfold aN
      rw [hb]
      have hm : b ∈ dJ := by
       rcases hbad with h | h | h | h | h
       ·subst h; decide
       ·subst h; decide
       ·subst h; decide
       ·subst h; decide
       ·omega
      simp [hm]
    ·rw [if_neg hbad]
     dsimp only
     refine ⟨b, rfl, ?_⟩
     rw [hpair, if_neg (fun h => hbad (.inr (.inr (.inr (.inr (by omega))))))]
     unfold aN
     rw [hb]
     have hm : b ∉ dJ := fun hm => by
      simp only [dJ, List.mem_cons, List.not_mem_nil, or_false] at hm
      rcases hm with h | h | h | h | h
      ·exact h92 h
      ·exact hbad (.inl h)
      ·exact hbad (.inr (.inl h))
      ·exact hbad (.inr (.inr (.inl h)))
      ·exact hbad (.inr (.inr (.inr (.inl h))))
     simp [hm, h128]
theorem pS {k : Nat} (h : k < t.size) : ∃ b : UInt8, aj t k = some b /\ ai t k = b.toNat := by
 refine ⟨t.data[k]'h, by unfold aj; exact Array.getElem?_eq_getElem h, ?_⟩
 unfold ai aj
 rw [Array.getElem?_eq_getElem h]
def fm (t : ByteArray) (i : Nat) (s : RS) : Res Nat :=
 if s.k = i \/ aS s.nm (t.extract i s.k) = true then .bad s
 else (ax t s 62).bind fun _ s5 => .ok (s5.g + 1) { s5 with g := s5.g + 1, nm := s5.nm ++ [(t.extract i s.k, s5.g + 1)] }
def bQ (t : ByteArray) (s : RS) : Res Nat :=
 (ax t s 60).bind fun _ s3 => (bc t s3.k 8 s3).bind fun _ s1 => fm t s3.k s1
theorem uZ (t : ByteArray) (s : RS) : ((ax t s 60).bind fun _ s3 => (aq t s3).bind fun n s4 => (ax t s4 62).bind fun _ s5 =>
   Res.ok (s5.g + 1) { s5 with g := s5.g + 1, nm := s5.nm ++ [(n, s5.g + 1)] }) = bQ t s := by
 unfold bQ
 congr 1
 funext _ s3
 unfold aq
 cases bc t s3.k 8 s3 with
 |bad s1 => rfl
 |ok u s1 =>
  simp only [Res.bind_ok]
  unfold fm
  by_cases h : s1.k = s3.k \/ aS s1.nm (t.extract s3.k s1.k) = true
  ·rw [if_pos h, if_pos h]; rfl
  ·rw [if_neg h, if_neg h]; rfl
theorem jk (h : ac t s 63 = true) : an t s = if ac t s.up 58 then .ok 0 s.up.up else if s.g = 5 then .bad s.up else (ax t s.up 80).bind fun _ s2 => bQ t s2 := by
 unfold an
 rw [if_neg (by simp [h])]
 unfold ax
 rw [if_pos h, Res.bind_ok]
 by_cases h58 : ac t s.up 58 = true
 ·rw [if_pos h58, if_pos h58]
 ·rw [if_neg h58, if_neg h58]
  show (if s.g = 5 then _ else _) = _
  by_cases h5 : s.g = 5
  ·rw [if_pos h5, if_pos h5]
  ·rw [if_neg h5, if_neg h5]
   congr 1
   funext _ s2
   exact uZ t s2
theorem gH (h : ac t s 63 = false) : an t s = if s.g = 5 then .bad s else .ok (s.g + 1) { s with g := s.g + 1 } := by
 unfold an
 by_cases h5 : s.g = 5
 ·rw [if_neg (by simp [h5]), if_pos h5]
  unfold ax
  rw [if_neg (by simp [h])]
  rfl
 ·rw [if_pos ⟨h5, h⟩, if_neg h5]
def Res.setD {α : Type} (x : Nat) : Res α -> Res α
 |.ok a s => .ok a { s with d := x }
 |.bad s => .bad { s with d := x }
theorem pL (t : ByteArray) (i x : Nat) : ∀ (n : Nat) (s : RS), bc t i n { s with d := x } = (bc t i n s).setD x
 | 0, s => rfl
 |n + 1, s => by
  unfold bc
  dsimp only
  cases aj t s.k with
  |none => rfl
  |some b =>
   dsimp only
   by_cases h : 97 <= b.toNat /\ b.toNat <= 122
   ·rw [if_pos h, if_pos h]
    by_cases h2 : n = 0 /\ aS s.nm (t.extract i (s.k + 1)) = true
    ·rw [if_pos h2, if_pos h2]; rfl
    ·rw [if_neg h2, if_neg h2]
     exact pL t i x n s.up
   ·rw [if_neg h, if_neg h]; rfl
theorem rq (t : ByteArray) (s : RS) (x : Nat) (b : UInt8) : ax t { s with d := x } b = (ax t s b).setD x := by
 unfold ax
 show (if ac t s b then _ else _) = _
 split <;> rfl
theorem xA (t : ByteArray) (s : RS) (x i : Nat) : fm t i { s with d := x } = (fm t i s).setD x := by
 unfold fm
 dsimp only
 by_cases h : s.k = i \/ aS s.nm (t.extract i s.k) = true
 ·rw [if_pos h, if_pos h]; rfl
 ·rw [if_neg h, if_neg h, rq]
  cases ax t s 62 <;> rfl
theorem wW (t : ByteArray) (s : RS) (x : Nat) : bQ t { s with d := x } = (bQ t s).setD x := by
 unfold bQ
 rw [rq]
 cases ax t s 60 with
 |bad s1 => rfl
 |ok u s1 =>
  simp only [Res.setD, Res.bind_ok]
  rw [pL]
  cases bc t s1.k 8 s1 with
  |bad s2 => rfl
  |ok u s2 =>
   simp only [Res.setD, Res.bind_ok]
   exact xA t s2 x s1.k
theorem tu (t : ByteArray) (s : RS) (x : Nat) : an t { s with d := x } = (an t s).setD x := by
 cases h : ac t s 63 with
 |true =>
  rw [jk (s := { s with d := x }) (show ac t { s with d := x } 63 = true from h), jk h]
  show (if ac t s.up 58 then _ else _) = _
  by_cases h58 : ac t s.up 58 = true
  ·rw [if_pos h58, if_pos h58]; rfl
  ·rw [if_neg h58, if_neg h58]
   dsimp only
   by_cases h5 : s.g = 5
   ·rw [if_pos h5, if_pos h5]; rfl
   ·rw [if_neg h5, if_neg h5]
    show (ax t { s.up with d := x } 80).bind _ = _
    rw [rq]
    cases ax t s.up 80 with
    |bad s1 => rfl
    |ok u s1 => exact wW t s1 x
 |false =>
  rw [gH (s := { s with d := x }) (show ac t { s with d := x } 63 = false from h), gH h]
  dsimp only
  by_cases h5 : s.g = 5
  ·rw [if_pos h5, if_pos h5]; rfl
  ·rw [if_neg h5, if_neg h5]; rfl
theorem pZ {E : RS -> Res Pt} (h : ac t s 40 = true) (hd : s.d ≠ 6) : aK t E s = ((an t s.up).setD (s.d + 1)).bind fun g s2 => (E s2).bind fun p s3 => (ax t s3 41).bind fun _ s4 => .ok (.wrap p g) { s4 with d := s4.d - 1 } := by
 unfold aK
 rw [if_neg hd]
 unfold ax
 rw [if_pos h, Res.bind_ok]
 show (an t { s.up with d := s.d + 1 }).bind _ = _
 rw [tu]
theorem ut {E : RS -> Res Pt} (h : s.k = t.size) : dv t E s = .ok (.alt [.seq []]) s := by
 have hno : ac t s 124 = false := by
  rw [fx, decide_eq_false (by omega)]
  rfl
 unfold dv aR
 rw [if_pos (.inl h), Res.bind_ok]
 unfold fs
 rw [if_neg (by simp [hno]), Res.bind_ok]
theorem pD (h : t.size <= s.k) : an t s = if s.g = 5 then .bad s else .ok (s.g + 1) { s with g := s.g + 1 } := gH (by rw [fx, decide_eq_false (by omega)]; rfl)
theorem tw {E : RS -> Res Pt} (h : ac t s 40 = true) (hd : s.d ≠ 6) (hk : s.k + 1 = t.size) (hE : ∀ s' : RS, s'.d = s.d + 1 -> s'.k = t.size -> E s' = .ok (.alt [.seq []]) s') : ∃ s', aK t E s = .bad s' /\ s'.k = s.k + 1 := by
 rw [pZ h hd, pD (by show t.size <= s.k + 1; omega)]
 by_cases h5 : s.up.g = 5
 ·rw [if_pos h5]
  exact ⟨_, rfl, rfl⟩
 ·rw [if_neg h5]
  show ∃ s', (E ⟨s.k + 1, s.d + 1, s.f, s.g + 1, s.nm⟩).bind _ = .bad s' /\ _
  rw [hE ⟨s.k + 1, s.d + 1, s.f, s.g + 1, s.nm⟩ rfl hk, Res.bind_ok]
  refine ⟨⟨s.k + 1, s.d + 1, s.f, s.g + 1, s.nm⟩, ?_, rfl⟩
  unfold ax
  rw [if_neg]
  ·rfl
  ·rw [fx, decide_eq_false (by show ¬ s.k + 1 < t.size; omega)]
   simp
theorem RA.hvs (h : RA w p r base t s bad hv n) (W : World) (hW : w.setCell ⟨p, 6, none⟩ (.int .i64 v) = W) : RA W p r base t s bad v n /\ Fr w W r base := by
 obtain ⟨a, b, c⟩ := h.setCell (s' := s) (bad' := bad) (hv' := v) 6 (.int .i64 v) rfl rfl rfl
 rw [hW] at a b c
 exact ⟨a, b, c⟩
theorem RA.dps (h : RA w p r base t s bad hv n) (W : World) (x : Nat) (hW : w.setCell ⟨p, 5, none⟩ (.int .i64 v) = W) (e : v = (x : Int)) : RA W p r base t { s with d := x } bad hv n /\ Fr w W r base := by
 subst e
 obtain ⟨a, b, c⟩ := h.setCell (s' := { s with d := x }) (bad' := bad) (hv' := hv) 5 (.int .i64 (x : Int)) rfl rfl rfl
 rw [hW] at a b c
 exact ⟨a, b, c⟩
theorem RA.ats (h : RA w p r base t s bad hv n) (W : World) (x : Nat) (hW : w.setCell ⟨p, 1, none⟩ (.int .i64 v) = W) (e : v = (x : Int)) : RA W p r base t { s with k := x } bad hv n /\ Fr w W r base := by
 subst e
 obtain ⟨a, b, c⟩ := h.setCell (s' := { s with k := x }) (bad' := bad) (hv' := hv) 1 (.int .i64 (x : Int)) rfl rfl rfl
 rw [hW] at a b c
 exact ⟨a, b, c⟩
theorem RA.more (h : RA w p r base t s bad hv n) :
  w.cell? ⟨p, 3, none⟩ = some (.pointer (some ⟨r, 0, none⟩)) /\ w.cell? ⟨p, 5, none⟩ = some (.int .i64 (s.d : Int)) /\ w.cell? ⟨p, 6, none⟩ = some (.int .i64 hv) /\ w.frozen? ⟨p, 5, none⟩ = false /\ w.frozen? ⟨p, 6, none⟩ = false /\ w.cell? ⟨r, 2, none⟩ = some (.int .i64 (s.g : Int)) /\ w.frozen? ⟨r, 2, none⟩ = false /\ r < w.heap.size := by
 obtain ⟨av, nv, ys, ns, h1, h2, h3, h4, h5⟩ := h.rn.ex
 exact ⟨h.rk.all.1 3, h.rk.all.1 5, h.rk.all.1 6, h.rk.all.2 5, h.rk.all.2 6, h1.all.1 2, h1.all.2 2, h1.lt⟩
theorem cB (c : UInt8) (h : RA w p r base t s bad hv n) (ht : t.size <= 60) :
  Calls Tryz.prog 184 #[.pointer (some ⟨p, 0, none⟩), .int .u8 (c.toNat : Int)] w fun e w' => e = .returned (.tuple #[]) /\ Fr w w' r base /\ ((bad = false /\ ac t s c = true /\ RA w' p r base t s.up false hv n) \/ ((bad = true \/ ac t s c = false) /\ RA w' p r base t s true hv n)) := by
 cases bad with
 |true =>
  refine (oT _ h).mono ?_
  rintro e w' ⟨rfl, rfl⟩
  exact ⟨rfl, Fr.refl (r := r) _ _, .inr ⟨.inl rfl, h⟩⟩
 |false =>
  refine (vl c h ht).mono ?_
  rintro e w' ⟨rfl, h1, h2, h3⟩
  cases hs : ac t s c with
  |true => rw [hs] at h1; exact ⟨rfl, ⟨h2, h3⟩, .inl ⟨rfl, rfl, h1⟩⟩
  |false => rw [hs] at h1; exact ⟨rfl, ⟨h2, h3⟩, .inr ⟨.inr rfl, h1⟩⟩
theorem bB (h : RA w p r base t s bad hv n) :
  Calls Tryz.prog 95 #[.pointer (some ⟨p, 0, none⟩)] w fun e w' => e = .returned (.int .u8 (ai t s.k : Int)) /\ RA w' p r base t s bad hv n /\ Fr w w' r base /\ Ex [] w w' := by
 refine (cX h.rk).mono ?_
 rintro e w' ⟨rfl, q, rfl⟩
 exact ⟨rfl, h.drewN q, Fr.drewN (r := r) _ _ _, (Ex.refl _ _).drewN q⟩
def aI {α : Type} (w' : World) (p r base : Nat) (t : ByteArray) (s : RS) (n c1 c2 c3 : Nat) (hw : α -> Int) (dn : α -> Xp) (e : Ending) (m : Res α) : Prop :=
 ∃ y : Int, e = .returned (.int .i64 y) /\ match m with
 |.ok a s' => (∃ y' : Nat, y = (y' : Int) /\ XT w' r y' (dn a)) /\ ∃ n', RA w' p r base t s' false (hw a) n' /\ n' + c1 + 50 * s.k <= n + 50 * s'.k + c2
 |.bad s' => ∃ s'' hv' n', s''.k = s'.k /\ s''.d = s.d /\ RA w' p r base t s'' true hv' n' /\ n' <= 20000 + 10 * (7 - s.d) + c3
theorem aI.mkOk {α : Type} {hw : α -> Int} {dn : α -> Xp} {y : Int} {m : Res α} {a : α} {n' : Nat} (hm : m = .ok a s') (hv : v = hw a) (h : RA w' p r base t s' false v n') (hn : n' + c1 + 50 * s.k <= n + 50 * s'.k + c2) (hx : ∃ y' : Nat, y = (y' : Int) /\ XT w' r y' (dn a)) : aI w' p r base t s n c1 c2 c3 hw dn (.returned (.int .i64 y)) m := by
 subst hm; subst hv
 exact ⟨_, rfl, hx, n', h, hn⟩
theorem aI.mkBad {α : Type} {hw : α -> Int} {dn : α -> Xp} {y : Int} {m : Res α} {s'' : RS} {hv' : Int} {n' : Nat} (hm : m = .bad s') (hk : s''.k = s'.k) (hd : s''.d = s.d) (h : RA w' p r base t s'' true hv' n') (hn : n' <= 20000 + 10 * (7 - s.d) + c3) : aI w' p r base t s n c1 c2 c3 hw dn (.returned (.int .i64 y)) m := by
 subst hm
 exact ⟨_, rfl, s'', hv', n', hk, hd, h, hn⟩
theorem aI.split {α : Type} {hw : α -> Int} {dn : α -> Xp} {e : Ending} {m : Res α} (h : aI w' p r base t s n c1 c2 c3 hw dn e m) : ∃ y : Int, e = .returned (.int .i64 y) /\
  ((∃ a s' n', m = .ok a s' /\ RA w' p r base t s' false (hw a) n' /\ n' + c1 + 50 * s.k <= n + 50 * s'.k + c2 /\ ∃ y' : Nat, y = (y' : Int) /\ XT w' r y' (dn a)) \/ (∃ s' s'' hv' n', m = .bad s' /\ s''.k = s'.k /\ s''.d = s.d /\ RA w' p r base t s'' true hv' n' /\ n' <= 20000 + 10 * (7 - s.d) + c3)) := by
 obtain ⟨y, hy, h2⟩ := h
 refine ⟨y, hy, ?_⟩
 cases m with
 |ok a s' =>
  obtain ⟨hx, n', h3, h4⟩ := h2
  exact .inl ⟨a, s', n', rfl, h3, h4, hx⟩
 |bad s' =>
  obtain ⟨s'', hv', n', h3⟩ := h2
  exact .inr ⟨s', s'', hv', n', rfl, h3⟩
def rR (t : ByteArray) (p r base d : Nat) (E : RS -> Res Pt) : Prop := ∀ (w : World) (s : RS) (hv : Int) (n : Nat), RA w p r base t s false hv n -> s.d = d -> s.g <= 5 -> s.k <= t.size -> n <= 10000 + 50 * s.k ->
 Calls Tryz.prog 57 #[.pointer (some ⟨p, 0, none⟩)] w fun e w' => Fr w w' r base /\ aI w' p r base t s n 0 1 2 (fun q => (wt q : Int)) den e (E s)
def vL (t : ByteArray) (p r base d : Nat) (E : RS -> Res Pt) : Prop := ∀ (w : World) (s : RS) (hv : Int) (n : Nat), RA w p r base t s false hv n -> s.d = d -> s.g <= 5 -> s.k < t.size -> n <= 10001 + 50 * s.k ->
 Calls Tryz.prog 182 #[.pointer (some ⟨p, 0, none⟩)] w fun e w' => Fr w w' r base /\ aI w' p r base t s n 40 0 0 (fun q => (wt q : Int)) den e (bq t E s)
def uA (t : ByteArray) (p r base d : Nat) (E : RS -> Res Pt) : Prop := ∀ (w : World) (s : RS) (hv : Int) (n : Nat), RA w p r base t s false hv n -> s.d = d -> s.g <= 5 -> s.k < t.size -> n <= 10001 + 50 * s.k ->
 Calls Tryz.prog 141 #[.pointer (some ⟨p, 0, none⟩)] w fun e w' => Fr w w' r base /\ aI w' p r base t s n 9 0 0 (fun q => (wt q : Int)) den e (aW t E s)
def rr (t : ByteArray) (p r base d : Nat) (E : RS -> Res Pt) : Prop := ∀ (w : World) (s : RS) (hv : Int) (n : Nat), RA w p r base t s false hv n -> s.d = d -> s.g <= 5 -> s.k <= t.size -> n <= 10000 + 50 * s.k ->
 Calls Tryz.prog 94 #[.pointer (some ⟨p, 0, none⟩)] w fun e w' => Fr w w' r base /\ aI w' p r base t s n 0 1 1 (fun l => (wtL l : Int)) (fun l => gW l .emp) e (aR t E (t.size + 1) [] s)
def jd (t : ByteArray) (m : Nat) (E : RS -> Res Pt) : Prop := ∀ s p s', E s = .ok p s' -> s.g <= 5 -> s.k <= t.size -> po t m s p s'
end Go.Proofs.YtfnanjbleifjkaaGreatDoor.G
