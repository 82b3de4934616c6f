/- How much is remembered: plain facts. -/
import Derived.Test.YtmeffeigamaipabGreatDoorE3
set_option linter.unusedVariables false
set_option linter.unusedSimpArgs false
namespace Go.Proofs.YtmeffeigamaipabGreatDoor
open Go.RowKit

def xv (k : Nat) : ByteArray := ⟨#[120, 118, UInt8.ofNat k]⟩
def Sk (k : Nat) : List Value := serC [(aN, xv k)]
theorem Sk_inj {j k : Nat} (hj : j < 256) (hk : k < 256) (h : Sk j = Sk k) : j = k := by
  have h1 := serC_inj (by simp) (by simp) h
  simp only [List.cons.injEq, Prod.mk.injEq, and_true, true_and, xv, ByteArray.mk.injEq] at h1
  have h2 := congrArg Array.toList h1
  simp only [List.cons.injEq, and_true, true_and] at h2
  have h3 := congrArg UInt8.toNat h2
  simp only [UInt8.toNat_ofNat'] at h3
  omega

/-- Behind i rounds. -/
def Inv (size i : Nat) (ts : List (List Value)) : Prop := (∀ S ∈ ts, ∃ j, j < i ∧ S = Sk j) ∧ ts.length = min i size ∧ (ts.length < size → ∀ j, j < i → Sk j ∈ ts)

theorem inv_nil (size : Nat) : Inv size 0 [] := ⟨by simp, by simp, fun _ j hj => by omega⟩

theorem inv_new {size i : Nat} {ts ts' : List (List Value)} (hs : 1 ≤ size) (hi : i < 70) (h : Inv size i ts) (ha : After size ts (Sk i) ts') : Inv size (i + 1) ts' := by
  obtain ⟨h1, h2, h3⟩ := h
  have hno : Sk i ∉ ts := fun hm => by
    obtain ⟨j, hj, he⟩ := h1 _ hm
    have := Sk_inj (by omega) (by omega) he
    omega
  rcases ha with ⟨hy, _⟩ | ⟨_, rfl⟩
  · exact absurd hy hno
  unfold nextTs
  by_cases hl : ts.length < size
  · rw [if_pos hl]
    refine ⟨fun S hS => ?_, by simp; omega, fun _ j hj => ?_⟩
    · rcases List.mem_append.1 hS with hS | hS
      · obtain ⟨j, hj, rfl⟩ := h1 S hS; exact ⟨j, by omega, rfl⟩
      · simp at hS; exact ⟨i, by omega, hS⟩
    · by_cases hji : j = i
      · subst hji; simp
      · exact List.mem_append.2 (.inl (h3 hl j (by omega)))
  · rw [if_neg hl]
    have hlen : (ts.tail ++ [Sk i]).length = ts.length := by simp; omega
    refine ⟨fun S hS => ?_, by rw [hlen]; omega, fun hlt => by rw [hlen] at hlt; omega⟩
    rcases List.mem_append.1 hS with hS | hS
    · obtain ⟨j, hj, rfl⟩ := h1 S (List.mem_of_mem_tail hS); exact ⟨j, by omega, rfl⟩
    · simp at hS; exact ⟨i, by omega, hS⟩

theorem inv_old {size i k : Nat} {ts ts' : List (List Value)} (hs : 1 ≤ size) (hk : k ≤ i) (h : Inv size (i + 1) ts) (ha : After size ts (Sk k) ts') : Inv size (i + 1) ts' := by
  obtain ⟨h1, h2, h3⟩ := h
  rcases ha with ⟨_, rfl⟩ | ⟨hno, rfl⟩
  · exact ⟨h1, h2, h3⟩
  unfold nextTs
  by_cases hl : ts.length < size
  · exact absurd (h3 hl k (by omega)) hno
  · rw [if_neg hl]
    have hlen : (ts.tail ++ [Sk k]).length = ts.length := by simp; omega
    refine ⟨fun S hS => ?_, by rw [hlen]; omega, fun hlt => by rw [hlen] at hlt; omega⟩
    rcases List.mem_append.1 hS with hS | hS
    · obtain ⟨j, hj, rfl⟩ := h1 S (List.mem_of_mem_tail hS); exact ⟨j, by omega, rfl⟩
    · simp at hS; exact ⟨k, by omega, hS⟩

theorem after_nil {room : Nat} {S : List Value} {ts' : List (List Value)} (h1 : 1 ≤ room) (h : After room [] S ts') : ts' = [S] := by
  rcases h with ⟨h, _⟩ | ⟨_, rfl⟩
  · simp at h
  · unfold nextTs; rw [if_pos (by simp; omega)]; rfl

set_option maxHeartbeats 1000000 in
/-- pick: a number below n. -/
theorem pick_any (c n : Int) (w : World) (hn : 0 < n) (hn2 : n < 4611686018427387904) (hc : -9223372036854775808 ≤ c ∧ c ≤ 9223372036854775807) :
    Calls Tryz.prog 18 #[.int .i64 c, .int .i64 n] w fun x w' => (∃ k : Nat, x = .returned (.int .i64 k) ∧ (k : Int) < n) ∧ w' = w := by
  by_cases h0 : c < 0
  · go_enter Tryz.func18, Tryz.ntmps18
    go_wp2_with fail
    go_ret
    have hv : -(c + 1).tmod n = (-(c + 1)) % n := by rw [← Int.neg_tmod, Int.tmod_eq_emod_of_nonneg (by omega)]
    have p1 := Int.emod_nonneg (-(c + 1)) (show n ≠ 0 by omega)
    have p2 := Int.emod_lt_of_pos (-(c + 1)) hn
    refine ⟨⟨((-(c + 1)) % n).toNat, ?_, by omega⟩, rfl⟩
    rw [show ((((-(c + 1)) % n).toNat : Nat) : Int) = (-(c + 1)) % n by omega, ← hv]
    rfl
  · go_enter Tryz.func18, Tryz.ntmps18
    go_wp2_with fail
    go_ret
    have p1 := Int.emod_nonneg c (show n ≠ 0 by omega)
    have p2 := Int.emod_lt_of_pos c hn
    refine ⟨⟨(c % n).toNat, ?_, by omega⟩, rfl⟩
    rw [show (((c % n).toNat : Nat) : Int) = c % n by omega]
    rfl
end Go.Proofs.YtmeffeigamaipabGreatDoor
