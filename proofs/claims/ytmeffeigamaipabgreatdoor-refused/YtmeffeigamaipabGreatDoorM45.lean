/- What Refused makes. -/
import Derived.Test.YtmeffeigamaipabGreatDoorM21
import Derived.Test.YtmeffeigamaipabGreatDoorM44
set_option linter.unusedVariables false
set_option linter.unusedSimpArgs false
namespace Go.Proofs.YtmeffeigamaipabGreatDoor
open Go.RowKit

theorem infoLab2 : (Tryz.prog.info? 48).map (fun i => (i.zero, i.size, i.bytes)) = some (some (.agg #[.string ⟨#[]⟩, .string ⟨#[]⟩]), 2, 32) := by kernel_rfl
theorem infoRu : (Tryz.prog.info? 37).map (fun i => (i.zero, i.size, i.bytes)) = some (some (.agg #[.int .i64 0, .slice none 0 0, .string ⟨#[]⟩, .string ⟨#[]⟩, .string ⟨#[]⟩, .string ⟨#[]⟩, .int .u64 0]), 7, 104) := by kernel_rfl
theorem infoB : (Tryz.prog.info? 5).map (fun i => (i.zero, i.size, i.bytes)) = some (some (.int .u8 0), 1, 1) := by kernel_rfl

theorem mk_labels (w : World) : ∃ W, (Instr.makeSlice 23 (.int .i64 21) (.int .i64 21)).run Tryz.prog w = .ok (.slice (some ⟨w.heap.size, 0, none⟩) 21 21) W ∧ Ex [] w W := by
  obtain ⟨i, hi, hz, hs, hb⟩ := info_parts infoLab2
  have h := run_makeSlice (P := Tryz.prog) w 23 48 i _ Tryz.underlying23 hi hz .i64 .i64 21 21 (by omega) (by omega) (by rw [hs]; decide) (by rw [hb]; decide) (by decide)
  exact ⟨_, h, (Ex.refl _ _).alloc _⟩
theorem mk_rules (w : World) : ∃ W, (Instr.makeSlice 22 (.int .i64 13) (.int .i64 13)).run Tryz.prog w = .ok (.slice (some ⟨w.heap.size, 0, none⟩) 13 13) W ∧ Ex [] w W := by
  obtain ⟨i, hi, hz, hs, hb⟩ := info_parts infoRu
  have h := run_makeSlice (P := Tryz.prog) w 22 37 i _ Tryz.underlying22 hi hz .i64 .i64 13 13 (by omega) (by omega) (by rw [hs]; decide) (by rw [hb]; decide) (by decide)
  exact ⟨_, h, (Ex.refl _ _).alloc _⟩
/-- A text of 201 bytes. -/
def longN : ByteArray := ⟨(List.replicate 201 (0 : UInt8)).toArray⟩
set_option maxRecDepth 100000 in
theorem made_zero : madeCells #[Value.int .u8 0] 201 = Array.replicate 201 (Value.int .u8 0) := by kernel_rfl
set_option maxRecDepth 100000 in
theorem mk_long (w : World) : ∃ W, (Instr.makeSlice 59 (.int .i64 201) (.int .i64 201)).run Tryz.prog w = .ok (.slice (some ⟨w.heap.size, 0, none⟩) 201 201) W ∧ (convert 59 9 (.slice (some ⟨w.heap.size, 0, none⟩) 201 201)).run Tryz.prog W = .ok (.string longN) W ∧ Ex [] w W := by
  obtain ⟨i, hi, hz, hs, hb⟩ := info_parts infoB
  have h := run_makeSlice (P := Tryz.prog) w 59 5 i _ Tryz.underlying59 hi hz .i64 .i64 201 201 (by omega) (by omega) (by rw [hs]; decide) (by rw [hb]; decide) (by decide)
  rw [hs, show madeCells (Value.int .u8 0).cells ((201 : Int).toNat * 1) = Array.replicate 201 (Value.int .u8 0) from made_zero] at h
  refine ⟨_, h, ?_, (Ex.refl _ _).alloc _⟩
  have hb := BK.new w (.cells (Array.replicate 201 (Value.int .u8 0)) 5)
  have h2 := run_convert_bytes_back (P := Tryz.prog) (w.alloc (.cells (Array.replicate 201 (Value.int .u8 0)) 5)) 59 9 5 ⟨w.heap.size, 0, none⟩ 201 (List.replicate 201 (0 : UInt8)) Tryz.underlying59 Tryz.underlying5 Tryz.underlying9 (fun j hj => by
    have hj' : j < 201 := by rw [List.length_replicate] at hj; exact hj
    rw [Addr.add_lit, Nat.zero_add, hb.all.1 j, Array.getElem?_replicate, if_pos hj', List.getElem_replicate]; rfl)
  rw [List.length_replicate] at h2
  exact h2
theorem sl_lit {w : World} {b : Nat} {l1 l2 : ByteArray} (hb : BK w b (.cells #[.string l1, .string l2] 48 (0, 0))) : SL w (.slice (some ⟨b, 0, none⟩) 1 1) [(l1, l2)] := by
  refine .inr ⟨b, 1, rfl, hb.lt, fun j l hj => ?_⟩
  obtain rfl : j = 0 := by have := (List.getElem?_eq_some_iff.1 hj).1; simp at this; omega
  simp at hj
  subst hj
  exact ⟨hb.all.1 0, hb.all.1 1⟩
theorem longN_size : longN.size = 201 := by kernel_rfl


theorem arr_size : (Tryz.prog.info? 62).map (·.size) = some 63 := by kernel_rfl
end Go.Proofs.YtmeffeigamaipabGreatDoor
