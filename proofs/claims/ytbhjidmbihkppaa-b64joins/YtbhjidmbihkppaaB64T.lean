/-
  Texts and bytes, there and back.
-/
import Derived.Test.YtbhjidmbihkppaaB64W
namespace Go.Proofs.Ytbhjidmbihkppaa
open Go.RowKit
set_option linter.unusedVariables false
set_option linter.unusedSimpArgs false

theorem cods_of {xs : List Int} (h : Dg 256 xs) : cods (strOfNums xs) = nats xs := by
  unfold cods strOfNums nats
  simp only [List.map_map]
  apply List.map_congr_left
  intro x hx
  have := h x hx
  simp
  omega
theorem cods_inj {s t : ByteArray} (h : cods s = cods t) : s = t := by
  obtain ⟨⟨a⟩⟩ := s
  obtain ⟨⟨b⟩⟩ := t
  have h' : a.map UInt8.toNat = b.map UInt8.toNat := h
  have e : a = b := by
    have hl : a.length = b.length := by simpa using congrArg List.length h'
    apply List.ext_getElem hl
    intro i h1 h2
    have e2 : (a.map UInt8.toNat)[i]? = (b.map UInt8.toNat)[i]? := by rw [h']
    simp [h1, h2] at e2
    exact UInt8.toNat_inj.1 e2
  rw [e]
/-- The text of bytes. -/
def txt (bs : List Nat) : ByteArray := ⟨(encT bs).toArray⟩
theorem txt_size (bs : List Nat) : (txt bs).size = (8 * bs.length + 5) / 6 := by
  simp [txt, ByteArray.size, encT, encL_length]
theorem cods_txt (bs : List Nat) : cods (txt bs) = (encL bs).map sg := by
  unfold cods txt encT
  simp only [List.map_map]
  apply List.map_congr_left
  intro x hx
  have := (sg_facts x (encL_lt bs x hx)).2.2
  simp [Nat.toUInt8, UInt8.toNat_ofNat']
  omega
theorem vS_txt (bs : List Nat) : (cods (txt bs)).map vS = encL bs := by
  rw [cods_txt, List.map_map]
  conv => rhs; rw [← List.map_id (encL bs)]
  apply List.map_congr_left
  intro x hx
  exact (sg_facts x (encL_lt bs x hx)).2.1
theorem good_txt {bs : List Nat} (h : ∀ x ∈ bs, x < 256) : Good (cods (txt bs)) := by
  refine ⟨fun c hc => ?_, by rw [vS_txt]; exact full_enc h⟩
  rw [cods_txt] at hc
  obtain ⟨x, hx, rfl⟩ := List.mem_map.1 hc
  exact (sg_facts x (encL_lt bs x hx)).1
theorem byt_txt {bs : List Nat} (h : ∀ x ∈ bs, x < 256) : byt ((cods (txt bs)).map vS) = bs := by rw [vS_txt]; exact byt_enc h
/-- What is decoded is encoded as it was. -/
theorem txt_byt {t : ByteArray} (h : Good (cods t)) : txt (byt ((cods t).map vS)) = t := by
  apply cods_inj
  have h64 : ∀ x ∈ (cods t).map vS, x < 64 := fun x hx => by
    obtain ⟨c, _, rfl⟩ := List.mem_map.1 hx
    exact vS_lt c
  rw [cods_txt, enc_of_full h64 h.2, List.map_map]
  conv => rhs; rw [← List.map_id (cods t)]
  apply List.map_congr_left
  intro c hc
  exact (vS_facts c (isS_lt (h.1 c hc)) (h.1 c hc)).1
theorem str_inj {xs ys : List Int} (hx : Dg 256 xs) (hy : Dg 256 ys) (h : strOfNums xs = strOfNums ys) : xs = ys := by
  have := congrArg cods h
  rw [cods_of hx, cods_of hy] at this
  rw [← ints_nats hx, ← ints_nats hy, this]
theorem same_txt {t : ByteArray} {xs : List Int} (hx : Dg 256 xs) (g : Good (cods t)) : strOfNums (ints (byt ((cods t).map vS))) = strOfNums xs ↔ t = txt (nats xs) := by
  constructor
  · intro e
    have := str_inj (ints_dg (byt_lt _)) hx e
    rw [← this, nats_ints, txt_byt g]
  · intro e
    rw [e, byt_txt (nats_lt hx), ints_nats hx]
end Go.Proofs.Ytbhjidmbihkppaa
