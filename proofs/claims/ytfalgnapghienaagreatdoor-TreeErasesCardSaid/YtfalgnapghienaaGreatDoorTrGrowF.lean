/- A program of one class with a field that may be null: what is so of it. -/
import Derived.Test.YtfalgnapghienaaGreatDoorTrErasing
import Derived.Test.YtfalgnapghienaaGreatDoorTrFormD
namespace Go.Proofs.YtfalgnapghienaaGreatDoor
open Go Go.RowKit
set_option linter.unusedVariables false
set_option linter.unusedSimpArgs false

def gF : Nd := ⟨4, 0, 0, [], ⟨#[120]⟩, 5, ⟨#[67]⟩, 0, ⟨#[63]⟩, 0, 0, 0, []⟩
def gC : Nd := ⟨2, 0, 0, [0], ⟨#[67]⟩, 0, ⟨#[]⟩, 0, ⟨#[]⟩, 0, 0, 0, []⟩
def gP : Nd := ⟨1, 0, 0, [1], ⟨#[]⟩, 0, ⟨#[]⟩, 0, ⟨#[]⟩, 0, 0, 0, []⟩
def gG : List Nd := [gF, gC, gP]
def gE : Nd := ⟨4, 0, 0, [], ⟨#[120]⟩, 5, ⟨#[67]⟩, 0, ⟨#[32]⟩, 0, 0, 0, []⟩
theorem g_check : checkE gG 2 = 0 := by decide +kernel
theorem g_form : FormS goPen gG 2 2 = ⟨#[40, 112, 114, 111, 103, 114, 97, 109, 32, 40, 99, 108, 97, 115, 115, 32, 34, 67, 34, 32, 40, 102, 105, 101, 108, 100, 32, 34, 120, 34, 32, 67, 63, 41, 41, 41]⟩ := by decide +kernel
theorem g_deep : deepS gG (gG.length - 1) = 3 := by decide +kernel
theorem g_walk : (walkS gG 2).length = 3 := by decide +kernel
theorem g_marked : markedO gG = some 0 := by decide +kernel
theorem g_erase : eraseL gG = [gE, gC, gP] := by rfl
theorem e_check : checkE [gE, gC, gP] 2 = 0 := by decide +kernel
theorem e_form : FormS goPen [gE, gC, gP] 2 2 = ⟨#[40, 112, 114, 111, 103, 114, 97, 109, 32, 40, 99, 108, 97, 115, 115, 32, 34, 67, 34, 32, 40, 102, 105, 101, 108, 100, 32, 34, 120, 34, 32, 67, 41, 41, 41]⟩ := by decide +kernel
theorem e_marked : markedO [gE, gC, gP] = none := by decide +kernel
theorem g_same : sameB goPen gG 2 [gE, gC, gP] 2 = false := by decide +kernel
theorem g_self : sameB goPen gG 2 gG 2 = true := by decide +kernel
theorem g_void : ttS 6 ⟨#[]⟩ 0 ⟨#[32]⟩ = ⟨#[118, 111, 105, 100]⟩ := by decide +kernel
theorem gF_sm : NdSm gF := by constructor <;> decide +kernel
theorem gE_sm : NdSm gE := by constructor <;> decide +kernel
theorem gC_sm : NdSm gC := by constructor <;> decide +kernel
theorem gP_sm : NdSm gP := by constructor <;> decide +kernel
theorem g_sm : ∀ x ∈ gG, NdSm x := by
  intro x hx
  simp only [gG, List.mem_cons, List.not_mem_nil, or_false] at hx
  rcases hx with rfl | rfl | rfl
  · exact gF_sm
  · exact gC_sm
  · exact gP_sm
theorem e_sm : ∀ x ∈ [gE, gC, gP], NdSm x := by
  intro x hx
  simp only [List.mem_cons, List.not_mem_nil, or_false] at hx
  rcases hx with rfl | rfl | rfl
  · exact gE_sm
  · exact gC_sm
  · exact gP_sm
end Go.Proofs.YtfalgnapghienaaGreatDoor
