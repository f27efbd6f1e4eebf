/- Known, plainly: the answers of its statements. -/
import Derived.Test.YtojdpjpldokjmaaGreatDoorG33
namespace Go.Proofs.YtojdpjpldokjmaaGreatDoor
namespace Pl

def kCreate : List UInt8 := [67, 82, 69, 65, 84, 69, 32, 84, 65, 66, 76, 69, 32, 116, 32, 40, 97, 32, 73, 78, 84, 44, 32, 98, 32, 84, 69, 88, 84, 41, 59]
def kIns1 : List UInt8 := [105, 110, 115, 101, 114, 116, 32, 105, 110, 116, 111, 32, 116, 32, 118, 97, 108, 117, 101, 115, 32, 40, 49, 44, 32, 39, 120, 39, 41]
def kIns2 : List UInt8 := [73, 78, 83, 69, 82, 84, 32, 73, 78, 84, 79, 32, 116, 32, 86, 65, 76, 85, 69, 83, 32, 40, 78, 85, 76, 76, 44, 32, 39, 105, 116, 39, 39, 115, 39, 41]
def kSel0 : List UInt8 := [83, 69, 76, 69, 67, 84, 32, 42, 32, 70, 82, 79, 77, 32, 116]
def kSel1 : List UInt8 := [83, 69, 76, 69, 67, 84, 32, 97, 32, 43, 32, 49, 32, 70, 82, 79, 77, 32, 116, 32, 87, 72, 69, 82, 69, 32, 97, 32, 61, 32, 97]
def kSel2 : List UInt8 := [83, 69, 76, 69, 67, 84, 32, 98, 32, 70, 82, 79, 77, 32, 116, 32, 79, 82, 68, 69, 82, 32, 66, 89, 32, 97, 32, 68, 69, 83, 67]
def kSel3 : List UInt8 := [83, 69, 76, 69, 67, 84, 32, 97, 32, 73, 83, 32, 78, 85, 76, 76, 32, 70, 82, 79, 77, 32, 116]
def kSel4 : List UInt8 := [83, 69, 76, 69, 67, 84, 32, 120, 46, 97, 44, 32, 121, 46, 97, 32, 70, 82, 79, 77, 32, 116, 32, 65, 83, 32, 120, 32, 76, 69, 70, 84, 32, 74, 79, 73, 78, 32, 116, 32, 65, 83, 32, 121, 32, 79, 78, 32, 120, 46, 97, 32, 60, 32, 121, 46, 97, 32, 43, 32, 49]
def kSel5 : List UInt8 := [83, 69, 76, 69, 67, 84, 32, 70, 65, 76, 83, 69, 32, 65, 78, 68, 32, 49, 32, 47, 32, 48, 32, 61, 32, 49, 32, 70, 82, 79, 77, 32, 116]
def kBad0 : List UInt8 := [83, 69, 76, 69, 67, 84, 32, 97, 32, 70, 82, 79, 77, 32, 116, 32, 65, 83, 32, 120, 32, 74, 79, 73, 78, 32, 116, 32, 65, 83, 32, 121, 32, 79, 78, 32, 84, 82, 85, 69]
def kBad1 : List UInt8 := [83, 69, 76, 69, 67, 84, 32, 97, 32, 43, 32, 98, 32, 70, 82, 79, 77, 32, 116]
def kBad2 : List UInt8 := [83, 69, 76, 69, 67, 84, 32, 49, 32, 47, 32, 40, 97, 32, 45, 32, 49, 41, 32, 70, 82, 79, 77, 32, 116]
def kBad3 : List UInt8 := [83, 69, 76, 69, 67, 84, 32, 78, 85, 76, 76, 32, 65, 78, 68, 32, 49, 32, 47, 32, 48, 32, 61, 32, 49, 32, 70, 82, 79, 77, 32, 116]
def kX : V := ⟨2, 0, [120]⟩
def kIts : V := ⟨2, 0, [105, 116, 39, 115]⟩
def kTab (rows : List (List V)) : DB := [⟨[116], [([97], 1), ([98], 2)], rows⟩]
def kDb : DB := kTab [[nV 1, kX], [nul, kIts]]
theorem k_create : exec [] kCreate = (kTab [], ⟨[], 0, 0⟩) := by kernel_rfl
theorem k_ins1 : exec (kTab []) kIns1 = (kTab [[nV 1, kX]], ⟨[], 1, 0⟩) := by kernel_rfl
theorem k_ins2 : exec (kTab [[nV 1, kX]]) kIns2 = (kDb, ⟨[], 1, 0⟩) := by kernel_rfl
def kWant0 : List (List V) := [[nV 1, kX], [nul, kIts]]
def kWant1 : List (List V) := [[nV 2]]
def kWant2 : List (List V) := [[kX], [kIts]]
def kWant3 : List (List V) := [[tru false], [tru true]]
def kWant4 : List (List V) := [[nV 1, nV 1], [nul, nul]]
def kWant5 : List (List V) := [[tru false], [tru false]]
theorem k_sel0 : exec kDb kSel0 = (kDb, ⟨kWant0, 0, 0⟩) := by kernel_rfl
theorem k_sel1 : exec kDb kSel1 = (kDb, ⟨kWant1, 0, 0⟩) := by kernel_rfl
theorem k_sel2 : exec kDb kSel2 = (kDb, ⟨kWant2, 0, 0⟩) := by kernel_rfl
theorem k_sel3 : exec kDb kSel3 = (kDb, ⟨kWant3, 0, 0⟩) := by kernel_rfl
theorem k_sel4 : exec kDb kSel4 = (kDb, ⟨kWant4, 0, 0⟩) := by kernel_rfl
theorem k_sel5 : exec kDb kSel5 = (kDb, ⟨kWant5, 0, 0⟩) := by kernel_rfl
theorem k_bad0 : exec kDb kBad0 = (kDb, no 2) := by kernel_rfl
theorem k_bad1 : exec kDb kBad1 = (kDb, no 3) := by kernel_rfl
theorem k_bad2 : exec kDb kBad2 = (kDb, no 5) := by kernel_rfl
theorem k_bad3 : exec kDb kBad3 = (kDb, no 5) := by kernel_rfl
theorem k_save : save kDb = [67, 82, 69, 65, 84, 69, 32, 84, 65, 66, 76, 69, 32, 116, 32, 40, 97, 32, 73, 78, 84, 44, 32, 98, 32, 84, 69, 88, 84, 41, 10, 73, 78, 83, 69, 82, 84, 32, 73, 78, 84, 79, 32, 116, 32, 86, 65, 76, 85, 69, 83, 32, 40, 49, 44, 32, 39, 120, 39, 41, 10, 73, 78, 83, 69, 82, 84, 32, 73, 78, 84, 79, 32, 116, 32, 86, 65, 76, 85, 69, 83, 32, 40, 78, 85, 76, 76, 44, 32, 39, 105, 116, 39, 39, 115, 39, 41, 10] := by kernel_rfl
end Pl
end Go.Proofs.YtojdpjpldokjmaaGreatDoor
