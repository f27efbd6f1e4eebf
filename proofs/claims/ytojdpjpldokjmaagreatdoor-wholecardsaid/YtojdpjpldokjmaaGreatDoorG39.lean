/- Known, plainly: the answers of its statements. -/
import Derived.Test.YtojdpjpldokjmaaGreatDoorG10
namespace Go.Proofs.YtojdpjpldokjmaaGreatDoor
namespace Pl

def kSel0 : List UInt8 := [83, 69, 76, 69, 67, 84, 32, 42, 32, 70, 82, 79, 77, 32, 116]
def kSel1 : List UInt8 := [83, 69, 76, 69, 67, 84, 32, 97, 32, 43, 32, 49, 32, 70, 82, 79, 77, 32, 116, 32, 87, 72, 69, 82, 69, 32, 97, 32, 61, 32, 97]
def kSel2 : List UInt8 := [83, 69, 76, 69, 67, 84, 32, 98, 32, 70, 82, 79, 77, 32, 116, 32, 79, 82, 68, 69, 82, 32, 66, 89, 32, 97, 32, 68, 69, 83, 67]
def kSel3 : List UInt8 := [83, 69, 76, 69, 67, 84, 32, 97, 32, 73, 83, 32, 78, 85, 76, 76, 32, 70, 82, 79, 77, 32, 116]
def kSel4 : List UInt8 := [83, 69, 76, 69, 67, 84, 32, 120, 46, 97, 44, 32, 121, 46, 97, 32, 70, 82, 79, 77, 32, 116, 32, 65, 83, 32, 120, 32, 76, 69, 70, 84, 32, 74, 79, 73, 78, 32, 116, 32, 65, 83, 32, 121, 32, 79, 78, 32, 120, 46, 97, 32, 60, 32, 121, 46, 97, 32, 43, 32, 49]
def kSel5 : List UInt8 := [83, 69, 76, 69, 67, 84, 32, 70, 65, 76, 83, 69, 32, 65, 78, 68, 32, 49, 32, 47, 32, 48, 32, 61, 32, 49, 32, 70, 82, 79, 77, 32, 116]
def kX : V := ⟨2, 0, [120]⟩
def kIts : V := ⟨2, 0, [105, 116, 39, 115]⟩
def kWant0 : List (List V) := [[nV 1, kX], [nul, kIts]]
def kWant1 : List (List V) := [[nV 2]]
def kWant2 : List (List V) := [[kX], [kIts]]
def kWant3 : List (List V) := [[tru false], [tru true]]
def kWant4 : List (List V) := [[nV 1, nV 1], [nul, nul]]
def kWant5 : List (List V) := [[tru false], [tru false]]
end Pl
end Go.Proofs.YtojdpjpldokjmaaGreatDoor
