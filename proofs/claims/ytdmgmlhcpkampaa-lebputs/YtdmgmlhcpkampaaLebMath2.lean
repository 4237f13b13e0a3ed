/- More of the plain mathematics of layer 1. No condition; nothing of the program. -/
import Derived.Test.YtdmgmlhcpkampaaLebMath
import Derived.Test.YtdmgmlhcpkampaaMem
namespace Go.Proofs.Ytdmgmlhcpkampaa.Leb

/-- a number in n + 1 bytes. -/
def padU (v : Nat) : Nat → List UInt8
  | 0 => [UInt8.ofNat (v % 128)]
  | n + 1 => UInt8.ofNat (v % 128 + 128) :: padU (v / 128) n

theorem orb (x : Nat) : bits .or .u8 ((x : Int) % 256) 128 = ((x % 128 + 128 : Nat) : Int) := by
  rw [show ((x : Int) % 256) = ((x % 256 : Nat) : Int) by simp, or128 _ (by omega), show x % 256 % 128 = x % 128 by omega]

theorem pad_cells (v : Nat) (hv : v < 4294967296) :
    (#[Value.int .u8 (bits .or .u8 ((v : Int) % 256) 128), .int .u8 (bits .or .u8 ((v : Int) / 128 % 256) 128), .int .u8 (bits .or .u8 ((v : Int) / 128 / 128 % 256) 128),
      .int .u8 (bits .or .u8 ((v : Int) / 128 / 128 / 128 % 256) 128), .int .u8 (bits .and .u8 (bits .or .u8 ((v : Int) / 128 / 128 / 128 / 128) 128) 127)] : Array Value).toList = u8s (padU v 4) := by
  have e1 : ((v : Int) / 128) = ((v / 128 : Nat) : Int) := by simp
  have e2 : (((v / 128 : Nat) : Int) / 128) = ((v / 128 / 128 : Nat) : Int) := by simp
  have e3 : (((v / 128 / 128 : Nat) : Int) / 128) = ((v / 128 / 128 / 128 : Nat) : Int) := by simp
  have e4 : (((v / 128 / 128 / 128 : Nat) : Int) / 128) = ((v / 128 / 128 / 128 / 128 : Nat) : Int) := by simp
  rw [e1, e2, e3, e4, orb, orb, orb, orb, or128 _ (by omega)]
  rw [show (127 : Int) = ((127 : Nat) : Int) from rfl, u8_and_nat _ 127 (by omega) (by omega), nat_mask7]
  simp only [u8s, padU, List.map_cons, List.map_nil]
  rw [toNat_ofNat (by omega), toNat_ofNat (by omega), toNat_ofNat (by omega), toNat_ofNat (by omega), toNat_ofNat (by omega), Nat.add_mod_right, Nat.mod_mod]

end Go.Proofs.Ytdmgmlhcpkampaa.Leb
