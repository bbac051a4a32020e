/- The rows' frames: bytes are opened; by-name template. -/
import Derived.Test.YtpmbdjdhgcjkfaaWNum
import Derived.ProofKit
import Derived.OpenShut
import Derived.ShutString
import Derived.ChangeOld
import Derived.Carry
import Derived.WideShapes
import Derived.ChangeSlices
namespace Go.Proofs.Ytpmbdjdhgcjkfaa
open Go.ChangeShapes Go.WideShapes Go.ChangeAt Go.RowKit

theorem own : ownKnob Try.prog.godebug = none := by kernel_rfl
theorem laidOut : laidOutB Try.prog = true := by kernel_rfl

theorem i64_of_wf {x : Int} (h : (Lit.int .i64 x).wf = true) : -9223372036854775808 ≤ x ∧ x < 9223372036854775808 := by
  simp [Lit.wf, IntKind.min, IntKind.max, IntKind.signed, IntKind.bits] at h
  exact ⟨by omega, by omega⟩
theorem u8_of_wf {x : Int} (h : (Lit.int .u8 x).wf = true) : 0 ≤ x ∧ x < 256 := by
  simp [Lit.wf, IntKind.min, IntKind.max, IntKind.signed, IntKind.bits] at h
  exact ⟨by omega, by omega⟩

/-- Bytes that came in. -/
def BytArg (w : World) (A : Option Addr) (n c : Nat) (l : List UInt8) : Prop := l.length = n ∧ n ≤ c ∧ c ≤ maxLen ∧ (0 < n → ∃ g o, A = some ⟨g, o, none⟩ ∧ Byt w g o l)

theorem byte_cells : Try.prog.cellsOf 5 = 1 := by kernel_rfl

section
variable {H : Type} {enc : TypeId × Value → H} {w : World} {base : Nat} {spare : Nat → Bool} {held : Bool}

theorem open_bytes {fuel : Nat} {A : Option Addr} {n c : Nat} {x : DataW H × List MemPlace} (h : DataW.trod enc Try.prog w base spare held fuel 22 [.slice A n c] = some x) :
    ∃ l : List UInt8, BytArg w A n c l := by
  rcases open_ints Try.underlying22 Try.underlying5 byte_cells h with ⟨hcs, _⟩ | ⟨p, len, cap, zs, hcs, hb, hl, hm, hz, _, hcell, hwf⟩
  · simp only [List.cons.injEq, Value.slice.injEq, and_true] at hcs
    obtain ⟨rfl, rfl, rfl⟩ := hcs
    exact ⟨[], rfl, Nat.le_refl _, by unfold maxLen; omega, fun h => absurd h (by omega)⟩
  · simp only [List.cons.injEq, Value.slice.injEq, and_true] at hcs
    obtain ⟨rfl, rfl, rfl⟩ := hcs
    have hlz : n ≤ zs.length := by rw [hz]; split <;> omega
    refine ⟨(zs.take n).map fun z => UInt8.ofNat z.toNat, by simp; omega, hl, hm, fun hn => ?_⟩
    obtain ⟨b, off, spot⟩ := p
    have c0 := hcell 0 (by omega)
    have hsp : spot = none := by
      have := World.cell?_spot c0
      simpa [Addr.add] using this
    subst hsp
    refine ⟨b, off, rfl, fun k y hk => ?_⟩
    rw [List.getElem?_map] at hk
    obtain ⟨z, hz1, rfl⟩ := Option.map_eq_some_iff.1 hk
    rw [List.getElem?_take] at hz1
    split at hz1
    · have hck := hcell k (by omega)
      have hadd : (⟨b, off, none⟩ : Addr).add k = ⟨b, off + k, none⟩ := by unfold Addr.add; split <;> simp_all
      rw [hadd, List.getD_eq_getElem?_getD, hz1] at hck
      have hw := u8_of_wf (hwf z (List.mem_of_getElem? hz1))
      rw [hck, UInt8.toNat_ofNat']
      congr 2
      simp only [Option.getD_some]
      omega
    · cases hz1

end
end Go.Proofs.Ytpmbdjdhgcjkfaa
