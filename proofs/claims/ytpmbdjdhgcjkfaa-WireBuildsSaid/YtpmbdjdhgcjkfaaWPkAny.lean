/- Packet, both; by-name template (gen_wpkany.py). -/
import Derived.Test.YtpmbdjdhgcjkfaaWPkt4
import Derived.Test.YtpmbdjdhgcjkfaaWPkt6
import Derived.Test.YtpmbdjdhgcjkfaaWRPkt4
import Derived.Test.YtpmbdjdhgcjkfaaWRPkt6
namespace Go.Proofs.Ytpmbdjdhgcjkfaa
open Go.RowKit Go.Sort
set_option linter.unusedVariables false
set_option linter.unusedSimpArgs false

/-- Whether a packet is refused. -/
def packBad (sh sl dh dl p ttl : Int) (n : Nat) : Bool :=
  (is4I dh dl != is4I sh sl) || !byteP p || !byteP ttl || decide (p = 44) || !carriesP (!is4I sh sl) p || decide (2048 < (if is4I sh sl then 20 else 40) + n)
/-- A packet, or why there is none. -/
def packP (sh sl dh dl p ttl : Int) (l : List UInt8) : List UInt8 × Int :=
  if packBad sh sl dh dl p ttl l.length then ([], 1)
  else if is4I sh sl then (hdr4 p ttl (20 + l.length) (beB 4 sl.toNat ++ beB 4 dl.toNat) ++ setB (vPk p sh sl dh dl) l, 0)
  else (hdr6 p ttl l.length ((beB 8 sh.toNat ++ beB 8 sl.toNat) ++ (beB 8 dh.toNat ++ beB 8 dl.toNat)) ++ setB (vPk p sh sl dh dl) l, 0)
theorem packP_bad {sh sl dh dl p ttl : Int} {l : List UInt8} (h : packBad sh sl dh dl p ttl l.length = true) : packP sh sl dh dl p ttl l = ([], 1) := by unfold packP; rw [if_pos h]
theorem byta_none (w : World) : BytA w none 0 0 [] := ⟨⟨rfl, Nat.le_refl _, by unfold maxLen; omega, fun h => absurd h (by omega)⟩, fun _ => ⟨rfl, rfl⟩⟩

theorem packet_any (A : Option Addr) (n c : Nat) (l : List UInt8) (sh sl dh dl : Nat) (vp ttl : Int) (h1 : sh < 18446744073709551616) (h2 : sl < 18446744073709551616) (h3 : dh < 18446744073709551616) (h4 : dl < 18446744073709551616) {w : World} (h : BytArg w A n c l) (hm : n ≤ 65536) :
    Calls Try.prog 21 #[.agg #[.int .u64 (sh : Nat), .int .u64 (sl : Nat)], .agg #[.int .u64 (dh : Nat), .int .u64 (dl : Nat)], .int .i64 vp, .int .i64 ttl, .slice A n c] w fun e w' => ∃ A' n' c', e = .returned (.tuple #[.slice A' n' c', .int .i64 (packP sh sl dh dl vp ttl l).2]) ∧ BytA w' A' n' c' (packP sh sl dh dl vp ttl l).1 ∧ Below w.heap.size w w' := by
  have hn : l.length = n := h.1
  have no : ∀ {P : Prop}, packBad sh sl dh dl vp ttl l.length = true → (Calls Try.prog 21 #[.agg #[.int .u64 (sh : Nat), .int .u64 (sl : Nat)], .agg #[.int .u64 (dh : Nat), .int .u64 (dl : Nat)], .int .i64 vp, .int .i64 ttl, .slice A n c] w fun e w' => e = .returned (.tuple #[.slice none 0 0, .int .i64 1]) ∧ Below w.heap.size w w') → Calls Try.prog 21 #[.agg #[.int .u64 (sh : Nat), .int .u64 (sl : Nat)], .agg #[.int .u64 (dh : Nat), .int .u64 (dl : Nat)], .int .i64 vp, .int .i64 ttl, .slice A n c] w fun e w' => ∃ A' n' c', e = .returned (.tuple #[.slice A' n' c', .int .i64 (packP sh sl dh dl vp ttl l).2]) ∧ BytA w' A' n' c' (packP sh sl dh dl vp ttl l).1 ∧ Below w.heap.size w w' := by
    intro _ hb hc
    rw [packP_bad hb]
    exact hc.mono fun e w' ⟨he, hw⟩ => ⟨none, 0, 0, he, byta_none w', hw⟩
  by_cases hs : is4I (sh : Int) (sl : Int) = true
  · skip
    by_cases hd : is4I (dh : Int) (dl : Int) = true
    case neg =>
      have hd : is4I (dh : Int) (dl : Int) = false := by simpa using hd
      exact no (P := True) (by unfold packBad; rw [hs, hd]; rfl) (pk4_1 A n c l sh sl dh dl vp ttl h1 h2 h3 h4 hs h hm hd)
    by_cases hp : byteP vp = true
    case neg =>
      have hp : byteP vp = false := by simpa using hp
      exact no (P := True) (by unfold packBad; rw [hp]; simp) (pk4_2 A n c l sh sl dh dl vp ttl h1 h2 h3 h4 hs h hm hd hp)
    by_cases ht : byteP ttl = true
    case neg =>
      have ht : byteP ttl = false := by simpa using ht
      exact no (P := True) (by unfold packBad; rw [ht]; simp) (pk4_3 A n c l sh sl dh dl vp ttl h1 h2 h3 h4 hs h hm hd hp ht)
    by_cases hq : vp = 44
    · subst hq
      exact no (P := True) (by unfold packBad; simp) (pk4_4 A n c l sh sl dh dl ttl h1 h2 h3 h4 hs h hm hd hp ht)
    by_cases hk : carriesP false vp = true
    case neg =>
      have hk : carriesP false vp = false := by simpa using hk
      exact no (P := True) (by unfold packBad; rw [hs, show (!true) = false from rfl, hk]; simp) (pk4_5 A n c l sh sl dh dl vp ttl h1 h2 h3 h4 hs h hm hd hp ht hq hk)
    have hkc := hk
    by_cases hz : 2048 < 20 + n
    · exact no (P := True) (by unfold packBad; rw [hs, hn]; simp; omega) (pk4_6 A n c l sh sl dh dl vp ttl h1 h2 h3 h4 hs h hm hd hp ht hq hk hz)
    have hg : packBad sh sl dh dl vp ttl l.length = false := by
      unfold packBad
      rw [hs, hd, hp, ht, show (!true) = false from rfl, hkc, hn]
      simp [hq]; omega
    have e : packP sh sl dh dl vp ttl l = (hdr4 vp ttl (20 + n) (beB 4 sl ++ beB 4 dl) ++ setB (vPk vp sh sl dh dl) l, 0) := by
      unfold packP
      rw [hg, hs, hn]
      rfl
    rw [e]
    exact (pk4_ok A n c l sh sl dh dl vp ttl h1 h2 h3 h4 hs h hm hd hp ht hq hk hz).mono fun e' w' ⟨B, hE, hB, _, hw⟩ => ⟨_, _, _, hE, ⟨hB, fun h => by cases h⟩, hw⟩
  · have hs : is4I (sh : Int) (sl : Int) = false := by simpa using hs
    by_cases hd : is4I (dh : Int) (dl : Int) = false
    case neg =>
      have hd : is4I (dh : Int) (dl : Int) = true := by simpa using hd
      exact no (P := True) (by unfold packBad; rw [hs, hd]; rfl) (pk6_1 A n c l sh sl dh dl vp ttl h1 h2 h3 h4 hs h hm hd)
    by_cases hp : byteP vp = true
    case neg =>
      have hp : byteP vp = false := by simpa using hp
      exact no (P := True) (by unfold packBad; rw [hp]; simp) (pk6_2 A n c l sh sl dh dl vp ttl h1 h2 h3 h4 hs h hm hd hp)
    by_cases ht : byteP ttl = true
    case neg =>
      have ht : byteP ttl = false := by simpa using ht
      exact no (P := True) (by unfold packBad; rw [ht]; simp) (pk6_3 A n c l sh sl dh dl vp ttl h1 h2 h3 h4 hs h hm hd hp ht)
    by_cases hq : vp = 44
    · subst hq
      exact no (P := True) (by unfold packBad; simp) (pk6_4 A n c l sh sl dh dl ttl h1 h2 h3 h4 hs h hm hd hp ht)
    by_cases hk : carriesP true vp = true
    case neg =>
      have hk : carriesP true vp = false := by simpa using hk
      exact no (P := True) (by unfold packBad; rw [hs, show (!false) = true from rfl, hk]; simp) (pk6_5 A n c l sh sl dh dl vp ttl h1 h2 h3 h4 hs h hm hd hp ht hq hk)
    have hkc := hk
    by_cases hz : 2048 < 40 + n
    · exact no (P := True) (by unfold packBad; rw [hs, hn]; simp; omega) (pk6_6 A n c l sh sl dh dl vp ttl h1 h2 h3 h4 hs h hm hd hp ht hq hk hz)
    have hg : packBad sh sl dh dl vp ttl l.length = false := by
      unfold packBad
      rw [hs, hd, hp, ht, show (!false) = true from rfl, hkc, hn]
      simp [hq]; omega
    have e : packP sh sl dh dl vp ttl l = (hdr6 vp ttl n ((beB 8 sh ++ beB 8 sl) ++ (beB 8 dh ++ beB 8 dl)) ++ setB (vPk vp sh sl dh dl) l, 0) := by
      unfold packP
      rw [hg, hs, hn]
      rfl
    rw [e]
    exact (pk6_ok A n c l sh sl dh dl vp ttl h1 h2 h3 h4 hs h hm hd hp ht hq hk hz).mono fun e' w' ⟨B, hE, hB, _, hw⟩ => ⟨_, _, _, hE, ⟨hB, fun h => by cases h⟩, hw⟩

theorem rpacket_any (A : Option Addr) (n c : Nat) (l : List UInt8) (sh sl dh dl : Nat) (vp ttl : Int) (h1 : sh < 18446744073709551616) (h2 : sl < 18446744073709551616) (h3 : dh < 18446744073709551616) (h4 : dl < 18446744073709551616) {w : World} (h : BytA w A n c l) (hm : n ≤ 65536) :
    Calls Try.prog 22 #[.agg #[.int .u64 (sh : Nat), .int .u64 (sl : Nat)], .agg #[.int .u64 (dh : Nat), .int .u64 (dl : Nat)], .int .i64 vp, .int .i64 ttl, .slice A n c] w fun e w' => ∃ A' n' c', e = .returned (.tuple #[.slice A' n' c', .int .i64 (packP sh sl dh dl vp ttl l).2]) ∧ BytA w' A' n' c' (packP sh sl dh dl vp ttl l).1 ∧ Below w.heap.size w w' := by
  have hn : l.length = n := h.1.1
  have no : ∀ {P : Prop}, packBad sh sl dh dl vp ttl l.length = true → (Calls Try.prog 22 #[.agg #[.int .u64 (sh : Nat), .int .u64 (sl : Nat)], .agg #[.int .u64 (dh : Nat), .int .u64 (dl : Nat)], .int .i64 vp, .int .i64 ttl, .slice A n c] w fun e w' => e = .returned (.tuple #[.slice none 0 0, .int .i64 1]) ∧ Below w.heap.size w w') → Calls Try.prog 22 #[.agg #[.int .u64 (sh : Nat), .int .u64 (sl : Nat)], .agg #[.int .u64 (dh : Nat), .int .u64 (dl : Nat)], .int .i64 vp, .int .i64 ttl, .slice A n c] w fun e w' => ∃ A' n' c', e = .returned (.tuple #[.slice A' n' c', .int .i64 (packP sh sl dh dl vp ttl l).2]) ∧ BytA w' A' n' c' (packP sh sl dh dl vp ttl l).1 ∧ Below w.heap.size w w' := by
    intro _ hb hc
    rw [packP_bad hb]
    exact hc.mono fun e w' ⟨he, hw⟩ => ⟨none, 0, 0, he, byta_none w', hw⟩
  by_cases hs : is4I (sh : Int) (sl : Int) = true
  · skip
    by_cases hd : is4I (dh : Int) (dl : Int) = true
    case neg =>
      have hd : is4I (dh : Int) (dl : Int) = false := by simpa using hd
      exact no (P := True) (by unfold packBad; rw [hs, hd]; rfl) (rpk4_1 A n c l sh sl dh dl vp ttl h1 h2 h3 h4 hs h hm hd)
    by_cases hp : byteP vp = true
    case neg =>
      have hp : byteP vp = false := by simpa using hp
      exact no (P := True) (by unfold packBad; rw [hp]; simp) (rpk4_2 A n c l sh sl dh dl vp ttl h1 h2 h3 h4 hs h hm hd hp)
    by_cases ht : byteP ttl = true
    case neg =>
      have ht : byteP ttl = false := by simpa using ht
      exact no (P := True) (by unfold packBad; rw [ht]; simp) (rpk4_3 A n c l sh sl dh dl vp ttl h1 h2 h3 h4 hs h hm hd hp ht)
    by_cases hq : vp = 44
    · subst hq
      exact no (P := True) (by unfold packBad; simp) (rpk4_4 A n c l sh sl dh dl ttl h1 h2 h3 h4 hs h hm hd hp ht)
    by_cases hk : vp = 58
    · subst hk
      exact no (P := True) (by unfold packBad; rw [hs]; simp [carriesP]) (rpk4_5 A n c l sh sl dh dl ttl h1 h2 h3 h4 hs h hm hd hp ht)
    have hkc : carriesP false vp = true := by simp [carriesP, hk]
    by_cases hz : 2048 < 20 + n
    · exact no (P := True) (by unfold packBad; rw [hs, hn]; simp; omega) (rpk4_6 A n c l sh sl dh dl vp ttl h1 h2 h3 h4 hs h hm hd hp ht hq hk hz)
    have hg : packBad sh sl dh dl vp ttl l.length = false := by
      unfold packBad
      rw [hs, hd, hp, ht, show (!true) = false from rfl, hkc, hn]
      simp [hq]; omega
    have e : packP sh sl dh dl vp ttl l = (hdr4 vp ttl (20 + n) (beB 4 sl ++ beB 4 dl) ++ setB (vPk vp sh sl dh dl) l, 0) := by
      unfold packP
      rw [hg, hs, hn]
      rfl
    rw [e]
    exact (rpk4_ok A n c l sh sl dh dl vp ttl h1 h2 h3 h4 hs h hm hd hp ht hq hk hz).mono fun e' w' ⟨B, cx, hE, hB, _, hw⟩ => ⟨_, _, _, hE, ⟨hB, fun h => by cases h⟩, hw⟩
  · have hs : is4I (sh : Int) (sl : Int) = false := by simpa using hs
    by_cases hd : is4I (dh : Int) (dl : Int) = false
    case neg =>
      have hd : is4I (dh : Int) (dl : Int) = true := by simpa using hd
      exact no (P := True) (by unfold packBad; rw [hs, hd]; rfl) (rpk6_1 A n c l sh sl dh dl vp ttl h1 h2 h3 h4 hs h hm hd)
    by_cases hp : byteP vp = true
    case neg =>
      have hp : byteP vp = false := by simpa using hp
      exact no (P := True) (by unfold packBad; rw [hp]; simp) (rpk6_2 A n c l sh sl dh dl vp ttl h1 h2 h3 h4 hs h hm hd hp)
    by_cases ht : byteP ttl = true
    case neg =>
      have ht : byteP ttl = false := by simpa using ht
      exact no (P := True) (by unfold packBad; rw [ht]; simp) (rpk6_3 A n c l sh sl dh dl vp ttl h1 h2 h3 h4 hs h hm hd hp ht)
    by_cases hq : vp = 44
    · subst hq
      exact no (P := True) (by unfold packBad; simp) (rpk6_4 A n c l sh sl dh dl ttl h1 h2 h3 h4 hs h hm hd hp ht)
    by_cases hk : vp = 1
    · subst hk
      exact no (P := True) (by unfold packBad; rw [hs]; simp [carriesP]) (rpk6_5 A n c l sh sl dh dl ttl h1 h2 h3 h4 hs h hm hd hp ht)
    have hkc : carriesP true vp = true := by simp [carriesP, hk]
    by_cases hz : 2048 < 40 + n
    · exact no (P := True) (by unfold packBad; rw [hs, hn]; simp; omega) (rpk6_6 A n c l sh sl dh dl vp ttl h1 h2 h3 h4 hs h hm hd hp ht hq hk hz)
    have hg : packBad sh sl dh dl vp ttl l.length = false := by
      unfold packBad
      rw [hs, hd, hp, ht, show (!false) = true from rfl, hkc, hn]
      simp [hq]; omega
    have e : packP sh sl dh dl vp ttl l = (hdr6 vp ttl n ((beB 8 sh ++ beB 8 sl) ++ (beB 8 dh ++ beB 8 dl)) ++ setB (vPk vp sh sl dh dl) l, 0) := by
      unfold packP
      rw [hg, hs, hn]
      rfl
    rw [e]
    exact (rpk6_ok A n c l sh sl dh dl vp ttl h1 h2 h3 h4 hs h hm hd hp ht hq hk hz).mono fun e' w' ⟨B, cx, hE, hB, _, hw⟩ => ⟨_, _, _, hE, ⟨hB, fun h => by cases h⟩, hw⟩
end Go.Proofs.Ytpmbdjdhgcjkfaa
