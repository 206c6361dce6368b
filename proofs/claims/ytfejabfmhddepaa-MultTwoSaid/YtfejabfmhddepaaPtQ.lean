/- What the landed package point comes to, plainly: a point's double by its own coordinates, a point that may be the zero value, the bytes of d and of the base point. No program is named here. -/
import Derived.Test.YtfejabfmhddepaaPtD
namespace Go.Proofs.Ytfejabfmhddepaa
set_option linter.unusedVariables false
set_option maxRecDepth 100000
open Pm Fl
namespace Ed
section
variable {N : Nat} [NeZero N]
theorem dbl1 (x y u : Fin N) : (x * u + y * u) * (x * u + y * u) - (x * u * (x * u) + y * u * (y * u)) = u * u * (x * y + x * y) := by grind
theorem dbl2 {d x y : Fin N} (u : Fin N) (h : y * y - x * x = 1 + d * (x * x) * (y * y)) : y * u * (y * u) - x * u * (x * u) = u * u * (1 + d * x * x * y * y) := by
  have e : y * u * (y * u) - x * u * (x * u) = u * u * (y * y - x * x) := by grind
  rw [e, h]
  grind
theorem dbl3 (d x y u : Fin N) : u * u + u * u - u * u * (1 + d * x * x * y * y) = u * u * (1 - d * x * x * y * y) := by grind
theorem dbl4 (x y u : Fin N) : x * u * (x * u) + y * u * (y * u) = u * u * (y * y + x * x) := by grind
theorem dbl5 (a b c u : Fin N) : u * u * (a * b) * (u * u * c) = a * (u * u * c * (u * u * b)) := by grind
theorem dbl6 (a b c u : Fin N) : u * u * b * (u * u * (a * c)) = a * (u * u * c * (u * u * b)) := by grind
theorem dbl7 (a b c e u : Fin N) : u * u * (a * b) * (u * u * (e * c)) = a * e * (u * u * c * (u * u * b)) := by grind
theorem rep_dbl {d i : Fin N} (hf : Full d i) {X Y Z T : Fin N} {p : Pt d} (hp : Rep X Y Z T p) :
    Rep (((X + Y) * (X + Y) - (X * X + Y * Y)) * (Z * Z + Z * Z - (Y * Y - X * X))) ((Y * Y - X * X) * (X * X + Y * Y)) ((Z * Z + Z * Z - (Y * Y - X * X)) * (Y * Y - X * X)) (((X + Y) * (X + Y) - (X * X + Y * Y)) * (X * X + Y * Y)) (p.add hf p) := by
  obtain ⟨z, rfl, rfl, rfl⟩ := hp
  have pr := hf.pr
  obtain ⟨hB, hD⟩ := full_ne hf p.on p.on
  have hu : (p.add hf p).x * (1 + d * p.x * p.x * p.y * p.y) = p.x * p.y + p.x * p.y := inv_right pr hB
  have hv : (p.add hf p).y * (1 - d * p.x * p.x * p.y * p.y) = p.y * p.y + p.x * p.x := inv_right pr hD
  have hz := mul_ne pr z z
  rw [dbl1, dbl2 Z p.on, dbl3, dbl4, ← hu, ← hv]
  exact ⟨mul_ne pr (mul_ne pr hz hD) (mul_ne pr hz hB), dbl5 _ _ _ _, dbl6 _ _ _ _, dbl7 _ _ _ _ _⟩
end
end Ed
theorem co_dbl {X Y Z T a b z h g s ss e zz f : Nat} {p : PtD} (hp : Co X Y Z T p) (ha : (X * X) % PP = a) (hb : (Y * Y) % PP = b) (hz : (Z * Z) % PP = z) (hh : (a + b) % PP = h) (hg : (b + (PP - a)) % PP = g)
    (hs : (X + Y) % PP = s) (hss : (s * s) % PP = ss) (he : (ss + (PP - h)) % PP = e) (hzz : (z + z) % PP = zz) (hf : (zz + (PP - g)) % PP = f) :
    Co ((e * f) % PP) ((g * h) % PP) ((f * g) % PP) ((e * h) % PP) (padd p p) := by
  refine ⟨mod_lt_PP _, mod_lt_PP _, mod_lt_PP _, mod_lt_PP _, ?_⟩
  have r := Ed.rep_dbl F25519.full hp.rep
  have la : a < PP := by rw [← ha]; exact mod_lt_PP _
  have lh : h < PP := by rw [← hh]; exact mod_lt_PP _
  have lg : g < PP := by rw [← hg]; exact mod_lt_PP _
  have ea : F25519.c a = F25519.c X * F25519.c X := by rw [← ha, c_prod]
  have eb : F25519.c b = F25519.c Y * F25519.c Y := by rw [← hb, c_prod]
  have ez : F25519.c z = F25519.c Z * F25519.c Z := by rw [← hz, c_prod]
  have eh : F25519.c h = F25519.c X * F25519.c X + F25519.c Y * F25519.c Y := by rw [← hh, c_plus, ea, eb]
  have eg : F25519.c g = F25519.c Y * F25519.c Y - F25519.c X * F25519.c X := by rw [← hg, c_less la, ea, eb]
  have ee : F25519.c e = (F25519.c X + F25519.c Y) * (F25519.c X + F25519.c Y) - (F25519.c X * F25519.c X + F25519.c Y * F25519.c Y) := by rw [← he, c_less lh, ← hss, c_prod, ← hs, c_plus, eh]
  have ef : F25519.c f = F25519.c Z * F25519.c Z + F25519.c Z * F25519.c Z - (F25519.c Y * F25519.c Y - F25519.c X * F25519.c X) := by rw [← hf, c_less lg, ← hzz, c_plus, ez, eg]
  rw [c_prod, c_prod, c_prod, c_prod, ee, ef, eg, eh]
  exact r
theorem twice_mod (x d m : Nat) : (x * ((d + d) % m)) % m = ((x * d) % m + (x * d) % m) % m := by
  rw [← Nat.add_mod, Nat.mul_mod, Nat.mod_mod, ← Nat.mul_mod, Nat.mul_add]
theorem twice_mod2 (x d m : Nat) : ((x + x) % m * d) % m = ((x * d) % m + (x * d) % m) % m := by
  rw [← Nat.add_mod, Nat.mul_mod, Nat.mod_mod, ← Nat.mul_mod, Nat.add_mul]
theorem co_add2 {X1 Y1 Z1 T1 X2 Y2 Z2 T2 A B t c C z D E F G H : Nat} {p q : PtD} (h1 : Co X1 Y1 Z1 T1 p) (h2 : Co X2 Y2 Z2 T2 q)
    (hA : ((Y1 + (PP - X1)) % PP * ((Y2 + (PP - X2)) % PP)) % PP = A) (hB : ((Y1 + X1) % PP * ((Y2 + X2) % PP)) % PP = B)
    (ht : (T1 * T2) % PP = t) (hc : (t * edN) % PP = c) (hC : (c + c) % PP = C) (hz : (Z1 * Z2) % PP = z) (hD : (z + z) % PP = D)
    (hE : (B + (PP - A)) % PP = E) (hF : (D + (PP - C)) % PP = F) (hG : (D + C) % PP = G) (hH : (B + A) % PP = H) :
    Co ((E * F) % PP) ((G * H) % PP) ((F * G) % PP) ((E * H) % PP) (padd p q) :=
  co_add h1 h2 hA hB (by rw [ht, twice_mod, hc, hC]) (by rw [twice_mod2, hz, hD]) hE hF hG hH

/-- four numbers that stand for a point, or the zero value -/
def Pq (X Y Z T : Nat) (p : PtD) : Prop := Co X Y Z T p ∨ (X = 0 ∧ Y = 0 ∧ Z = 0 ∧ T = 0 ∧ p = pzero)
theorem co_zne {X Y Z T : Nat} {p : PtD} (h : Co X Y Z T p) : ¬ Z = 0 := fun e => h.rep.z (by rw [e]; rfl)
theorem Pq.no {X Y Z T : Nat} {p : PtD} (h : Pq X Y Z T p) (hz : ¬ Z = 0) : Co X Y Z T p := h.elim id fun e => absurd e.2.2.1 hz
theorem Pq.yes {X Y Z T : Nat} {p : PtD} (h : Pq X Y Z T p) (hz : Z = 0) : p = pzero := h.elim (fun e => absurd hz (co_zne e)) fun e => e.2.2.2.2
theorem pq_zero : Pq 0 0 0 0 pzero := .inr ⟨rfl, rfl, rfl, rfl, rfl⟩
theorem neg0 (m : Nat) : (m - 0) % m = 0 := by rw [Nat.sub_zero, Nat.mod_self]
theorem sub0 (m : Nat) : (0 + (m - 0)) % m = 0 := by rw [Nat.zero_add, neg0]
theorem pneg_zero : Ed.Pt.neg pzero = pzero := Ed.Pt.ext_ (by show -(0 : Fin F25519.P) = 0; grind) rfl
theorem pq_neg {X Y Z T : Nat} {p : PtD} (h : Pq X Y Z T p) : Pq ((PP - X) % PP) Y Z ((PP - T) % PP) p.neg := by
  rcases h with h | ⟨rfl, rfl, rfl, rfl, rfl⟩
  · exact .inl (co_neg h)
  · rw [neg0, pneg_zero]; exact pq_zero
theorem pq_dbl {X Y Z T a b z h g s ss e zz f : Nat} {p : PtD} (hp : Pq X Y Z T p) (ha : (X * X) % PP = a) (hb : (Y * Y) % PP = b) (hz : (Z * Z) % PP = z) (hh : (a + b) % PP = h) (hg : (b + (PP - a)) % PP = g)
    (hs : (X + Y) % PP = s) (hss : (s * s) % PP = ss) (he : (ss + (PP - h)) % PP = e) (hzz : (z + z) % PP = zz) (hf : (zz + (PP - g)) % PP = f) :
    Pq ((e * f) % PP) ((g * h) % PP) ((f * g) % PP) ((e * h) % PP) (padd p p) := by
  rcases hp with hp | ⟨rfl, rfl, rfl, rfl, rfl⟩
  · exact .inl (co_dbl hp ha hb hz hh hg hs hss he hzz hf)
  · rw [Nat.zero_mul, Nat.zero_mod] at ha hb hz
    subst ha hb hz
    rw [sub0] at hg
    rw [Nat.zero_add, Nat.zero_mod] at hh hs hzz
    subst hg hh hs hzz
    rw [Nat.zero_mul, Nat.zero_mod] at hss
    subst hss
    rw [sub0] at he hf
    subst he hf
    rw [Nat.zero_mul, Nat.zero_mod]
    refine .inr ⟨rfl, rfl, rfl, rfl, ?_⟩
    exact Ed.Pt.zero_add (hf := F25519.full) pzero
/-- the bytes of d, of the base point's x and y -/
def bD : List UInt8 := [0xa3, 0x78, 0x59, 0x13, 0xca, 0x4d, 0xeb, 0x75, 0xab, 0xd8, 0x41, 0x41, 0x4d, 0x0a, 0x70, 0x00, 0x98, 0xe8, 0x79, 0x77, 0x79, 0x40, 0xc7, 0x8c, 0x73, 0xfe, 0x6f, 0x2b, 0xee, 0x6c, 0x03, 0x52]
def bBX : List UInt8 := [0x1a, 0xd5, 0x25, 0x8f, 0x60, 0x2d, 0x56, 0xc9, 0xb2, 0xa7, 0x25, 0x95, 0x60, 0xc7, 0x2c, 0x69, 0x5c, 0xdc, 0xd6, 0xfd, 0x31, 0xe2, 0xa4, 0xc0, 0xfe, 0x53, 0x6e, 0xcd, 0xd3, 0x36, 0x69, 0x21]
def bBY : List UInt8 := [0x58, 0x66, 0x66, 0x66, 0x66, 0x66, 0x66, 0x66, 0x66, 0x66, 0x66, 0x66, 0x66, 0x66, 0x66, 0x66, 0x66, 0x66, 0x66, 0x66, 0x66, 0x66, 0x66, 0x66, 0x66, 0x66, 0x66, 0x66, 0x66, 0x66, 0x66, 0x66]
theorem bD_len : bD.length = 32 := rfl
theorem bBX_len : bBX.length = 32 := rfl
theorem bBY_len : bBY.length = 32 := rfl
theorem edN_val : edN = F25519.dV.val := by
  have h := congrArg Fin.val c_edN
  rwa [c_valP edN_lt] at h
theorem bD_fe : feN bD = edN := by
  rw [edN_val]
  show feN bD = 37095705934669439343138083508754565189542113879843219016388785533085940283555
  decide +kernel
theorem bBX_fe : feN bBX = F25519.bX := by decide +kernel
theorem bBY_fe : feN bBY = F25519.bY := by decide +kernel
end Go.Proofs.Ytfejabfmhddepaa

