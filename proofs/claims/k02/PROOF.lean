import PyProof.Rows.All
import HandS.Base
import HandS.Call
import HandS.List
import HandS.Comp
import HandS.Dict
import HandS.Iter
import HandS.Words
import HandS.Walk
import HandS.Zip
import HandS.TupAny
import HandS.TupMul
import HandS.Ends
import HandS.Conv
import PyProof.Rows.FactsT1
import PyProof.ReprRoads
import PyProof.Rows.RegFStrParts
import KE.KDictDisplayH
import HandS.SetFor
import HandS.Strs
import KE.KRevSl
import KE.SortData
import HandS.SortInts
import HandS.Deep
import HandS.Style
import KE.KIndexOf
import HandS.ReCall
import KE.GoesMore
import KE.GoesEnum
import PySem.Challenge.RW_patchrooms_k02_whole_columns_led_back
set_option Elab.async false
set_option linter.all false
set_option maxRecDepth 100000
/-! Mi: a second floor over the hand layer: what expressions and statements do to plain data. -/
namespace Mi
open PySem PySem.Spec L2

abbrev D := PyData
abbrev SD := List (Option D)

/-! ### data in the heap -/
/-- a list that belongs to the written part -/
def Kw (K : PySem.W.Frag) (a : Addr) (xs : List V) : Prop := ∀ H : Hp, SqL K H a xs

/-- a tuple that is known to have no dict of its own -/
def TupH (H : Hp) (a : Addr) (xs : List V) : Prop := ∃ o : Obj, H a = some (.frz o (.tup xs)) ∧ o.dict = none
/-- the sign of a tuple of which that is not known -/
abbrev wk (ds : List D) : D := .dict [(.bool true, .tuple ds)]
mutual
inductive Rp (K : PySem.W.Frag) (P : Addr → Prop) (H : Hp) : V → D → Prop
  | non : Rp K P H .non .none
  | bl (b : Bool) : Rp K P H (.bl b) (.bool b)
  | int (i : Int) : Rp K P H (.int i) (.int i)
  | str (x : Str) : Rp K P H (.str x) (.str x)
  | lst {a : Addr} {xs : List V} {ds : List D} : P a → Rd H a (.lst xs) → RpA K P H xs ds → Rp K P H (.ref a) (.list ds)
  | klst {a : Addr} {xs : List V} {ds : List D} : Kw K a xs → RpA K P H xs ds → Rp K P H (.ref a) (.list ds)
  | tup {a : Addr} {xs : List V} {ds : List D} : TupH H a xs → RpA K P H xs ds → Rp K P H (.ref a) (.tuple ds)
  | wtup {a : Addr} {xs : List V} {ds : List D} : H a = some (.tup xs) → RpA K P H xs ds → Rp K P H (.ref a) (.dict [(.bool true, .tuple ds)])
inductive RpA (K : PySem.W.Frag) (P : Addr → Prop) (H : Hp) : List V → List D → Prop
  | nil : RpA K P H [] []
  | cons {v : V} {vs : List V} {d : D} {ds : List D} : Rp K P H v d → RpA K P H vs ds → RpA K P H (v :: vs) (d :: ds)
end

/-- what H' does not have, H has not -/
def Grows (H H' : Hp) : Prop := ∀ b, H' b = none → H b = none
/-- all that W does not hold, and all that is never written, stays; nothing is lost -/
structure Ext (W : Addr → Prop) (H H' : Hp) : Prop where
  k : ∀ b o, H b = some o → (W b → ¬ Mut (some o)) → H' b = some o
  g : Grows H H'
theorem Ext.refl (W : Addr → Prop) (H : Hp) : Ext W H H := ⟨fun _ _ h _ => h, fun _ h => h⟩
theorem Ext.trans {W : Addr → Prop} {H H1 H2 : Hp} (a : Ext W H H1) (b : Ext W H1 H2) : Ext W H H2 := ⟨fun c o h n => b.k c o (a.k c o h n) n, fun c h => a.g c (b.g c h)⟩
theorem Ext.weak {W W' : Addr → Prop} {H H' : Hp} (e : Ext W H H') (h : ∀ b, W b → W' b) : Ext W' H H' := ⟨fun b o q n => e.k b o q fun w => n (h b w), e.g⟩
theorem Same.ext {W : Addr → Prop} {H H' : Hp} (s : Same H H') : Ext W H H' := ⟨fun b o e _ => s b o e, fun _ h => Same.free s h⟩
theorem same_new {H : Hp} {p : Addr} {o : HO} (h : H p = none) : Same H (upd H p o) := fun b u e => by
  rw [upd_ne (ne_of_none e h)]; exact e
theorem Ext.new {W : Addr → Prop} {H : Hp} {p : Addr} {o : HO} (h : H p = none) : Ext W H (upd H p o) := Same.ext (same_new h)
theorem Ext.write {W : Addr → Prop} {H : Hp} {p : Addr} {o : HO} (h : W p) (m : Mut (H p)) : Ext W H (upd H p o) := ⟨fun b u e n => by
    by_cases q : b = p
    · subst q
      rw [e] at m
      exact absurd m (n h)
    · rw [upd_ne q]; exact e, fun b e => by
    by_cases q : b = p
    · subst q; rw [upd_same] at e; cases e
    · rw [upd_ne q] at e; exact e⟩
section
variable {K : PySem.W.Frag} {P P' W : Addr → Prop} {H H' : Hp}
theorem rd_ext (e : Ext W H H') {a : Addr} {xs : List V} (n : ¬ W a) (r : Rd H a (.lst xs)) : Rd H' a (.lst xs) := by
  rcases r with r | ⟨o, r⟩
  · exact .inl (e.k _ _ r fun w => absurd w n)
  · exact .inr ⟨o, e.k _ _ r fun w => absurd w n⟩
theorem sqT_ext (e : Ext W H H') {a : Addr} {xs : List V} (r : SqT K H a xs) : SqT K H' a xs := by
  rcases r with (r | ⟨o, r⟩) | r
  · exact .inl (.inl (e.k _ _ r fun _ z => z))
  · exact .inl (.inr ⟨o, e.k _ _ r fun _ z => z⟩)
  · exact .inr r
theorem tupH_ext (e : Ext W H H') {a : Addr} {xs : List V} (r : TupH H a xs) : TupH H' a xs := let ⟨o, q, d⟩ := r; ⟨o, e.k _ _ q fun _ z => z, d⟩
theorem TupH.sq {a : Addr} {xs : List V} (r : TupH H a xs) : SqT K H a xs := let ⟨o, q, _⟩ := r; .inl (.inr ⟨o, q⟩)
theorem TupH.ne {a : Addr} {xs : List V} (r : TupH H a xs) : H a ≠ none := fun z => by
  obtain ⟨o, q, _⟩ := r
  rw [q] at z; cases z
mutual
theorem Rp.ext (e : Ext W H H') (h : ∀ b, W b → ¬ P b) : ∀ {d : D} {v : V}, Rp K P H v d → Rp K P H' v d
  | .none, _, r => by cases r; exact .non
  | .bool b, _, r => by cases r; exact .bl b
  | .int i, _, r => by cases r; exact .int i
  | .str x, _, r => by cases r; exact .str x
  | .list ds, _, r => by
    cases r with
    | lst p q r => exact .lst p (rd_ext e (fun w => h _ w p) q) (RpA.ext e h r)
    | klst q r => exact .klst q (RpA.ext e h r)
  | .tuple ds, _, r => by
    cases r with
    | tup q r => exact .tup (tupH_ext e q) (RpA.ext e h r)
  | .dict _, _, r => by
    cases r with
    | wtup q r => exact .wtup (e.k _ _ q fun _ z => z) (RpA.ext e h r)
theorem RpA.ext (e : Ext W H H') (h : ∀ b, W b → ¬ P b) : ∀ {ds : List D} {vs : List V}, RpA K P H vs ds → RpA K P H' vs ds
  | [], _, r => by cases r; exact .nil
  | d :: ds, _, r => by
    cases r with
    | cons r1 r2 => exact .cons (Rp.ext e h r1) (RpA.ext e h r2)
end
mutual
theorem Rp.mono (h : ∀ b, P b → P' b) : ∀ {d : D} {v : V}, Rp K P H v d → Rp K P' H v d
  | .none, _, r => by cases r; exact .non
  | .bool b, _, r => by cases r; exact .bl b
  | .int i, _, r => by cases r; exact .int i
  | .str x, _, r => by cases r; exact .str x
  | .list ds, _, r => by
    cases r with
    | lst p q r => exact .lst (h _ p) q (RpA.mono h r)
    | klst q r => exact .klst q (RpA.mono h r)
  | .tuple ds, _, r => by
    cases r with
    | tup q r => exact .tup q (RpA.mono h r)
  | .dict _, _, r => by
    cases r with
    | wtup q r => exact .wtup q (RpA.mono h r)
theorem RpA.mono (h : ∀ b, P b → P' b) : ∀ {ds : List D} {vs : List V}, RpA K P H vs ds → RpA K P' H vs ds
  | [], _, r => by cases r; exact .nil
  | d :: ds, _, r => by
    cases r with
    | cons r1 r2 => exact .cons (Rp.mono h r1) (RpA.mono h r2)
end
mutual
theorem Rp.trk : ∀ {d : D} {v : V}, Rp K P H v d → Rp K (fun b => P b ∧ H b ≠ none) H v d
  | .none, _, r => by cases r; exact .non
  | .bool b, _, r => by cases r; exact .bl b
  | .int i, _, r => by cases r; exact .int i
  | .str x, _, r => by cases r; exact .str x
  | .list ds, _, r => by
    cases r with
    | lst q s r =>
      refine .lst ⟨q, fun z => ?_⟩ s (RpA.trk r)
      rcases s with s | ⟨o, s⟩
      · rw [s] at z; cases z
      · rw [s] at z; cases z
    | klst q r => exact .klst q (RpA.trk r)
  | .tuple ds, _, r => by
    cases r with
    | tup q r => exact .tup q (RpA.trk r)
  | .dict _, _, r => by
    cases r with
    | wtup q r => exact .wtup q (RpA.trk r)
theorem RpA.trk : ∀ {ds : List D} {vs : List V}, RpA K P H vs ds → RpA K (fun b => P b ∧ H b ≠ none) H vs ds
  | [], _, r => by cases r; exact .nil
  | d :: ds, _, r => by
    cases r with
    | cons r1 r2 => exact .cons (Rp.trk r1) (RpA.trk r2)
end
theorem Rp.off {p : Addr} (h : H p = none) {d : D} {v : V} (r : Rp K P H v d) : Rp K (fun b => P b ∧ b ≠ p) H v d := r.trk.mono fun b z => ⟨z.1, fun e => z.2 (e ▸ h)⟩
theorem RpA.off {p : Addr} (h : H p = none) {ds : List D} {vs : List V} (r : RpA K P H vs ds) : RpA K (fun b => P b ∧ b ≠ p) H vs ds := r.trk.mono fun b z => ⟨z.1, fun e => z.2 (e ▸ h)⟩
mutual
/-- no list within -/
def imm : D → Bool
  | .none => true
  | .bool _ => true
  | .int _ => true
  | .str _ => true
  | .list _ => false
  | .tuple ds => immA ds
  | .dict [(.bool true, .tuple ds)] => immA ds
  | .dict _ => false
def immA : List D → Bool
  | [] => true
  | d :: ds => imm d && immA ds
end
mutual
theorem Rp.imm : ∀ {d : D} {v : V}, imm d = true → Rp K P H v d → Rp K P' H v d
  | .none, _, _, r => by cases r; exact .non
  | .bool b, _, _, r => by cases r; exact .bl b
  | .int i, _, _, r => by cases r; exact .int i
  | .str x, _, _, r => by cases r; exact .str x
  | .list ds, _, h, r => by unfold Mi.imm at h; cases h
  | .tuple ds, _, h, r => by
    unfold Mi.imm at h
    cases r with
    | tup q r => exact .tup q (RpA.imm h r)
  | .dict _, _, h, r => by
    cases r with
    | wtup q r =>
      unfold Mi.imm at h
      exact .wtup q (RpA.imm h r)
theorem RpA.imm : ∀ {ds : List D} {vs : List V}, immA ds = true → RpA K P H vs ds → RpA K P' H vs ds
  | [], _, _, r => by cases r; exact .nil
  | d :: ds, _, h, r => by
    unfold immA at h
    obtain ⟨h1, h2⟩ := Bool.and_eq_true_iff.mp h
    cases r with
    | cons r1 r2 => exact .cons (Rp.imm h1 r1) (RpA.imm h2 r2)
end
mutual
/-- the data itself, without the sign -/
def un : D → D
  | .none => .none
  | .bool b => .bool b
  | .int i => .int i
  | .str x => .str x
  | .list ds => .list (unA ds)
  | .tuple ds => .tuple (unA ds)
  | .dict [(.bool true, .tuple ds)] => .tuple (unA ds)
  | .dict kvs => .dict kvs
def unA : List D → List D
  | [] => []
  | d :: ds => un d :: unA ds
end
mutual
theorem Rp.dp : ∀ {d : D} {v : V}, Rp K P H v d → Dp K H v (un d)
  | .none, _, r => by cases r; unfold un; exact .non
  | .bool b, _, r => by cases r; unfold un; exact .bl b
  | .int i, _, r => by cases r; unfold un; exact .int i
  | .str x, _, r => by cases r; unfold un; exact .str x
  | .list ds, _, r => by
    unfold un
    cases r with
    | lst q s r => exact .lst (.inl s) (RpA.dp r)
    | klst q r => exact .lst (q H) (RpA.dp r)
  | .tuple ds, _, r => by
    unfold un
    cases r with
    | tup q r => exact .tup q.sq (RpA.dp r)
  | .dict _, _, r => by
    cases r with
    | wtup q r =>
      unfold un
      exact .tup (.inl (.inl q)) (RpA.dp r)
theorem RpA.dp : ∀ {ds : List D} {vs : List V}, RpA K P H vs ds → DpAll K H vs (unA ds)
  | [], _, r => by cases r; unfold unA; exact .nil
  | d :: ds, _, r => by
    cases r with
    | cons r1 r2 =>
      unfold unA
      exact .cons (Rp.dp r1) (RpA.dp r2)
end
theorem RpA.len : ∀ {ds : List D} {vs : List V}, RpA K P H vs ds → vs.length = ds.length
  | [], _, r => by cases r; rfl
  | d :: ds, _, r => by
    cases r with
    | cons r1 r2 => simp only [List.length_cons, RpA.len r2]
theorem RpA.get : ∀ {ds : List D} {vs : List V} {i : Nat} {d : D}, RpA K P H vs ds → ds[i]? = some d → ∃ v, vs[i]? = some v ∧ Rp K P H v d
  | [], _, _, _, r, h => by cases r; simp at h
  | d :: ds, _, 0, e, r, h => by
    cases r with
    | cons r1 r2 =>
      simp only [List.getElem?_cons_zero, Option.some.injEq] at h
      subst h
      exact ⟨_, rfl, r1⟩
  | d :: ds, _, i + 1, e, r, h => by
    cases r with
    | cons r1 r2 =>
      simp only [List.getElem?_cons_succ] at h
      obtain ⟨v, h1, h2⟩ := RpA.get r2 h
      exact ⟨v, by simpa using h1, h2⟩
theorem RpA.get' : ∀ {ds : List D} {vs : List V} {i : Nat} {v : V}, RpA K P H vs ds → vs[i]? = some v → ∃ d, ds[i]? = some d ∧ Rp K P H v d
  | [], _, _, _, r, h => by cases r; simp at h
  | d :: ds, _, 0, e, r, h => by
    cases r with
    | cons r1 r2 =>
      simp only [List.getElem?_cons_zero, Option.some.injEq] at h
      subst h
      exact ⟨_, rfl, r1⟩
  | d :: ds, _, i + 1, e, r, h => by
    cases r with
    | cons r1 r2 =>
      simp only [List.getElem?_cons_succ] at h
      obtain ⟨v, h1, h2⟩ := RpA.get' r2 h
      exact ⟨v, by simpa using h1, h2⟩
theorem RpA.append : ∀ {ds es : List D} {vs ws : List V}, RpA K P H vs ds → RpA K P H ws es → RpA K P H (vs ++ ws) (ds ++ es)
  | [], _, _, _, r, s => by cases r; exact s
  | d :: ds, _, _, _, r, s => by
    cases r with
    | cons r1 r2 => exact .cons r1 (RpA.append r2 s)
theorem RpA.take : ∀ (n : Nat) {ds : List D} {vs : List V}, RpA K P H vs ds → RpA K P H (vs.take n) (ds.take n)
  | 0, _, _, r => by simp; exact .nil
  | n + 1, [], _, r => by cases r; exact .nil
  | n + 1, d :: ds, _, r => by
    cases r with
    | cons r1 r2 => exact .cons r1 (RpA.take n r2)
theorem RpA.drop : ∀ (n : Nat) {ds : List D} {vs : List V}, RpA K P H vs ds → RpA K P H (vs.drop n) (ds.drop n)
  | 0, _, _, r => by simpa using r
  | n + 1, [], _, r => by cases r; exact .nil
  | n + 1, d :: ds, _, r => by
    cases r with
    | cons r1 r2 => exact RpA.drop n r2
theorem RpA.set : ∀ (n : Nat) {ds : List D} {vs : List V} {v : V} {d : D}, RpA K P H vs ds → Rp K P H v d → RpA K P H (vs.set n v) (ds.set n d)
  | _, [], _, _, _, r, _ => by cases r; exact .nil
  | 0, d :: ds, _, _, _, r, s => by
    cases r with
    | cons r1 r2 => exact .cons s r2
  | n + 1, d :: ds, _, _, _, r, s => by
    cases r with
    | cons r1 r2 => exact .cons r1 (RpA.set n r2 s)
theorem RpA.reverse {ds : List D} {vs : List V} (r : RpA K P H vs ds) : RpA K P H vs.reverse ds.reverse := by
  induction ds generalizing vs with
  | nil => cases r; exact .nil
  | cons d ds ih =>
    cases r with
    | cons r1 r2 =>
      rw [List.reverse_cons, List.reverse_cons]
      exact (ih r2).append (.cons r1 .nil)
end

/-! ### what a slot owns -/
/-- keys of owned dicts -/
def keyD : Key → D
  | .inl i => .int i
  | .inr x => .str x
inductive KvA (K : PySem.W.Frag) (P : Addr → Prop) (H : Hp) : List (Key × V) → List (D × D) → Prop
  | nil : KvA K P H [] []
  | cons {k : Key} {v : V} {d : D} {kvs : List (Key × V)} {r : List (D × D)} : Rp K P H v d → KvA K P H kvs r → KvA K P H ((k, v) :: kvs) ((keyD k, d) :: r)
/-- keys that are tuples -/
inductive KtA (K : PySem.W.Frag) (P : Addr → Prop) (H : Hp) : List (List Key × V) → List (D × D) → Prop
  | nil : KtA K P H [] []
  | cons {k : List Key} {v : V} {d : D} {kvs : List (List Key × V)} {r : List (D × D)} : Rp K P H v d → KtA K P H kvs r → KtA K P H ((k, v) :: kvs) ((.tuple (k.map keyD), d) :: r)
inductive Ow (K : PySem.W.Frag) (P : Addr → Prop) (H : Hp) : Addr → D → Prop
  | lst {a : Addr} {xs : List V} {ds : List D} : H a = some (.lst xs) → RpA K P H xs ds → Ow K P H a (.list ds)
  | dct {a : Addr} {kvs : List (Key × V)} {r : List (D × D)} : H a = some (.dK kvs) → KvA K P H kvs r → Ow K P H a (.dict r)
  | dtt {a : Addr} {kvs : List (List Key × V)} {r : List (D × D)} : H a = some (.dT kvs) → KtA K P H kvs r → Ow K P H a (.dict ((.none, .none) :: r))
section
variable {K : PySem.W.Frag} {P P' W : Addr → Prop} {H H' : Hp}
theorem KvA.ext (e : Ext W H H') (h : ∀ b, W b → ¬ P b) {kvs : List (Key × V)} {r : List (D × D)} (q : KvA K P H kvs r) : KvA K P H' kvs r := by
  induction q with
  | nil => exact .nil
  | cons a _ ih => exact .cons (a.ext e h) ih
theorem KvA.mono (h : ∀ b, P b → P' b) {kvs : List (Key × V)} {r : List (D × D)} (q : KvA K P H kvs r) : KvA K P' H kvs r := by
  induction q with
  | nil => exact .nil
  | cons a _ ih => exact .cons (a.mono h) ih
theorem KvA.off {p : Addr} (h : H p = none) {kvs : List (Key × V)} {r : List (D × D)} (q : KvA K P H kvs r) : KvA K (fun b => P b ∧ b ≠ p) H kvs r := by
  induction q with
  | nil => exact .nil
  | cons a _ ih => exact .cons (a.off h) ih
theorem KtA.ext (e : Ext W H H') (h : ∀ b, W b → ¬ P b) {kvs : List (List Key × V)} {r : List (D × D)} (q : KtA K P H kvs r) : KtA K P H' kvs r := by
  induction q with
  | nil => exact .nil
  | cons a _ ih => exact .cons (a.ext e h) ih
theorem KtA.mono (h : ∀ b, P b → P' b) {kvs : List (List Key × V)} {r : List (D × D)} (q : KtA K P H kvs r) : KtA K P' H kvs r := by
  induction q with
  | nil => exact .nil
  | cons a _ ih => exact .cons (a.mono h) ih
theorem KtA.off {p : Addr} (h : H p = none) {kvs : List (List Key × V)} {r : List (D × D)} (q : KtA K P H kvs r) : KtA K (fun b => P b ∧ b ≠ p) H kvs r := by
  induction q with
  | nil => exact .nil
  | cons a _ ih => exact .cons (a.off h) ih
theorem KtA.trk {kvs : List (List Key × V)} {r : List (D × D)} (q : KtA K P H kvs r) : KtA K (fun b => P b ∧ H b ≠ none) H kvs r := by
  induction q with
  | nil => exact .nil
  | cons a _ ih => exact .cons a.trk ih
theorem KvA.nw {kvs : List (Key × V)} {r : List (D × D)} (q : KvA K P H kvs r) (ds : List D) : r ≠ [(.bool true, .tuple ds)] := fun e => by
  subst e
  generalize eq : (PyData.bool true, PyData.tuple ds) :: [] = l at q
  cases q with
  | nil => cases eq
  | @cons k v d kvs r a b =>
    cases k with
    | inl i => cases eq
    | inr x => cases eq
theorem Ow.mono (h : ∀ b, P b → P' b) {a : Addr} {d : D} (q : Ow K P H a d) : Ow K P' H a d := by
  cases q with
  | lst e r => exact .lst e (r.mono h)
  | dct e r => exact .dct e (r.mono h)
  | dtt e r => exact .dtt e (r.mono h)
theorem KvA.trk {kvs : List (Key × V)} {r : List (D × D)} (q : KvA K P H kvs r) : KvA K (fun b => P b ∧ H b ≠ none) H kvs r := by
  induction q with
  | nil => exact .nil
  | cons a _ ih => exact .cons a.trk ih
theorem Ow.trk {a : Addr} {d : D} (q : Ow K P H a d) : Ow K (fun b => P b ∧ H b ≠ none) H a d := by
  cases q with
  | lst e r => exact .lst e r.trk
  | dct e r => exact .dct e r.trk
  | dtt e r => exact .dtt e r.trk
theorem Ow.off {p : Addr} (h : H p = none) {a : Addr} {d : D} (q : Ow K P H a d) : Ow K (fun b => P b ∧ b ≠ p) H a d := by
  cases q with
  | lst e r => exact .lst e (r.off h)
  | dct e r => exact .dct e (r.off h)
  | dtt e r => exact .dtt e (r.off h)
/-- carried to a heap that has the very object still -/
theorem Ow.keep (e : Ext W H H') (h : ∀ b, W b → ¬ P b) {a : Addr} {d : D} (q : Ow K P H a d) (s : ∀ o, H a = some o → H' a = some o) : Ow K P H' a d := by
  cases q with
  | lst c r => exact .lst (s _ c) (r.ext e h)
  | dct c r => exact .dct (s _ c) (r.ext e h)
  | dtt c r => exact .dtt (s _ c) (r.ext e h)
theorem Ow.there {a : Addr} {d : D} (q : Ow K P H a d) : ∃ o, H a = some o ∧ Mut (some o) := by
  cases q with
  | lst c r => exact ⟨_, c, trivial⟩
  | dct c r => exact ⟨_, c, trivial⟩
  | dtt c r => exact ⟨_, c, trivial⟩
end
end Mi
set_option Elab.async false
set_option linter.all false
set_option maxRecDepth 100000
namespace Mi
open PySem PySem.Spec L2

def Wr (own : List Nat) (σ : L2.St) (b : Addr) : Prop := ∃ i, i ∈ own ∧ σ[i]? = some (some (.ref b))

structure Gd (K : PySem.W.Frag) (own : List Nat) (P : Addr → Prop) (σd : SD) (σ : L2.St) (H : Hp) : Prop where
  len : σd.length = σ.length
  fresh : ∀ b, H b = none → P b
  nw : ∀ b, Wr own σ b → ¬ P b
  shr : ∀ i d, i ∉ own → σd[i]? = some (some d) → ∃ v, σ[i]? = some (some v) ∧ Rp K P H v d
  ows : ∀ i, i ∈ own → ∀ v, σ[i]? = some (some v) → ∃ a d, v = .ref a ∧ σd[i]? = some (some d) ∧ Ow K P H a d
  owd : ∀ i d, i ∈ own → σd[i]? = some (some d) → ∃ a, σ[i]? = some (some (.ref a))
  dj : ∀ i j a, i ∈ own → j ∈ own → σ[i]? = some (some (.ref a)) → σ[j]? = some (some (.ref a)) → i = j

section
variable {K : PySem.W.Frag} {own : List Nat} {P : Addr → Prop} {σd : SD} {σ : L2.St} {H H' : Hp}
theorem Gd.own_at (g : Gd K own P σd σ H) {i : Nat} {d : D} (hi : i ∈ own) (h : σd[i]? = some (some d)) : ∃ a, σ[i]? = some (some (.ref a)) ∧ Ow K P H a d ∧ ¬ P a := by
  obtain ⟨a, e⟩ := g.owd i d hi h
  obtain ⟨a', d', e1, e2, o⟩ := g.ows i hi _ e
  cases e1
  rw [h] at e2
  cases e2
  exact ⟨a, e, o, g.nw a ⟨i, hi, e⟩⟩
theorem Gd.wr_there (g : Gd K own P σd σ H) {b : Addr} (w : Wr own σ b) : ∃ o, H b = some o ∧ Mut (some o) := by
  obtain ⟨i, hi, e⟩ := w
  obtain ⟨a, d, e1, _, o⟩ := g.ows i hi _ e
  cases e1
  exact o.there
theorem Gd.same (g : Gd K own P σd σ H) (s : Same H H') : Gd K own P σd σ H' := by
  have ex : Ext (fun _ => False) H H' := Same.ext s
  refine ⟨g.len, fun b h => g.fresh b (Same.free s h), g.nw, fun i d hi h => ?_, fun i hi v h => ?_, g.owd, g.dj⟩
  · obtain ⟨v, e, r⟩ := g.shr i d hi h
    exact ⟨v, e, r.ext ex fun _ z => z.elim⟩
  · obtain ⟨a, d, e1, e2, o⟩ := g.ows i hi v h
    exact ⟨a, d, e1, e2, o.keep ex (fun _ z => z.elim) fun o q => s a o q⟩
/-- the slots stand apart from a new object -/
theorem Gd.off (g : Gd K own P σd σ H) {p : Addr} {o : HO} (h : H p = none) : Gd K own (fun b => P b ∧ b ≠ p) σd σ (upd H p o) := by
  have s := same_new (o := o) h
  have ex : Ext (fun _ => False) H (upd H p o) := Same.ext s
  refine ⟨g.len, fun b hb => ⟨g.fresh b (Same.free s hb), fun e => ?_⟩, fun b w z => g.nw b w z.1, fun i d hi e => ?_, fun i hi v e => ?_, g.owd, g.dj⟩
  · subst e
    rw [upd_same] at hb
    cases hb
  · obtain ⟨v, e, r⟩ := g.shr i d hi e
    exact ⟨v, e, (r.off h).ext ex fun _ z => z.elim⟩
  · obtain ⟨a, d, e1, e2, q⟩ := g.ows i hi v e
    exact ⟨a, d, e1, e2, (q.off h).keep ex (fun _ z => z.elim) fun o q => s a o q⟩
theorem Gd.wp (g : Gd K own P σd σ H) : ∀ b, Wr own σ b → ¬ P b := g.nw
end

/-! ### expressions -/
abbrev FE := SD → Option (D × SD)
def tE (K : PySem.W.Frag) (own : List Nat) (f : FE) : TE := fun σ H Q => ∃ (P : Addr → Prop) (σd : SD) (d : D) (σd' : SD), Gd K own P σd σ H ∧ f σd = some (d, σd') ∧
  ∀ v H', Gd K own P σd' σ H' → Ext (Wr own σ) H H' → Rp K P H' v d → Q v H'
structure ME (X : Cx) (own : List Nat) (e : Expr) (f : FE) : Prop where
  pe : PE X e (tE X.K own f)
/-- a new list or dict -/
def tF (K : PySem.W.Frag) (own : List Nat) (f : FE) : TE := fun σ H Q => ∃ (P : Addr → Prop) (σd : SD) (d : D) (σd' : SD), Gd K own P σd σ H ∧ f σd = some (d, σd') ∧
  ∀ a H', H a = none → Gd K own P σd' σ H' → Gd K own (fun b => P b ∧ b ≠ a) σd' σ H' → Ext (Wr own σ) H H' → Ow K (fun b => P b ∧ b ≠ a) H' a d → Q (.ref a) H'
structure MF (X : Cx) (own : List Nat) (e : Expr) (f : FE) : Prop where
  pe : PE X e (tF X.K own f)
abbrev FT := SD → Option (Bool × SD)
def tT (K : PySem.W.Frag) (own : List Nat) (f : FT) : TT := fun σ H Q => ∃ (P : Addr → Prop) (σd : SD) (b : Bool) (σd' : SD), Gd K own P σd σ H ∧ f σd = some (b, σd') ∧
  ∀ H', Gd K own P σd' σ H' → Ext (Wr own σ) H H' → Q b H'
structure MT (X : Cx) (own : List Nat) (e : Expr) (f : FT) : Prop where
  pt : PT X e (tT X.K own f)
structure MW (X : Cx) (own : List Nat) (e : Expr) (f : FT) : Prop where
  pw : PW X e (tT X.K own f)

theorem PE_imp {X : Cx} {e : Expr} {t t' : TE} (h : PE X e t) (i : ∀ σ H Q, t' σ H Q → t σ H Q) : PE X e t' := ⟨fun pins s σ H Q I q => h.run pins s σ H Q I (i σ H Q q)⟩
theorem PT_imp {X : Cx} {e : Expr} {t t' : TT} (h : PT X e t) (i : ∀ σ H Q, t' σ H Q → t σ H Q) : PT X e t' := ⟨fun pins s σ H Q I q => h.run pins s σ H Q I (i σ H Q q)⟩
theorem PW_imp {X : Cx} {e : Expr} {t t' : TT} (h : PW X e t) (i : ∀ σ H Q, t' σ H Q → t σ H Q) : PW X e t' := ⟨fun w pins s σ H Q I q => h.run w pins s σ H Q I (i σ H Q q)⟩
theorem PA_imp {X : Cx} {e : List Expr} {t t' : TA} (h : PA X e t) (i : ∀ σ H Q, t' σ H Q → t σ H Q) : PA X e t' := ⟨fun p pins s σ H Q I q => h.run p pins s σ H Q I (i σ H Q q)⟩
theorem PS_imp {X : Cx} {e : Stmt} {t t' : TS} (h : PS X e t) (i : ∀ D σ H, t' D σ H → t D σ H) : PS X e t' := ⟨fun pins s σ H D I q => h.run pins s σ H D I (i D σ H q)⟩
theorem PSs_imp {X : Cx} {e : List Stmt} {t t' : TS} (h : PSs X e t) (i : ∀ D σ H, t' D σ H → t D σ H) : PSs X e t' := ⟨fun pins s σ H D I q => h.run pins s σ H D I (i D σ H q)⟩

/-- read for a moment: data, or an owned list -/
inductive Bo (K : PySem.W.Frag) (P : Addr → Prop) (H : Hp) : V → D → Prop
  | rp {v : V} {d : D} : Rp K P H v d → Bo K P H v d
  | ow {a : Addr} {xs : List V} {ds : List D} : SqL K H a xs → RpA K P H xs ds → Bo K P H (.ref a) (.list ds)
section
variable {K : PySem.W.Frag} {P W : Addr → Prop} {H H' : Hp} {v : V}
theorem Bo.list {ds : List D} (h : Bo K P H v (.list ds)) : ∃ a xs, v = .ref a ∧ SqL K H a xs ∧ RpA K P H xs ds := by
  cases h with
  | rp r =>
    cases r with
    | lst _ s r => exact ⟨_, _, rfl, .inl s, r⟩
    | klst s r => exact ⟨_, _, rfl, s H, r⟩
  | ow s r => exact ⟨_, _, rfl, s, r⟩
theorem Bo.tupleH {ds : List D} (h : Bo K P H v (.tuple ds)) : ∃ a xs, v = .ref a ∧ TupH H a xs ∧ RpA K P H xs ds := by
  cases h with
  | rp r =>
    cases r with
    | tup s r => exact ⟨_, _, rfl, s, r⟩
theorem Bo.tuple {ds : List D} (h : Bo K P H v (.tuple ds)) : ∃ a xs, v = .ref a ∧ SqT K H a xs ∧ RpA K P H xs ds := by
  obtain ⟨a, xs, e, s, r⟩ := h.tupleH
  exact ⟨a, xs, e, s.sq, r⟩
theorem Bo.weak {ds : List D} (h : Bo K P H v (.dict [(.bool true, .tuple ds)])) : ∃ a xs, v = .ref a ∧ SqT K H a xs ∧ RpA K P H xs ds := by
  cases h with
  | rp r =>
    cases r with
    | wtup s r => exact ⟨_, _, rfl, .inl (.inl s), r⟩
theorem Bo.int {i : Int} (h : Bo K P H v (.int i)) : v = .int i := by
  cases h with
  | rp r => cases r; rfl
theorem Bo.bool {b : Bool} (h : Bo K P H v (.bool b)) : v = .bl b := by
  cases h with
  | rp r => cases r; rfl
theorem Bo.str {x : Str} (h : Bo K P H v (.str x)) : v = .str x := by
  cases h with
  | rp r => cases r; rfl
theorem Bo.dp {d : D} (h : Bo K P H v d) : Dp K H v (un d) := by
  cases h with
  | rp r => exact r.dp
  | ow s r =>
    unfold un
    exact .lst s r.dp
mutual
theorem un_lay : ∀ {d : D}, PyData.canLay0 d = true → un d = d
  | .none, _ => rfl
  | .bool _, _ => rfl
  | .int _, _ => rfl
  | .str _, _ => rfl
  | .list ds, h => by
    unfold un
    rw [unA_lay (by simpa [PyData.canLay0] using h)]
  | .tuple ds, h => by
    unfold un
    rw [unA_lay (by simpa [PyData.canLay0] using h)]
  | .dict _, h => by simp [PyData.canLay0] at h
theorem unA_lay : ∀ {ds : List D}, PyData.canLayAll0 ds = true → unA ds = ds
  | [], _ => by unfold unA; rfl
  | d :: ds, h => by
    have h := Bool.and_eq_true_iff.mp (show (PyData.canLay0 d && PyData.canLayAll0 ds) = true by simpa [PyData.canLayAll0] using h)
    unfold unA
    rw [un_lay h.1, unA_lay h.2]
end
theorem un_shaped {d : D} (h : SeqAt.shaped d = true) : un d = d := un_lay (SeqAt.canLay_of_shaped h)
theorem Bo.dps {d : D} (h : Bo K P H v d) (s : SeqAt.shaped d = true) : Dp K H v d := by
  have := h.dp
  rwa [un_shaped s] at this
end
def tBo (K : PySem.W.Frag) (own : List Nat) (f : FE) : TE := fun σ H Q => ∃ (P : Addr → Prop) (σd : SD) (d : D) (σd' : SD), Gd K own P σd σ H ∧ f σd = some (d, σd') ∧
  ∀ v H', Gd K own P σd' σ H' → Ext (Wr own σ) H H' → Bo K P H' v d → Q v H'
structure MB (X : Cx) (own : List Nat) (e : Expr) (f : FE) : Prop where
  pe : PE X e (tBo X.K own f)
theorem ME.b {X : Cx} {own : List Nat} {e : Expr} {f : FE} (h : ME X own e f) : MB X own e f := ⟨PE_imp h.pe fun σ H Q ⟨P, σd, d, σd', g, hf, q⟩ => ⟨P, σd, d, σd', g, hf, fun v H' g1 e1 r => q v H' g1 e1 (.rp r)⟩⟩
/-- how an expression's reading is used -/
theorem tE_of {K : PySem.W.Frag} {own : List Nat} {f : FE} {P : Addr → Prop} {σd σd' : SD} {d : D} {σ : L2.St} {H : Hp} {Q : VK} (g : Gd K own P σd σ H) (h : f σd = some (d, σd'))
    (q : ∀ v H', Gd K own P σd' σ H' → Ext (Wr own σ) H H' → Rp K P H' v d → Q v H') : tE K own f σ H Q := ⟨P, σd, d, σd', g, h, q⟩
theorem tT_of {K : PySem.W.Frag} {own : List Nat} {f : FT} {P : Addr → Prop} {σd σd' : SD} {d : Bool} {σ : L2.St} {H : Hp} {Q : Bool → Hp → Prop} (g : Gd K own P σd σ H) (h : f σd = some (d, σd'))
    (q : ∀ H', Gd K own P σd' σ H' → Ext (Wr own σ) H H' → Q d H') : tT K own f σ H Q := ⟨P, σd, d, σd', g, h, q⟩

section
variable {X : Cx} {own : List Nat} {pos : Pos}
/-- a new thing where any is wanted -/
def eF (f : FE) : FE := fun s => (f s).bind fun r => match r.1 with
  | .list _ => some r
  | _ => none
theorem me_fresh {e : Expr} {f : FE} (h : MF X own e f) : ME X own e (eF f) := ⟨PE_imp h.pe fun σ H Q q => by
  obtain ⟨P, σd, d, σd', g, hf, q⟩ := q
  unfold eF at hf
  obtain ⟨⟨d0, s0⟩, h1, h2⟩ := Option.bind_eq_some_iff.mp hf
  cases d0 with
  | list ds =>
    cases h2
    refine ⟨P, σd, _, _, g, h1, fun a H' na g1 _ e o => q _ _ g1 e ?_⟩
    cases o with
    | lst c r => exact .lst (g.fresh a na) (.inl c) (r.mono fun b z => z.1)
  | _ => cases h2⟩

/-! #### names, constants -/
def eVar (i : Nat) : FE := fun s => match s[i]? with
  | some (some d) => some (d, s)
  | _ => none
theorem eVar_of {i : Nat} {s s' : SD} {d : D} (h : eVar i s = some (d, s')) : s[i]? = some (some d) ∧ s' = s := by
  unfold eVar at h
  split at h
  · rename_i q
    cases h
    exact ⟨q, rfl⟩
  · cases h
theorem me_var {x : Str} {i : Nat} (h : PE X (.Name x pos) (tVar i)) (hi : i ∉ own) : ME X own (.Name x pos) (eVar i) := ⟨PE_imp h fun σ H Q q => by
  obtain ⟨P, σd, d, σd', g, hf, q⟩ := q
  obtain ⟨e, rfl⟩ := eVar_of hf
  obtain ⟨v, e1, r⟩ := g.shr i d hi e
  exact ⟨v, e1, q v H g (Ext.refl _ _) r⟩⟩
def eC (d : D) : FE := fun s => some (d, s)
theorem me_c {e : Expr} {v : V} {d : D} (h : PE X e (tC v)) (r : ∀ P H, Rp X.K P H v d) : ME X own e (eC d) := ⟨PE_imp h fun σ H Q q => by
  obtain ⟨P, σd, d, σd', g, hf, q⟩ := q
  cases hf
  exact q v H g (Ext.refl _ _) (r P H)⟩
theorem me_int {i : Int} {j} : ME X own (.Constant (.int i) j pos) (eC (.int i)) := me_c pe_int fun _ _ => .int i
theorem me_bl {b : Bool} {j} : ME X own (.Constant (.bool b) j pos) (eC (.bool b)) := me_c pe_bl fun _ _ => .bl b
theorem me_non {j} : ME X own (.Constant .none j pos) (eC .none) := me_c pe_non fun _ _ => .non
theorem me_str {x : Str} {j} : ME X own (.Constant (.str x) j pos) (eC (.str x)) := me_c pe_str fun _ _ => .str x

/-! #### operators -/
theorem mb_own {x : Str} {i : Nat} (h : PE X (.Name x pos) (tVar i)) (hi : i ∈ own) : MB X own (.Name x pos) (eF (eVar i)) := ⟨PE_imp h fun σ H Q q => by
  obtain ⟨P, σd, d, σd', g, hf, q⟩ := q
  unfold eF at hf
  obtain ⟨⟨d0, s0⟩, h1, h2⟩ := Option.bind_eq_some_iff.mp hf
  obtain ⟨e, rfl⟩ := eVar_of h1
  obtain ⟨a, e1, o, _⟩ := g.own_at hi e
  cases o with
  | lst c r =>
    cases h2
    exact ⟨_, e1, q _ H g (Ext.refl _ _) (.ow (.inl (.inl c)) r)⟩
  | dct c r => cases h2
  | dtt c r => cases h2⟩
def OpD (K : PySem.W.Frag) (r : R2) (g : D → D → Option D) : Prop := ∀ (P : Addr → Prop) (x y : V) (a b c : D) (H : Hp) (Q : VK), (∀ b, H b = none → P b) → Bo K P H x a → Bo K P H y b → g a b = some c →
  (∀ z H', Same H H' → Rp K P H' z c → Q z H') → r x y H Q
def orD (g g' : D → D → Option D) : D → D → Option D := fun a b => match g a b with
  | some c => some c
  | none => g' a b
theorem OpD.or {K : PySem.W.Frag} {r r' : R2} {g g' : D → D → Option D} (h : OpD K r g) (h' : OpD K r' g') : OpD K (fun x y H Q => r x y H Q ∨ r' x y H Q) (orD g g') := fun P x y a b c H Q f hx hy e q => by
  unfold orD at e
  split at e
  · rename_i c' e'
    cases e
    exact .inl (h P x y a b c H Q f hx hy e' q)
  · exact .inr (h' P x y a b c H Q f hx hy e q)
def eBin (g : D → D → Option D) (fa fb : FE) : FE := fun s => (fa s).bind fun a => (fb a.2).bind fun b => (g a.1 b.1).map fun c => (c, b.2)
theorem eBin_of {g : D → D → Option D} {fa fb : FE} {s s' : SD} {c : D} (h : eBin g fa fb s = some (c, s')) : ∃ a s1 b, fa s = some (a, s1) ∧ fb s1 = some (b, s') ∧ g a b = some c := by
  unfold eBin at h
  obtain ⟨⟨a, s1⟩, h1, h⟩ := Option.bind_eq_some_iff.mp h
  obtain ⟨⟨b, s2⟩, h2, h⟩ := Option.bind_eq_some_iff.mp h
  obtain ⟨c', h3, h⟩ := Option.map_eq_some_iff.mp h
  cases h
  exact ⟨a, s1, b, h1, h2, h3⟩
theorem tOp_of {r : R2} {g : D → D → Option D} {fa fb : FE} (hd : OpD X.K r g) {σ : L2.St} {H : Hp} {Q : VK} (q : tE X.K own (eBin g fa fb) σ H Q) : tOp r (tE X.K own fa) (tBo X.K own fb) σ H Q := by
  obtain ⟨P, σd, d, σd', gd, hf, q⟩ := q
  obtain ⟨a, s1, b, h1, h2, h3⟩ := eBin_of hf
  refine tE_of gd h1 fun x H1 g1 e1 r1 => ⟨P, s1, b, σd', g1, h2, fun y H2 g2 e2 r2 => hd P x y a b d H2 Q g2.fresh (.rp (r1.ext e2 g1.nw)) r2 h3 fun z H' sm rz => q z H' (g2.same sm) ((e1.trans e2).trans (Same.ext sm)) rz⟩
/-- the left one is owned: it is read when the right one has come -/
def eBinO (g : D → D → Option D) (k : Nat) (fb : FE) : FE := fun s => (eVar k s).bind fun _ => (fb s).bind fun b => (eVar k b.2).bind fun a => (g a.1 b.1).map fun c => (c, b.2)
theorem tOpO_of {r : R2} {g : D → D → Option D} {fb : FE} {k : Nat} (hk : k ∈ own) (hd : OpD X.K r g) (hg : ∀ kvs b, (∀ ds, kvs ≠ [(.bool true, .tuple ds)]) → g (.dict kvs) b = none) {σ : L2.St} {H : Hp} {Q : VK} (q : tE X.K own (eBinO g k fb) σ H Q) : tOp r (tVar k) (tBo X.K own fb) σ H Q := by
  obtain ⟨P, σd, d, σd', gd, hf, q⟩ := q
  unfold eBinO at hf
  obtain ⟨⟨a0, s0⟩, h0, hf⟩ := Option.bind_eq_some_iff.mp hf
  obtain ⟨⟨b, s1⟩, h1, hf⟩ := Option.bind_eq_some_iff.mp hf
  obtain ⟨⟨a, s2⟩, h2, hf⟩ := Option.bind_eq_some_iff.mp hf
  obtain ⟨c', h3, hf⟩ := Option.map_eq_some_iff.mp hf
  cases hf
  obtain ⟨h2, rfl⟩ := eVar_of h2
  obtain ⟨h0, _⟩ := eVar_of h0
  obtain ⟨v, ev, _, _⟩ := gd.own_at hk h0
  refine ⟨.ref v, ev, P, σd, b, s2, gd, h1, fun y H2 g2 e2 r2 => ?_⟩
  obtain ⟨a', ea, o, _⟩ := g2.own_at hk h2
  rw [ev] at ea
  cases ea
  cases o with
  | lst c r => exact hd P _ y _ b d H2 Q g2.fresh (.ow (.inl (.inl c)) r) r2 h3 fun z H' sm rz => q z H' (g2.same sm) (e2.trans (Same.ext sm)) rz
  | @dct kvs r' c r =>
    have z := hg r' b r.nw
    dsimp only at h3
    rw [h3] at z
    cases z
  | @dtt kvs r' c r =>
    have z := hg ((.none, .none) :: r') b (fun ds e => by cases e)
    dsimp only at h3
    rw [h3] at z
    cases z
theorem me_bin {op : Operator} {a b : Expr} {r : R2} {g : D → D → Option D} {fa fb : FE} (ho : OpR X (binaryOp op) r) (hd : OpD X.K r g) (ha : ME X own a fa) (hb : MB X own b fb) : ME X own (.BinOp a op b pos) (eBin g fa fb) :=
  ⟨PE_imp (pe_op ho ha.pe hb.pe) fun _ _ _ q => tOp_of hd q⟩
theorem me_cmp {op : CmpOp} {a b : Expr} {r : R2} {g : D → D → Option D} {fa fb : FE} (ho : OpR X (compareOp op) r) (hd : OpD X.K r g) (ha : ME X own a fa) (hb : MB X own b fb) (hm : behindInMarks op b = false) : ME X own (.Compare a [op] [b] pos) (eBin g fa fb) :=
  ⟨PE_imp (pe_cmpR ho ha.pe hb.pe hm) fun _ _ _ q => tOp_of hd q⟩
theorem me_cmpO {op : CmpOp} {x : Str} {p : Pos} {b : Expr} {r : R2} {g : D → D → Option D} {fb : FE} {k : Nat} (hk : k ∈ own) (hx : PE X (.Name x p) (tVar k)) (ho : OpR X (compareOp op) r) (hd : OpD X.K r g) (hg : ∀ kvs b, (∀ ds, kvs ≠ [(.bool true, .tuple ds)]) → g (.dict kvs) b = none) (hb : MB X own b fb) (hm : behindInMarks op b = false) : ME X own (.Compare (.Name x p) [op] [b] pos) (eBinO g k fb) :=
  ⟨PE_imp (pe_cmpR ho hx hb.pe hm) fun _ _ _ q => tOpO_of hk hd hg q⟩
/-! #### items -/
theorem me_ix {a b : Expr} {r : R2} {g : D → D → Option D} {fa fb : FE} (ho : IxR X r) (hd : OpD X.K r g) (ha : ME X own a fa) (hb : ME X own b fb) (hs : PlainIx b) : ME X own (.Subscript a b pos) (eBin g fa fb) :=
  ⟨PE_imp (pe_ix ho ha.pe hb.b.pe hs) fun _ _ _ q => tOp_of hd q⟩
theorem me_ixO {x : Str} {p : Pos} {b : Expr} {r : R2} {g : D → D → Option D} {fb : FE} {k : Nat} (hk : k ∈ own) (hx : PE X (.Name x p) (tVar k)) (ho : IxR X r) (hd : OpD X.K r g) (hg : ∀ kvs b, (∀ ds, kvs ≠ [(.bool true, .tuple ds)]) → g (.dict kvs) b = none) (hb : ME X own b fb) (hs : PlainIx b) : ME X own (.Subscript (.Name x p) b pos) (eBinO g k fb) :=
  ⟨PE_imp (pe_ix ho hx hb.b.pe hs) fun _ _ _ q => tOpO_of hk hd hg q⟩
/-! #### tests -/
def eTst (f : FE) : FT := fun s => (f s).bind fun r => match r.1 with
  | .bool b => some (b, r.2)
  | _ => none
theorem eTst_of {f : FE} {s s' : SD} {b : Bool} (h : eTst f s = some (b, s')) : f s = some (.bool b, s') := by
  unfold eTst at h
  obtain ⟨⟨d, s1⟩, h1, h⟩ := Option.bind_eq_some_iff.mp h
  cases d with
  | bool c => cases h; exact h1
  | _ => cases h
theorem tT_tst {f : FE} {σ : L2.St} {H : Hp} {Q : Bool → Hp → Prop} (q : tT X.K own (eTst f) σ H Q) : tE X.K own f σ H fun x H' => ∃ k, x = .bl k ∧ Q k H' := by
  obtain ⟨P, σd, d, σd', g, hf, q⟩ := q
  refine tE_of g (eTst_of hf) fun v H' g1 e1 r => ?_
  cases r
  exact ⟨d, rfl, q H' g1 e1⟩
theorem mt_val {e : Expr} {f : FE} (h : ME X own e f) (hv : PE X e (tE X.K own f) → PT X e (tB (tE X.K own f))) : MT X own e (eTst f) := ⟨PT_imp (hv h.pe) fun _ _ _ q => tT_tst q⟩
theorem mt_cmp {op : CmpOp} {a b : Expr} {r : R2} {g : D → D → Option D} {fa fb : FE} (ho : OpR X (compareOp op) r) (hd : OpD X.K r g) (ha : ME X own a fa) (hb : MB X own b fb) (hm : behindInMarks op b = false) : MT X own (.Compare a [op] [b] pos) (eTst (eBin g fa fb)) :=
  ⟨PT_imp (pt_cmpR ho ha.pe hb.pe hm) fun _ _ _ q => tOp_of hd (tT_tst q)⟩
theorem mt_cmpO {op : CmpOp} {x : Str} {p : Pos} {b : Expr} {r : R2} {g : D → D → Option D} {fb : FE} {k : Nat} (hk : k ∈ own) (hx : PE X (.Name x p) (tVar k)) (ho : OpR X (compareOp op) r) (hd : OpD X.K r g) (hg : ∀ kvs b, (∀ ds, kvs ≠ [(.bool true, .tuple ds)]) → g (.dict kvs) b = none) (hb : MB X own b fb) (hm : behindInMarks op b = false) : MT X own (.Compare (.Name x p) [op] [b] pos) (eTst (eBinO g k fb)) :=
  ⟨PT_imp (pt_cmpR ho hx hb.pe hm) fun _ _ _ q => tOpO_of hk hd hg (tT_tst q)⟩
def truD : D → Option Bool
  | .none => some false
  | .bool b => some b
  | .int i => some (i != 0)
  | .list ds => some (!ds.isEmpty)
  | .tuple ds => some (!ds.isEmpty)
  | .dict [(.bool true, .tuple ds)] => some (!ds.isEmpty)
  | _ => none
def eTru (f : FE) : FT := fun s => (f s).bind fun r => (truD r.1).map fun b => (b, r.2)
theorem truV_of {K : PySem.W.Frag} {P : Addr → Prop} {H : Hp} {v : V} {d : D} {b : Bool} (r : Bo K P H v d) (h : truD d = some b) : TruV K v H b := by
  cases d with
  | none =>
    cases r with
    | rp r => cases r; cases h; rfl
  | bool c =>
    obtain rfl := r.bool
    cases h; rfl
  | int i =>
    obtain rfl := r.int
    cases h; rfl
  | str x => cases h
  | list ds =>
    obtain ⟨a, xs, rfl, s, q⟩ := r.list
    cases h
    refine .inl ⟨xs, s, ?_⟩
    have := q.len
    cases xs <;> cases ds <;> simp at this <;> rfl
  | tuple ds =>
    obtain ⟨a, xs, rfl, s, q⟩ := r.tuple
    cases h
    refine .inr (.inl ⟨xs, s, ?_⟩)
    have := q.len
    cases xs <;> cases ds <;> simp at this <;> rfl
  | dict kvs =>
    cases r with
    | rp r =>
      cases r with
      | @wtup a xs ds s q =>
        cases h
        refine .inr (.inl ⟨xs, .inl (.inl s), ?_⟩)
        have := q.len
        cases xs <;> cases ds <;> simp at this <;> rfl
theorem mt_truth {e : Expr} {f : FE} (h : MB X own e f) (he : ∀ whole, isTrue e X.env whole = (do let v ← whole; standAt e.pos; holding [v] (truthy v))) : MT X own e (eTru f) := ⟨PT_imp (pt_truth h.pe he) fun σ H Q q => by
  obtain ⟨P, σd, d, σd', g, hf, q⟩ := q
  unfold eTru at hf
  obtain ⟨⟨d0, s1⟩, h1, hf⟩ := Option.bind_eq_some_iff.mp hf
  obtain ⟨b, h2, hf⟩ := Option.map_eq_some_iff.mp hf
  cases hf
  exact ⟨P, σd, d0, _, g, h1, fun v H' g1 e1 r => ⟨_, truV_of r h2, q H' g1 e1⟩⟩⟩
def tNt (f : FT) : FT := fun s => (f s).map fun r => (!r.1, r.2)
theorem mt_not {e : Expr} {f : FT} (h : MT X own e f) : MT X own (.UnaryOp .Not e pos) (tNt f) := ⟨PT_imp (pt_not h.pt) fun σ H Q q => by
  obtain ⟨P, σd, d, σd', g, hf, q⟩ := q
  unfold tNt at hf
  obtain ⟨⟨b, s1⟩, h1, hf⟩ := Option.map_eq_some_iff.mp hf
  cases hf
  exact tT_of g h1 fun H' g1 e1 => q H' g1 e1⟩
def tAn (f g : FT) : FT := fun s => (f s).bind fun r => if r.1 then g r.2 else some (false, r.2)
def tOrr (f g : FT) : FT := fun s => (f s).bind fun r => if r.1 then some (true, r.2) else g r.2
theorem mw_and1 {e : Expr} {f : FT} (h : MT X own e f) : MW X own (.BoolOp .And [e] pos) f := ⟨pw_and1 h.pt⟩
theorem mw_or1 {e : Expr} {f : FT} (h : MT X own e f) : MW X own (.BoolOp .Or [e] pos) f := ⟨pw_or1 h.pt⟩
theorem mw_and {a b : Expr} {r : List Expr} {f g : FT} (ha : MT X own a f) (hb : MW X own (.BoolOp .And (b :: r) pos) g) : MW X own (.BoolOp .And (a :: b :: r) pos) (tAn f g) := ⟨PW_imp (pw_and ha.pt hb.pw) fun σ H Q q => by
  obtain ⟨P, σd, d, σd', gd, hf, q⟩ := q
  unfold tAn at hf
  obtain ⟨⟨c, s1⟩, h1, hf⟩ := Option.bind_eq_some_iff.mp hf
  refine tT_of gd h1 fun H1 g1 e1 => ?_
  cases c with
  | true =>
    rw [if_pos rfl]
    exact tT_of g1 hf fun H2 g2 e2 => q H2 g2 (e1.trans e2)
  | false =>
    rw [if_neg Bool.false_ne_true]
    cases hf
    exact q H1 g1 e1⟩
theorem mw_or {a b : Expr} {r : List Expr} {f g : FT} (ha : MT X own a f) (hb : MW X own (.BoolOp .Or (b :: r) pos) g) : MW X own (.BoolOp .Or (a :: b :: r) pos) (tOrr f g) := ⟨PW_imp (pw_or ha.pt hb.pw) fun σ H Q q => by
  obtain ⟨P, σd, d, σd', gd, hf, q⟩ := q
  unfold tOrr at hf
  obtain ⟨⟨c, s1⟩, h1, hf⟩ := Option.bind_eq_some_iff.mp hf
  refine tT_of gd h1 fun H1 g1 e1 => ?_
  cases c with
  | true =>
    rw [if_pos rfl]
    cases hf
    exact q H1 g1 e1
  | false =>
    rw [if_neg Bool.false_ne_true]
    exact tT_of g1 hf fun H2 g2 e2 => q H2 g2 (e1.trans e2)⟩
theorem MW.t {e : Expr} {f : FT} (h : MW X own e f) : MT X own e f := ⟨h.pw.pt⟩
/-! conditional values, and | or | not as values -/
def eIf (c : FT) (f g : FE) : FE := fun s => (c s).bind fun r => if r.1 then f r.2 else g r.2
theorem me_if {c a b : Expr} {t : FT} {f g : FE} (hc : MT X own c t) (ha : ME X own a f) (hb : ME X own b g) : ME X own (.IfExp c a b pos) (eIf t f g) := ⟨PE_imp (pe_ifExp hc.pt ha.pe hb.pe) fun σ H Q q => by
  obtain ⟨P, σd, d, σd', gd, hf, q⟩ := q
  unfold eIf at hf
  obtain ⟨⟨c, s1⟩, h1, hf⟩ := Option.bind_eq_some_iff.mp hf
  refine tT_of gd h1 fun H1 g1 e1 => ?_
  cases c with
  | true =>
    rw [if_pos rfl]
    exact tE_of g1 hf fun v H2 g2 e2 r => q v H2 g2 (e1.trans e2) r
  | false =>
    rw [if_neg Bool.false_ne_true]
    exact tE_of g1 hf fun v H2 g2 e2 r => q v H2 g2 (e1.trans e2) r⟩
def eOfT (f : FT) : FE := fun s => (f s).map fun r => (.bool r.1, r.2)
def eAnV (f g : FE) : FE := fun s => (eTst f s).bind fun r => if r.1 then g r.2 else some (.bool false, r.2)
def eOrV (f g : FE) : FE := fun s => (eTst f s).bind fun r => if r.1 then some (.bool true, r.2) else g r.2
theorem me_one {a : Expr} {op} {f : FE} (h : ME X own a f) (h1 : PE X a (tE X.K own f) → PE X (.BoolOp op [a] pos) (tE X.K own f)) : ME X own (.BoolOp op [a] pos) f := ⟨h1 h.pe⟩
theorem me_and {a b : Expr} {r : List Expr} {f g : FE} (ha : ME X own a f) (hb : ME X own (.BoolOp .And (b :: r) pos) g) : ME X own (.BoolOp .And (a :: b :: r) pos) (eAnV f g) := ⟨PE_imp (pe_and ha.pe hb.pe) fun σ H Q q => by
  obtain ⟨P, σd, d, σd', gd, hf, q⟩ := q
  unfold eAnV at hf
  obtain ⟨⟨c, s1⟩, h1, hf⟩ := Option.bind_eq_some_iff.mp hf
  refine tE_of gd (eTst_of h1) fun v H1 g1 e1 r => ?_
  cases r
  refine ⟨c, rfl, ?_⟩
  cases c with
  | true =>
    rw [if_pos rfl]
    exact tE_of g1 hf fun v H2 g2 e2 r => q v H2 g2 (e1.trans e2) r
  | false =>
    rw [if_neg Bool.false_ne_true]
    cases hf
    exact q _ H1 g1 e1 (.bl _)⟩
theorem me_or {a b : Expr} {r : List Expr} {f g : FE} (ha : ME X own a f) (hb : ME X own (.BoolOp .Or (b :: r) pos) g) : ME X own (.BoolOp .Or (a :: b :: r) pos) (eOrV f g) := ⟨PE_imp (pe_or ha.pe hb.pe) fun σ H Q q => by
  obtain ⟨P, σd, d, σd', gd, hf, q⟩ := q
  unfold eOrV at hf
  obtain ⟨⟨c, s1⟩, h1, hf⟩ := Option.bind_eq_some_iff.mp hf
  refine tE_of gd (eTst_of h1) fun v H1 g1 e1 r => ?_
  cases r
  refine ⟨c, rfl, ?_⟩
  cases c with
  | true =>
    rw [if_pos rfl]
    cases hf
    exact q _ H1 g1 e1 (.bl _)
  | false =>
    rw [if_neg Bool.false_ne_true]
    exact tE_of g1 hf fun v H2 g2 e2 r => q v H2 g2 (e1.trans e2) r⟩
def eNotV (f : FE) : FE := fun s => (eTst f s).map fun r => (.bool (!r.1), r.2)
theorem me_not {a : Expr} {f : FE} (ha : ME X own a f) : ME X own (.UnaryOp .Not a pos) (eNotV f) := ⟨PE_imp (pe_not ha.pe) fun σ H Q q => by
  obtain ⟨P, σd, d, σd', gd, hf, q⟩ := q
  unfold eNotV at hf
  obtain ⟨⟨c, s1⟩, h1, hf⟩ := Option.map_eq_some_iff.mp hf
  cases hf
  refine tE_of gd (eTst_of h1) fun v H1 g1 e1 r => ?_
  cases r
  exact ⟨c, rfl, q _ H1 g1 e1 (.bl _)⟩⟩
end
end Mi
set_option Elab.async false
set_option linter.all false
set_option maxRecDepth 100000
set_option maxHeartbeats 4000000
namespace Mi
open PySem PySem.Spec PyProof.Rows L2

/-! ### new tuples, known to have no dict -/
abbrev tupO (us : List Value) : Obj := { cls := .type "tuple", data := .seq us.toArray }
section
variable {X : Cx} {pins : List (Addr × Obj)} {σ : L2.St} {H : Hp} {s : Shared}
theorem strong_push {xs : List V} {us : List Value} (I : Inv X pins σ H s) (r : Vals xs us) (z : xs.length ≤ sizeLine) : Inv X pins σ (upd H s.heap.objs.size (.frz (tupO us) (.tup xs))) { s with heap := s.heap.push (tupO us) } :=
  I.laid (t' := s.toks) (o := .frz (tupO us) (.tup xs)) (fun _ _ q => Heap.get?_push_of_some _ q) (Nat.le_refl _) ⟨Heap.get?_push_size _ rfl, z, us, r, IsTup.new _ _⟩
/-- what a new tuple of these is for what follows -/
def NewT (xs : List V) (H : Hp) (Q : VK) : Prop := ∀ (p : Addr) (o : Obj), H p = none → o.dict = none → Q (.ref p) (upd H p (.frz o (.tup xs)))
theorem NewT.at_ {xs : List V} {us : List Value} {Q : VK} (n : NewT xs H Q) (I : Inv X pins σ H s) (r : Vals xs us) (z : xs.length ≤ sizeLine) : EP X pins σ Q (.ref s.heap.objs.size) { s with heap := s.heap.push (tupO us) } :=
  ⟨.ref s.heap.objs.size, _, strong_push I r z, rfl, n _ _ (I.hok.fresh (Nat.le_refl _)) rfl⟩
end
section
variable {X : Cx} {es : List Expr} {t : TA} {pos : Pos}
def tTupS (t : TA) : TE := fun σ H Q => t σ H fun xs H1 => xs.length ≤ sizeLine ∧ NewT xs H1 Q
theorem pe_tupS {x1} (h : PA X es t) : PE X (.Tuple es x1 pos) (tTupS t) :=
  ⟨fun pins s σ H Q I hq => wpAny_Tuple_spliced (thn (h.run pos pins s σ H _ I hq) fun us s1 ⟨xs, H1, I1, r, z, n⟩ => ⟨by rw [← r.length]; exact z, n.at_ I1 r z⟩)⟩
/-- tuple(l), tuple(t) -/
def rTupS (K : PySem.W.Frag) : List V → Hp → VK → Prop := fun xs H Q => ∃ p ys, xs = [.ref p] ∧ ((SqL K H p ys ∧ NewT ys H Q) ∨ (SqT K H p ys ∧ Q (.ref p) H))
theorem call_tupS : CallR X (.type "tuple") (rTupS X.K) := fun pins s σ H xs us Q I r ⟨p, ys, e, h⟩ => by
  subst e
  obtain ⟨u, eu, rx⟩ := vals1 r
  subst eu
  cases rx
  rcases h with ⟨hq, n⟩ | ⟨hq, q⟩
  · obtain ⟨its, rl, pl, z⟩ := I.list hq
    have ln := rl.length
    exact call_tuple_list pl.isList (fun h2 kp => n.at_ (s := { s with heap := h2 }) (I.kept (t' := s.toks) kp) rl z) (by simp only [List.size_toArray] <;> omega)
  · obtain ⟨its, rl, pl, z⟩ := I.tuple hq
    exact call_tuple_same pl ⟨.ref p, H, I, rfl, q⟩
/-- t + u -/
def rCatS (K : PySem.W.Frag) : R2 := fun x y H Q => ∃ a b xs ys, x = .ref a ∧ y = .ref b ∧ SqT K H a xs ∧ SqT K H b ys ∧ xs.length + ys.length ≤ sizeLine ∧
  (xs = [] → Q (.ref b) H) ∧ (xs ≠ [] → ys = [] → Q (.ref a) H) ∧ (xs ≠ [] → ys ≠ [] → NewT (xs ++ ys) H Q)
theorem op_catS : OpR X (binaryOp .Add) (rCatS X.K) := fun pins s σ H x y v u Q I rx ry ⟨a, b, xs, ys, ex, ey, ha, hb, z, q0, q1, q2⟩ => by
  subst ex ey
  cases rx
  cases ry
  obtain ⟨as, r1, p1, _⟩ := I.tuple ha
  obtain ⟨bs, r2, p2, _⟩ := I.tuple hb
  by_cases hx : xs = []
  · subst hx
    cases r1
    exact cat_tup0 p1 p2 ⟨.ref b, H, I, rfl, q0 rfl⟩
  · exact HT.cat_tup p1 p2 (fun e => hx (r1.nil_iff.mp e)) (fun e => ⟨.ref a, H, I, rfl, q1 hx (r2.nil_iff.mp e)⟩) (fun e => (q2 hx fun w => e (r2.nil_iff.mpr w)).at_ I (r1.append r2) (by rw [List.length_append]; exact z)) (by rw [← r1.length, ← r2.length]; exact z)
/-- t[lo:hi] -/
def rSlS (K : PySem.W.Frag) : V → Option Int → Option Int → Hp → VK → Prop := fun x lo hi H Q => ∃ a xs, x = .ref a ∧ SqT K H a xs ∧
  (HT.sIx xs.length 0 lo = 0 ∧ HT.sIx xs.length xs.length hi = xs.length → Q (.ref a) H) ∧ (¬ (HT.sIx xs.length 0 lo = 0 ∧ HT.sIx xs.length xs.length hi = xs.length) → NewT (cutV xs lo hi) H Q)
theorem sl_tupS : SlR X (rSlS X.K) := fun pins s σ H x v vl vu lo hi sl Q I rx hs pl pu ⟨a, xs, ex, hx, q1, q2⟩ => by
  subst ex
  cases rx
  obtain ⟨its, r, ht, z⟩ := I.tuple hx
  have ln : its.toArray.size = xs.length := by rw [List.size_toArray]; exact r.length.symm
  refine ⟨"tuple", _, slot_tuple_getitem.lookup, ht.typeIs, ?_⟩
  by_cases hw : HT.sIx xs.length 0 lo = 0 ∧ HT.sIx xs.length xs.length hi = xs.length
  · exact getItem_tuple_whole ht hs pl pu (by rw [ln]; exact hw) ⟨.ref a, H, I, rfl, q1 hw⟩
  · refine HT.getItem_tuple_cut ht hs pl pu (by rw [ln]; exact hw) ?_ (by rw [ln]; exact z)
    rw [ln]
    exact (q2 hw).at_ I ((r.drop (HT.sIx xs.length 0 lo)).take _) (Nat.le_trans (cutV_length xs lo hi) z)
end
end Mi
set_option Elab.async false
set_option linter.all false
set_option maxRecDepth 100000
namespace Mi
open PySem PySem.Spec L2

/-! ### operators on data -/
def dI (h : Int → Int → D) : D → D → Option D
  | .int i, .int j => some (h i j)
  | _, _ => none
def dIC (C : Int → Int → Bool) (h : Int → Int → D) : D → D → Option D
  | .int i, .int j => if C i j then some (h i j) else none
  | _, _ => none
theorem dI_of {h : Int → Int → D} {a b c : D} (e : dI h a b = some c) : ∃ i j, a = .int i ∧ b = .int j ∧ h i j = c := by
  unfold dI at e
  split at e
  · cases e; exact ⟨_, _, rfl, rfl, rfl⟩
  · cases e
theorem dIC_of {C : Int → Int → Bool} {h : Int → Int → D} {a b c : D} (e : dIC C h a b = some c) : ∃ i j, a = .int i ∧ b = .int j ∧ C i j = true ∧ h i j = c := by
  unfold dIC at e
  split at e
  · split at e
    · rename_i q
      cases e; exact ⟨_, _, rfl, rfl, q, rfl⟩
    · cases e
  · cases e
section
variable {K : PySem.W.Frag}
theorem od_I {g : Int → Int → Int} : OpD K (rI0 fun i j => .int (g i j)) (dI fun i j => .int (g i j)) := fun P x y a b c H Q f rx ry e q => by
  obtain ⟨i, j, rfl, rfl, rfl⟩ := dI_of e
  obtain rfl := rx.int
  obtain rfl := ry.int
  exact ⟨i, j, rfl, rfl, q _ H (Same.refl H) (.int _)⟩
theorem od_B {g : Int → Int → Bool} : OpD K (rI0 fun i j => .bl (g i j)) (dI fun i j => .bool (g i j)) := fun P x y a b c H Q f rx ry e q => by
  obtain ⟨i, j, rfl, rfl, rfl⟩ := dI_of e
  obtain rfl := rx.int
  obtain rfl := ry.int
  exact ⟨i, j, rfl, rfl, q _ H (Same.refl H) (.bl _)⟩
theorem od_IC {C : Int → Int → Prop} {g : Int → Int → Int} {c : Int → Int → Bool} (hc : ∀ i j, c i j = true → C i j) : OpD K (rI C fun i j => .int (g i j)) (dIC c fun i j => .int (g i j)) := fun P x y a b z H Q f rx ry e q => by
  obtain ⟨i, j, rfl, rfl, h, rfl⟩ := dIC_of e
  obtain rfl := rx.int
  obtain rfl := ry.int
  exact ⟨i, j, rfl, rfl, hc i j h, q _ H (Same.refl H) (.int _)⟩
def okMul (i j : Int) : Bool := (decide (i.natAbs < 18446744073709551616)) || decide (j.natAbs < 18446744073709551616)
def okMod (_ j : Int) : Bool := decide (j ≠ 0)
def okDiv (_ j : Int) : Bool := decide (j ≠ 0) && decide (j.natAbs < 1073741824)
def okPow (i j : Int) : Bool := decide (0 ≤ j) && decide (j ≤ 1000000) && decide (i.natAbs < 18446744073709551616)
abbrev dAdd := dI fun i j => .int (i + j)
abbrev dSub := dI fun i j => .int (i - j)
abbrev dMul := dIC okMul fun i j => .int (i * j)
abbrev dMod := dIC okMod fun i j => .int (i.fmod j)
abbrev dDiv := dIC okDiv fun i j => .int (i.fdiv j)
abbrev dPow := dIC okPow fun i j => .int (i ^ j.toNat)
theorem od_mul : OpD K (rI CMul fun i j => .int (i * j)) dMul := od_IC fun i j h => by
  unfold okMul at h
  rcases Bool.or_eq_true_iff.mp h with h | h
  · have h := of_decide_eq_true h
    exact .inl ⟨by omega, by omega⟩
  · have h := of_decide_eq_true h
    exact .inr ⟨by omega, by omega⟩
theorem od_mod : OpD K (rI (fun _ j => j ≠ 0) fun i j => .int (i.fmod j)) dMod := od_IC fun i j h => of_decide_eq_true h
theorem od_div : OpD K (rI CDivN fun i j => .int (i.fdiv j)) dDiv := od_IC fun i j h => by
  obtain ⟨h1, h2⟩ := Bool.and_eq_true_iff.mp h
  exact ⟨of_decide_eq_true h1, of_decide_eq_true h2⟩
theorem od_pow : OpD K (rI CPow fun i j => .int (i ^ j.toNat)) dPow := od_IC fun i j h => by
  obtain ⟨h1, h3⟩ := Bool.and_eq_true_iff.mp h
  obtain ⟨h1, h2⟩ := Bool.and_eq_true_iff.mp h1
  exact ⟨of_decide_eq_true h1, of_decide_eq_true h2, of_decide_eq_true h3⟩
/-! items -/
def atL (ds : List D) (i : Int) : Option D := atI ds i
def dIx : D → D → Option D
  | .list ds, .int i => atI ds i
  | .tuple ds, .int i => atI ds i
  | .dict [(.bool true, .tuple ds)], .int i => atI ds i
  | _, _ => none
theorem atI_rp {P : Addr → Prop} {H : Hp} {xs : List V} {ds : List D} {i : Int} {c : D} (r : RpA K P H xs ds) (e : atI ds i = some c) : ∃ v, atI xs i = some v ∧ Rp K P H v c := by
  unfold atI at e ⊢
  rw [r.len]
  obtain ⟨j, h1, h2⟩ := Option.bind_eq_some_iff.mp e
  obtain ⟨v, h3, h4⟩ := r.get h2
  exact ⟨v, by rw [h1]; exact h3, h4⟩
theorem od_ix : OpD K (rIx K) dIx := fun P x y a b c H Q f rx ry e q => by
  unfold dIx at e
  split at e
  · obtain ⟨p, xs, rfl, s, r⟩ := rx.list
    obtain rfl := ry.int
    obtain ⟨v, h1, h2⟩ := atI_rp r e
    exact .inl ⟨p, xs, _, v, rfl, rfl, s, h1, q v H (Same.refl H) h2⟩
  · obtain ⟨p, xs, rfl, s, r⟩ := rx.tuple
    obtain rfl := ry.int
    obtain ⟨v, h1, h2⟩ := atI_rp r e
    exact .inr (.inl ⟨p, xs, _, v, rfl, rfl, s, h1, q v H (Same.refl H) h2⟩)
  · obtain ⟨p, xs, rfl, s, r⟩ := rx.weak
    obtain rfl := ry.int
    obtain ⟨v, h1, h2⟩ := atI_rp r e
    exact .inr (.inl ⟨p, xs, _, v, rfl, rfl, s, h1, q v H (Same.refl H) h2⟩)
  · cases e
theorem dIx_dict (kvs : List (D × D)) (b : D) (h : ∀ ds, kvs ≠ [(.bool true, .tuple ds)]) : dIx (.dict kvs) b = none := by
  unfold dIx
  split
  · rename_i q; cases q
  · rename_i q; cases q
  · rename_i ds _ q
    injection q with q
    exact absurd q (h _)
  · rfl
/-! == and != of data -/
def dEq (a b : D) : Option D := if SeqAt.shaped a && SeqAt.shaped b then some (.bool (PyData.eqv a b)) else none
def dNe (a b : D) : Option D := if SeqAt.shaped a && SeqAt.shaped b then some (.bool (!PyData.eqv a b)) else none
theorem od_eq : OpD K (rEqD K) dEq := fun P x y a b c H Q f rx ry e q => by
  unfold dEq at e
  split at e
  · rename_i h
    obtain ⟨h1, h2⟩ := Bool.and_eq_true_iff.mp h
    cases e
    exact ⟨a, b, rx.dps h1, ry.dps h2, h1, h2, q _ H (Same.refl H) (.bl _)⟩
  · cases e
theorem od_ne : OpD K (rNeD K) dNe := fun P x y a b c H Q f rx ry e q => by
  unfold dNe at e
  split at e
  · rename_i h
    obtain ⟨h1, h2⟩ := Bool.and_eq_true_iff.mp h
    cases e
    exact ⟨a, b, rx.dps h1, ry.dps h2, h1, h2, q _ H (Same.refl H) (.bl _)⟩
  · cases e
/-! tuple + tuple -/
def dCatT : D → D → Option D
  | .tuple xs, .tuple ys => if xs.length + ys.length ≤ 1000000 then some (.tuple (xs ++ ys)) else none
  | _, _ => none
theorem lineM {n : Nat} (h : n ≤ 1000000) : n ≤ sizeLine := Nat.le_trans h (by rw [sizeLine_eq]; decide)
theorem same_ext {H : Hp} {p : Addr} {o : HO} (h : H p = none) : Ext (fun _ => False) H (upd H p o) := Same.ext (same_new h)
theorem RpA.new {P : Addr → Prop} {H : Hp} {p : Addr} {o : HO} {xs : List V} {ds : List D} (h : H p = none) (r : RpA K P H xs ds) : RpA K P (upd H p o) xs ds := r.ext (same_ext h) fun _ z => z.elim
theorem Rp.new {P : Addr → Prop} {H : Hp} {p : Addr} {o : HO} {x : V} {d : D} (h : H p = none) (r : Rp K P H x d) : Rp K P (upd H p o) x d := r.ext (same_ext h) fun _ z => z.elim
theorem Rp.mkT {P : Addr → Prop} {H : Hp} {p : Addr} {o : Obj} {xs : List V} {ds : List D} (h : H p = none) (d : o.dict = none) (r : RpA K P H xs ds) : Rp K P (upd H p (.frz o (.tup xs))) (.ref p) (.tuple ds) := .tup ⟨o, upd_same, d⟩ (r.new h)
theorem Rp.mkW {P : Addr → Prop} {H : Hp} {p : Addr} {xs : List V} {ds : List D} (h : H p = none) (r : RpA K P H xs ds) : Rp K P (upd H p (.tup xs)) (.ref p) (wk ds) := .wtup upd_same (r.new h)
theorem Rp.mkL {P : Addr → Prop} {H : Hp} {p : Addr} {xs : List V} {ds : List D} (f : ∀ b, H b = none → P b) (h : H p = none) (r : RpA K P H xs ds) : Rp K P (upd H p (.lst xs)) (.ref p) (.list ds) := .lst (f p h) (.inl upd_same) (r.new h)
theorem RpA.nil_iff {P : Addr → Prop} {H : Hp} {xs : List V} {ds : List D} (r : RpA K P H xs ds) : xs = [] ↔ ds = [] := by
  have := r.len
  constructor
  · intro e; subst e; exact List.eq_nil_of_length_eq_zero this.symm
  · intro e; subst e; exact List.eq_nil_of_length_eq_zero this
theorem od_catT : OpD K (rCatS K) dCatT := fun P x y a b c H Q f rx ry e q => by
  unfold dCatT at e
  split at e
  · split at e
    · rename_i hl
      cases e
      obtain ⟨p, xs, rfl, s, r⟩ := rx.tupleH
      obtain ⟨p2, ys, rfl, s2, r2⟩ := ry.tupleH
      refine ⟨p, p2, xs, ys, rfl, rfl, s.sq, s2.sq, ?_, fun e => ?_, fun _ e => ?_, fun _ _ w o hw hd => ?_⟩
      · rw [r.len, r2.len]; exact lineM hl
      · have z := r.nil_iff.mp e
        refine q _ H (Same.refl H) (.tup s2 ?_)
        rw [z]; exact r2
      · have z := r2.nil_iff.mp e
        refine q _ H (Same.refl H) (.tup s ?_)
        rw [z, List.append_nil]; exact r
      · exact q _ _ (same_new hw) (.mkT hw hd (r.append r2))
    · cases e
  · cases e
end
section
variable {X : Cx} {own : List Nat} {pos : Pos}
/-! list + list, whatever lists are read -/
def rCatL (K : PySem.W.Frag) : R2 := fun x y H Q => ∃ l b xs zs, x = .ref l ∧ y = .ref b ∧ SqL K H l xs ∧ SqL K H b zs ∧ xs.length + zs.length ≤ sizeLine ∧ ∀ p, H p = none → Q (.ref p) (upd H p (.lst (xs ++ zs)))
theorem op_catL : OpR X (binaryOp .Add) (rCatL X.K) := by
  intro pins s σ H x y v u Q I rx ry h
  obtain ⟨l, b, xs, zs, rfl, rfl, hl, hb, hz, q⟩ := h
  cases rx
  cases ry
  obtain ⟨its, r1, p1, _⟩ := I.list hl
  obtain ⟨its2, r2, p2, _⟩ := I.list hb
  have il := p1.isList
  have ib := p2.isList
  obtain ⟨⟨c1, d1, dt1, s1⟩, ho1, hc1, n1, hd1⟩ := il
  obtain ⟨⟨c2, d2, dt2, s2⟩, ho2, hc2, n2, hd2⟩ := ib
  dsimp only at hc1 hc2 hd1 hd2
  cases hc1
  cases hc2
  cases hd1
  cases hd2
  have hz2 : its.toArray.size + its2.toArray.size ≤ sizeLine := by
    rw [List.size_toArray, List.size_toArray, ← r1.length, ← r2.length]
    exact hz
  have hm := PyProof.Rows.list_addW l b its.toArray its2.toArray n1 n2 d1 d2 s1 s2 hz2
  refine PySem.concat_meets (S := _) ⟨_, ho1, rfl⟩ ⟨_, ho2, rfl⟩ noFill_list_add seq_list_add PySem.F.slot_list_add PySem.F.entry_list_add (PySem.F.args_list_add_2 _ _) hm ⟨ho1, ho2, ?_⟩
  show EP X pins σ Q _ _
  refine ⟨V.ref s.heap.objs.size, upd H s.heap.objs.size (.lst (xs ++ zs)), ?_, rfl, q _ I.fresh⟩
  have ea : its.toArray ++ its2.toArray = (its ++ its2).toArray := by simp
  rw [ea]
  exact I.lnew (t' := s.toks) (r1.append r2) (by rw [List.length_append]; exact hz)
def dCatL : D → D → Option D
  | .list xs, .list ys => if xs.length + ys.length ≤ 1000000 then some (.list (xs ++ ys)) else none
  | _, _ => none
theorem od_catL {K : PySem.W.Frag} : OpD K (rCatL K) dCatL := fun P x y a b c H Q f rx ry e q => by
  unfold dCatL at e
  split at e
  · split at e
    · rename_i hl
      cases e
      obtain ⟨p, xs, rfl, s, r⟩ := rx.list
      obtain ⟨p2, ys, rfl, s2, r2⟩ := ry.list
      exact ⟨p, p2, xs, ys, rfl, rfl, s, s2, by rw [r.len, r2.len]; exact lineM hl, fun w hw => q _ _ (same_new hw) (.mkL f hw (r.append r2))⟩
    · cases e
  · cases e
end
end Mi
set_option Elab.async false
set_option linter.all false
set_option maxRecDepth 100000
namespace Mi
open PySem PySem.Spec L2

/-! ### argument lists, displays -/
abbrev FA := SD → Option (List D × SD)
def tA (K : PySem.W.Frag) (own : List Nat) (f : FA) : TA := fun σ H Q => ∃ (P : Addr → Prop) (σd : SD) (ds : List D) (σd' : SD), Gd K own P σd σ H ∧ f σd = some (ds, σd') ∧
  ∀ vs H', Gd K own P σd' σ H' → Ext (Wr own σ) H H' → RpA K P H' vs ds → Q vs H'
structure MA (X : Cx) (own : List Nat) (es : List Expr) (f : FA) : Prop where
  pa : PA X es (tA X.K own f)
  len : ∀ s ds s', f s = some (ds, s') → ds.length = es.length
def aNil : FA := fun s => some ([], s)
def aCons (f : FE) (g : FA) : FA := fun s => (f s).bind fun a => (g a.2).map fun b => (a.1 :: b.1, b.2)
theorem aCons_of {f : FE} {g : FA} {s s' : SD} {ds : List D} (h : aCons f g s = some (ds, s')) : ∃ a s1 r, f s = some (a, s1) ∧ g s1 = some (r, s') ∧ ds = a :: r := by
  unfold aCons at h
  obtain ⟨⟨a, s1⟩, h1, h⟩ := Option.bind_eq_some_iff.mp h
  obtain ⟨⟨r, s2⟩, h2, h⟩ := Option.map_eq_some_iff.mp h
  cases h
  exact ⟨a, s1, r, h1, h2, rfl⟩
section
variable {X : Cx} {own : List Nat} {pos : Pos}
theorem ma_nil : MA X own [] aNil := ⟨PA_imp pa_nil fun σ H Q q => by
  obtain ⟨P, σd, d, σd', g, hf, q⟩ := q
  cases hf
  exact q [] H g (Ext.refl _ _) .nil, fun s ds s' h => by cases h; rfl⟩
theorem ma_cons {e : Expr} {es : List Expr} {f : FE} {g : FA} (he : ME X own e f) (h : MA X own es g) (hs : starEach (e :: es) X.env = (false, eval e X.env) :: starEach es X.env := by rfl) : MA X own (e :: es) (aCons f g) := ⟨PA_imp (pa_cons he.pe h.pa hs) fun σ H Q q => by
  obtain ⟨P, σd, d, σd', gd, hf, q⟩ := q
  obtain ⟨a, s1, r, h1, h2, rfl⟩ := aCons_of hf
  exact tE_of gd h1 fun v H1 g1 e1 r1 => ⟨P, s1, r, σd', g1, h2, fun vs H2 g2 e2 r2 => q _ H2 g2 (e1.trans e2) (.cons (r1.ext e2 g1.nw) r2)⟩, fun s ds s' q => by
  obtain ⟨a, s1, r, h1, h2, rfl⟩ := aCons_of q
  simp only [List.length_cons, h.len _ _ _ h2]⟩
def eTup (f : FA) : FE := fun s => (f s).map fun r => (.tuple r.1, r.2)
theorem me_tup {es : List Expr} {x1} {f : FA} (h : MA X own es f) (n : es.length ≤ 1000000 := by decide) : ME X own (.Tuple es x1 pos) (eTup f) := ⟨PE_imp (pe_tupS h.pa) fun σ H Q q => by
  obtain ⟨P, σd, d, σd', g, hf, q⟩ := q
  unfold eTup at hf
  obtain ⟨⟨ds, s1⟩, h1, hf⟩ := Option.map_eq_some_iff.mp hf
  cases hf
  refine ⟨P, σd, ds, s1, g, h1, fun vs H1 g1 e1 r1 => ⟨?_, fun p o hp hd => q _ _ (g1.same (same_new hp)) (e1.trans (Ext.new hp)) (.mkT hp hd r1)⟩⟩
  rw [r1.len, h.len _ _ _ h1]
  exact lineM n⟩
def eLst (f : FA) : FE := fun s => (f s).map fun r => (.list r.1, r.2)
theorem mf_lst {es : List Expr} {f : FA} (h : MA X own es f) (n : es.length ≤ 1000000 := by decide) : MF X own (.List es pos) (eLst f) := ⟨PE_imp (pe_lst h.pa) fun σ H Q q => by
  obtain ⟨P, σd, d, σd', g, hf, q⟩ := q
  unfold eLst at hf
  obtain ⟨⟨ds, s1⟩, h1, hf⟩ := Option.map_eq_some_iff.mp hf
  cases hf
  refine ⟨P, σd, ds, s1, g, h1, fun vs H1 g1 e1 r1 => ⟨?_, fun p hp => q p _ (e1.g p hp) (g1.same (same_new hp)) (g1.off hp) (e1.trans (Ext.new hp)) (.lst upd_same ((r1.off hp).new hp))⟩⟩
  rw [r1.len, h.len _ _ _ h1]
  exact lineM n⟩

/-! ### slices of lists and tuples -/
abbrev FO := SD → Option (Option Int × SD)
def tO (K : PySem.W.Frag) (own : List Nat) (f : FO) : TO := fun σ H Q => ∃ (P : Addr → Prop) (σd : SD) (o : Option Int) (σd' : SD), Gd K own P σd σ H ∧ f σd = some (o, σd') ∧
  ∀ H', Gd K own P σd' σ H' → Ext (Wr own σ) H H' → Q o H'
structure MO (X : Cx) (own : List Nat) (e : Option Expr) (f : FO) : Prop where
  po : PO X e (tO X.K own f)
theorem PO_imp {X : Cx} {e : Option Expr} {t t' : TO} (h : PO X e t) (i : ∀ σ H Q, t' σ H Q → t σ H Q) : PO X e t' := ⟨fun pins s σ H Q I q => h.run pins s σ H Q I (i σ H Q q)⟩
def oNo : FO := fun s => some (none, s)
def oIn (f : FE) : FO := fun s => (f s).bind fun r => match r.1 with
  | .int i => some (some i, r.2)
  | _ => none
theorem mo_none : MO X own none oNo := ⟨PO_imp po_none fun σ H Q q => by
  obtain ⟨P, σd, d, σd', g, hf, q⟩ := q
  cases hf
  exact q H g (Ext.refl _ _)⟩
theorem mo_some {e : Expr} {f : FE} (h : ME X own e f) (hp : PE X e (tE X.K own f) → PO X (some e) (tPart (tE X.K own f))) : MO X own (some e) (oIn f) := ⟨PO_imp (hp h.pe) fun σ H Q q => by
  obtain ⟨P, σd, d, σd', g, hf, q⟩ := q
  unfold oIn at hf
  obtain ⟨⟨d0, s1⟩, h1, hf⟩ := Option.bind_eq_some_iff.mp hf
  cases d0 with
  | int i =>
    cases hf
    refine tE_of g h1 fun v H1 g1 e1 r => ?_
    cases r
    exact ⟨i, rfl, q H1 g1 e1⟩
  | _ => cases hf⟩
def cutD (xs : List D) (lo hi : Option Int) : List D := (xs.drop (HT.sIx xs.length 0 lo)).take (HT.sIx xs.length xs.length hi - HT.sIx xs.length 0 lo)
theorem cut_rp {K : PySem.W.Frag} {P : Addr → Prop} {H : Hp} {xs : List V} {ds : List D} (r : RpA K P H xs ds) (lo hi : Option Int) : RpA K P H (cutV xs lo hi) (cutD ds lo hi) := by
  unfold cutV cutD
  rw [r.len]
  exact (r.drop _).take _
/-- both: of a list, of a tuple -/
def rSlB (K : PySem.W.Frag) : V → Option Int → Option Int → Hp → VK → Prop := fun x lo hi H Q => rSlL K x lo hi H Q ∨ rSlS K x lo hi H Q
theorem sl_both : SlR X (rSlB X.K) := SlR.or sl_list sl_tupS
def eSl (f : FE) (lo hi : FO) : FE := fun s => (f s).bind fun a => (lo a.2).bind fun l => (hi l.2).bind fun h => match a.1 with
  | .list ds => some (.list (cutD ds l.1 h.1), h.2)
  | .tuple ds => some (.tuple (cutD ds l.1 h.1), h.2)
  | _ => none
theorem me_slice {e : Expr} {lo hi : Option Expr} {p2} {f : FE} {fl fh : FO} (he : ME X own e f) (hl : MO X own lo fl) (hh : MO X own hi fh) : ME X own (.Subscript e (.Slice lo hi none p2) pos) (eSl f fl fh) := ⟨PE_imp (pe_slice sl_both he.pe hl.po hh.po) fun σ H Q q => by
  obtain ⟨P, σd, d, σd', g, hf, q⟩ := q
  unfold eSl at hf
  obtain ⟨⟨a, s1⟩, h1, hf⟩ := Option.bind_eq_some_iff.mp hf
  obtain ⟨⟨l, s2⟩, h2, hf⟩ := Option.bind_eq_some_iff.mp hf
  obtain ⟨⟨h, s3⟩, h3, hf⟩ := Option.bind_eq_some_iff.mp hf
  refine tE_of g h1 fun v H1 g1 e1 r1 => ⟨P, s1, l, s2, g1, h2, fun H2 g2 e2 => ⟨P, s2, h, s3, g2, h3, fun H3 g3 e3 => ?_⟩⟩
  have r3 := (r1.ext e2 g1.nw).ext e3 g2.nw
  have e13 := (e1.trans e2).trans e3
  dsimp only at hf
  cases a with
  | list ds =>
    cases hf
    obtain ⟨a, xs, rfl, s, r⟩ := (Bo.rp r3).list
    exact .inl ⟨a, xs, rfl, s, fun p hp => q _ _ (g3.same (same_new hp)) (e13.trans (Ext.new hp)) (.mkL g3.fresh hp (cut_rp r l h))⟩
  | tuple ds =>
    cases hf
    obtain ⟨a, xs, rfl, s, r⟩ := (Bo.rp r3).tupleH
    refine .inr ⟨a, xs, rfl, s.sq, fun z => ?_, fun _ p o hp hd => q _ _ (g3.same (same_new hp)) (e13.trans (Ext.new hp)) (.mkT hp hd (cut_rp r l h))⟩
    refine q _ _ g3 e13 (.tup s ?_)
    have ez : cutD ds l h = ds := by
      unfold cutD
      rw [← r.len, z.1, z.2, Nat.sub_zero, List.drop_zero, r.len]
      exact List.take_length
    rw [ez]
    exact r
  | _ => cases hf⟩
/-- a slice of an owned list -/
def eSlO (k : Nat) (lo hi : FO) : FE := fun s => (eVar k s).bind fun _ => (lo s).bind fun l => (hi l.2).bind fun h => (eVar k h.2).bind fun a => match a.1 with
  | .list ds => some (.list (cutD ds l.1 h.1), h.2)
  | _ => none
theorem me_sliceO {x : Str} {p : Pos} {lo hi : Option Expr} {p2} {k : Nat} {fl fh : FO} (hk : k ∈ own) (hx : PE X (.Name x p) (tVar k)) (hl : MO X own lo fl) (hh : MO X own hi fh) : ME X own (.Subscript (.Name x p) (.Slice lo hi none p2) pos) (eSlO k fl fh) := ⟨PE_imp (pe_slice sl_both hx hl.po hh.po) fun σ H Q q => by
  obtain ⟨P, σd, d, σd', g, hf, q⟩ := q
  unfold eSlO at hf
  obtain ⟨⟨a0, s0⟩, h0, hf⟩ := Option.bind_eq_some_iff.mp hf
  obtain ⟨⟨l, s2⟩, h2, hf⟩ := Option.bind_eq_some_iff.mp hf
  obtain ⟨⟨h, s3⟩, h3, hf⟩ := Option.bind_eq_some_iff.mp hf
  obtain ⟨⟨a, s4⟩, h4, hf⟩ := Option.bind_eq_some_iff.mp hf
  obtain ⟨h0, _⟩ := eVar_of h0
  obtain ⟨v, ev, _, _⟩ := g.own_at hk h0
  obtain ⟨h4, _⟩ := eVar_of h4
  refine ⟨.ref v, ev, P, σd, l, s2, g, h2, fun H2 g2 e2 => ⟨P, s2, h, s3, g2, h3, fun H3 g3 e3 => ?_⟩⟩
  have e13 := e2.trans e3
  dsimp only at hf h4
  obtain ⟨a', ea, o, _⟩ := g3.own_at hk h4
  rw [ev] at ea
  cases ea
  cases o with
  | lst c r =>
    cases hf
    exact .inl ⟨v, _, rfl, .inl (.inl c), fun p hp => q _ _ (g3.same (same_new hp)) (e13.trans (Ext.new hp)) (.mkL g3.fresh hp (cut_rp r l h))⟩
  | dct c r => cases hf
  | dtt c r => cases hf⟩

/-! ### built-in calls -/
def CallD (K : PySem.W.Frag) (r : List V → Hp → VK → Prop) (g : D → Option D) : Prop := ∀ (P : Addr → Prop) (x : V) (a c : D) (H : Hp) (Q : VK), (∀ b, H b = none → P b) → Bo K P H x a → g a = some c →
  (∀ z H', Same H H' → Rp K P H' z c → Q z H') → r [x] H Q
def eCall1 (g : D → Option D) (f : FE) : FE := fun s => (f s).bind fun a => (g a.1).map fun c => (c, a.2)
def tCall1 (r : List V → Hp → VK → Prop) (t : TE) : TE := tCB r (tCons t tNil)
theorem tCall1_of {r : List V → Hp → VK → Prop} {g : D → Option D} {f : FE} (hd : CallD X.K r g) {σ : L2.St} {H : Hp} {Q : VK} (q : tE X.K own (eCall1 g f) σ H Q) : tCB r (tCons (tBo X.K own f) tNil) σ H Q := by
  obtain ⟨P, σd, d, σd', gd, hf, q⟩ := q
  unfold eCall1 at hf
  obtain ⟨⟨a, s1⟩, h1, hf⟩ := Option.bind_eq_some_iff.mp hf
  obtain ⟨c, h2, hf⟩ := Option.map_eq_some_iff.mp hf
  cases hf
  exact ⟨P, σd, a, _, gd, h1, fun v H1 g1 e1 r1 => hd P v a _ H1 Q g1.fresh r1 h2 fun z H' sm rz => q z H' (g1.same sm) (e1.trans (Same.ext sm)) rz⟩
theorem me_callB1 {x : Str} {p : Pos} {id : String} {e : Expr} {r : List V → Hp → VK → Prop} {g : D → Option D} {f : FE} (hc : CallR X (.builtin id) r) (hd : CallD X.K r g) (hg : Gl X x) (hm : X.mg x = none) (hv : bootBuiltins x = some (.builtin id)) (he : MB X own e f)
    (hn : x ≠ "__name__" := by decide) (hdb : (x == ("__debug__" : Str)) = false := by decide) (hse : starEach [e] X.env = (false, eval e X.env) :: starEach [] X.env := by rfl) (hpl : (backTo pos (starEach [] X.env)).any (·.1) = false := by rfl) : ME X own (.Call (.Name x p) [e] [] pos) (eCall1 g f) :=
  ⟨PE_imp (pe_callB hc hg hm hv (pa_cons he.pe pa_nil hse) hn hdb hse hpl) fun _ _ _ q => tCall1_of hd q⟩
theorem me_callT1 {x : Str} {p : Pos} {T : String} {e : Expr} {r : List V → Hp → VK → Prop} {g : D → Option D} {f : FE} (hc : CallR X (.type T) r) (hd : CallD X.K r g) (hg : Gl X x) (hm : X.mg x = none) (hv : bootBuiltins x = some (.type T)) (he : MB X own e f)
    (h : PA X [e] (tCons (tBo X.K own f) tNil) → PE X (.Call (.Name x p) [e] [] pos) (tCB r (tCons (tBo X.K own f) tNil))) (hse : starEach [e] X.env = (false, eval e X.env) :: starEach [] X.env := by rfl) : ME X own (.Call (.Name x p) [e] [] pos) (eCall1 g f) :=
  ⟨PE_imp (h (pa_cons he.pe pa_nil hse)) fun _ _ _ q => tCall1_of hd q⟩
def cLen : D → Option D
  | .list ds => some (.int ds.length)
  | .tuple ds => some (.int ds.length)
  | .dict [(.bool true, .tuple ds)] => some (.int ds.length)
  | _ => none
theorem cd_len {K : PySem.W.Frag} : CallD K (fun xs H Q => ∃ p ys, xs = [.ref p] ∧ (SqL K H p ys ∨ SqT K H p ys) ∧ Q (.int ys.length) H) cLen := fun P x a c H Q f rx e q => by
  unfold cLen at e
  split at e
  · cases e
    obtain ⟨p, xs, rfl, s, r⟩ := rx.list
    refine ⟨p, xs, rfl, .inl s, ?_⟩
    rw [r.len]
    exact q _ H (Same.refl H) (.int _)
  · cases e
    obtain ⟨p, xs, rfl, s, r⟩ := rx.tuple
    refine ⟨p, xs, rfl, .inr s, ?_⟩
    rw [r.len]
    exact q _ H (Same.refl H) (.int _)
  · cases e
    obtain ⟨p, xs, rfl, s, r⟩ := rx.weak
    refine ⟨p, xs, rfl, .inr s, ?_⟩
    rw [r.len]
    exact q _ H (Same.refl H) (.int _)
  · cases e
def cInt : D → Option D
  | .int i => some (.int i)
  | .bool b => some (.int (if b then 1 else 0))
  | _ => none
theorem cd_int {K : PySem.W.Frag} : CallD K (fun xs H Q => (∃ i, xs = [.int i] ∧ Q (.int i) H) ∨ ∃ k, xs = [.bl k] ∧ Q (.int (if k then 1 else 0)) H) cInt := fun P x a c H Q f rx e q => by
  cases a with
  | int i =>
    cases e
    obtain rfl := rx.int
    exact .inl ⟨i, rfl, q _ H (Same.refl H) (.int _)⟩
  | bool b =>
    cases e
    obtain rfl := rx.bool
    exact .inr ⟨b, rfl, q _ H (Same.refl H) (.int _)⟩
  | _ => cases e
def cTup : D → Option D
  | .list ds => some (.tuple ds)
  | .tuple ds => some (.tuple ds)
  | _ => none
theorem cd_tup {K : PySem.W.Frag} : CallD K (rTupS K) cTup := fun P x a c H Q f rx e q => by
  cases a with
  | list ds =>
    cases e
    obtain ⟨p, xs, rfl, s, r⟩ := rx.list
    exact ⟨p, xs, rfl, .inl ⟨s, fun l o hl hd => q _ _ (same_new hl) (.mkT hl hd r)⟩⟩
  | tuple ds =>
    cases e
    obtain ⟨p, xs, rfl, s, r⟩ := rx.tupleH
    exact ⟨p, xs, rfl, .inr ⟨s.sq, q _ H (Same.refl H) (.tup s r)⟩⟩
  | _ => cases e
/-! list(..): a new list -/
def cList : D → Option D
  | .list ds => some (.list ds)
  | .tuple ds => some (.list ds)
  | _ => none
theorem mf_list {x : Str} {p : Pos} {e : Expr} {f : FE} (he : MB X own e f)
    (h : PE X (.Call (.Name x p) [e] [] pos) (tCB (fun xs H Q => ∃ p ys, xs = [.ref p] ∧ (SqL X.K H p ys ∨ SqT X.K H p ys) ∧ ∀ l, H l = none → Q (.ref l) (upd H l (.lst ys))) (tCons (tBo X.K own f) tNil))) : MF X own (.Call (.Name x p) [e] [] pos) (eCall1 cList f) := ⟨PE_imp h fun σ H Q q => by
  obtain ⟨P, σd, d, σd', gd, hf, q⟩ := q
  unfold eCall1 at hf
  obtain ⟨⟨a, s1⟩, h1, hf⟩ := Option.bind_eq_some_iff.mp hf
  obtain ⟨c, h2, hf⟩ := Option.map_eq_some_iff.mp hf
  cases hf
  refine ⟨P, σd, a, _, gd, h1, fun v H1 g1 e1 r1 => ?_⟩
  have fin : ∀ {p : Addr} {xs : List V} {ds : List D}, H1 p = none → RpA X.K P H1 xs ds → d = PyData.list ds → Q (.ref p) (upd H1 p (.lst xs)) := fun {p xs ds} hp r ec => by
    subst ec
    exact q p _ (e1.g p hp) (g1.same (same_new hp)) (g1.off hp) (e1.trans (Ext.new hp)) (.lst upd_same ((r.off hp).new hp))
  cases a with
  | list ds =>
    cases h2
    obtain ⟨p, xs, rfl, s, r⟩ := r1.list
    exact ⟨p, xs, rfl, .inl s, fun l hl => fin hl r rfl⟩
  | tuple ds =>
    cases h2
    obtain ⟨p, xs, rfl, s, r⟩ := r1.tuple
    exact ⟨p, xs, rfl, .inr s, fun l hl => fin hl r rfl⟩
  | _ => cases h2⟩
/-! two ints -/
def CallD2 (K : PySem.W.Frag) (r : List V → Hp → VK → Prop) (g : D → D → Option D) : Prop := ∀ (P : Addr → Prop) (x y : V) (a b c : D) (H : Hp) (Q : VK), (∀ b, H b = none → P b) → Rp K P H x a → Rp K P H y b → g a b = some c →
  (∀ z H', Same H H' → Rp K P H' z c → Q z H') → r [x, y] H Q
theorem me_callB2 {x : Str} {p : Pos} {id : String} {e1 e2 : Expr} {r : List V → Hp → VK → Prop} {g : D → D → Option D} {f1 f2 : FE} (hc : CallR X (.builtin id) r) (hd : CallD2 X.K r g) (hg : Gl X x) (hm : X.mg x = none) (hv : bootBuiltins x = some (.builtin id)) (h1 : ME X own e1 f1) (h2 : ME X own e2 f2)
    (hn : x ≠ "__name__" := by decide) (hdb : (x == ("__debug__" : Str)) = false := by decide) (hse : starEach [e1, e2] X.env = (false, eval e1 X.env) :: starEach [e2] X.env := by rfl) (hse2 : starEach [e2] X.env = (false, eval e2 X.env) :: starEach [] X.env := by rfl) (hpl : (backTo pos (starEach [e2] X.env)).any (·.1) = false := by rfl) : ME X own (.Call (.Name x p) [e1, e2] [] pos) (eBin g f1 f2) :=
  ⟨PE_imp (pe_callB hc hg hm hv (pa_cons h1.pe (pa_cons h2.pe pa_nil hse2) hse) hn hdb hse hpl) fun σ H Q q => by
    obtain ⟨P, σd, d, σd', gd, hf, q⟩ := q
    obtain ⟨a, s1, b, h1, h2, h3⟩ := eBin_of hf
    exact tE_of gd h1 fun x H1 g1 e1 r1 => tE_of g1 h2 fun y H2 g2 e2 r2 => hd P x y a b d H2 Q g2.fresh (r1.ext e2 g1.nw) r2 h3 fun z H' sm rz => q z H' (g2.same sm) ((e1.trans e2).trans (Same.ext sm)) rz⟩
abbrev dMax := dI fun i j => .int (if j > i then j else i)
abbrev dMin := dI fun i j => .int (if j < i then j else i)
theorem cd_max {K : PySem.W.Frag} : CallD2 K (fun xs H Q => ∃ i j, xs = [.int i, .int j] ∧ Q (.int (if j > i then j else i)) H) dMax := fun P x y a b c H Q f rx ry e q => by
  obtain ⟨i, j, rfl, rfl, rfl⟩ := dI_of e
  cases rx
  cases ry
  exact ⟨i, j, rfl, q _ H (Same.refl H) (.int _)⟩
theorem cd_min {K : PySem.W.Frag} : CallD2 K (fun xs H Q => ∃ i j, xs = [.int i, .int j] ∧ Q (.int (if j < i then j else i)) H) dMin := fun P x y a b c H Q f rx ry e q => by
  obtain ⟨i, j, rfl, rfl, rfl⟩ := dI_of e
  cases rx
  cases ry
  exact ⟨i, j, rfl, q _ H (Same.refl H) (.int _)⟩
end
end Mi
set_option Elab.async false
set_option linter.all false
set_option maxRecDepth 100000
namespace Mi
open PySem PySem.Spec L2

/-! ### what is walked -/
/-- the source at H': its turns, what stands, what it yields -/
structure Src (K : PySem.W.Frag) (P : Addr → Prop) (H' : Hp) (items : List D) (J : It) (G : Hp → Prop) (Y : Nat → Hp → V → Hp → Prop) : Prop where
  walk : Walk J items.length G Y
  now : G H'
  keep : ∀ H1 H2, Ext (fun b => ¬ P b ∨ H' b = none) H1 H2 → G H1 → G H2
  item : ∀ i H1 x H2, i < items.length → G H1 → Y i H1 x H2 → Same H1 H2 ∧ ∃ d, items[i]? = some d ∧ Rp K (fun b => P b ∧ H' b ≠ none) H2 x d
  size : items.length ≤ sizeLine
def tI (K : PySem.W.Frag) (own : List Nat) (f : FA) : TI := fun σ H R => ∃ (P : Addr → Prop) (σd : SD) (items : List D) (σd' : SD), Gd K own P σd σ H ∧ f σd = some (items, σd') ∧
  ∀ J H' G Y, Gd K own P σd' σ H' → Ext (Wr own σ) H H' → Src K P H' items J G Y → R J H'
structure MI (X : Cx) (own : List Nat) (tg iter : Expr) (f : FA) : Prop where
  pi : PI X tg iter (tI X.K own f)
theorem PI_imp {X : Cx} {tg e : Expr} {t t' : TI} (h : PI X tg e t) (i : ∀ σ H R, t' σ H R → t σ H R) : PI X tg e t' := ⟨fun pins s σ H Q I q => h.run pins s σ H Q I (i σ H Q q)⟩

/-- what is read is not too long -/
def Sized (K : PySem.W.Frag) (H : Hp) : Prop := (∀ a xs, SqL K H a xs → xs.length ≤ sizeLine) ∧ ∀ a xs, SqT K H a xs → xs.length ≤ sizeLine
theorem sized_of {X : Cx} {pins : List (Addr × Obj)} {σ : L2.St} {H : Hp} {s : Shared} (I : Inv X pins σ H s) : Sized X.K H := ⟨fun a xs h => let ⟨_, _, _, z⟩ := I.list h; z, fun a xs h => let ⟨_, _, _, z⟩ := I.tuple h; z⟩
theorem PE_sized {X : Cx} {e : Expr} {t : TE} (h : PE X e t) : PE X e fun σ H Q => t σ H fun v H' => Sized X.K H' → Q v H' := ⟨fun pins s σ H Q I q =>
  thn (h.run pins s σ H _ I q) fun u s' ⟨v, H', I', r, q'⟩ => ⟨v, H', I', r, q' (sized_of I')⟩⟩
theorem PA_sized {X : Cx} {e : List Expr} {t : TA} (h : PA X e t) : PA X e fun σ H Q => t σ H fun v H' => Sized X.K H' → Q v H' := ⟨fun p pins s σ H Q I q =>
  thn (h.run p pins s σ H _ I q) fun u s' ⟨v, H', I', r, q'⟩ => ⟨v, H', I', r, q' (sized_of I')⟩⟩

section
variable {K : PySem.W.Frag} {P : Addr → Prop} {H' : Hp}
theorem trk_ext {H1 H2 : Hp} (e : Ext (fun b => ¬ P b ∨ H' b = none) H1 H2) {xs : List V} {ds : List D} (r : RpA K (fun b => P b ∧ H' b ≠ none) H1 xs ds) : RpA K (fun b => P b ∧ H' b ≠ none) H2 xs ds :=
  r.ext e fun b w z => w.elim (fun n => n z.1) fun n => z.2 n
theorem sqL_keep {H1 H2 : Hp} {a : Addr} {xs : List V} (s : P a ∧ Rd H' a (.lst xs) ∨ Kw K a xs) (e : Ext (fun b => ¬ P b ∨ H' b = none) H1 H2) (g : SqL K H1 a xs) : SqL K H2 a xs := by
  rcases s with s | s
  · rcases g with q | q
    · refine .inl (rd_ext e (fun w => w.elim (fun n => n s.1) fun n => ?_) q)
      rcases s.2 with q | ⟨o, q⟩
      · rw [q] at n; cases n
      · rw [q] at n; cases n
    · exact .inr q
  · exact s H2
theorem sqL_now {a : Addr} {xs : List V} (s : P a ∧ Rd H' a (.lst xs) ∨ Kw K a xs) : SqL K H' a xs := by
  rcases s with s | s
  · exact .inl s.2
  · exact s H'
/-- a list or a tuple of data as a source -/
theorem src_seq {a : Addr} {xs : List V} {ds : List D} (s : P a ∧ Rd H' a (.lst xs) ∨ Kw K a xs) (r : RpA K P H' xs ds) (z : xs.length ≤ sizeLine) :
    Src K P H' ds (Itl K a) (fun H => SqL K H a xs ∧ RpA K (fun b => P b ∧ H' b ≠ none) H xs ds) (YAt xs) := by
  refine ⟨?_, ⟨sqL_now s, r.trk⟩, fun H1 H2 e g => ⟨sqL_keep s e g.1, trk_ext e g.2⟩, fun i H1 x H2 hi g y => ?_, by rw [← r.len]; exact z⟩
  · have w := walk_list (K := K) (a := a) (xs := xs)
    rw [r.len] at w
    exact w.mono (fun _ g => g.1) fun _ _ _ _ _ _ y => y
  · obtain ⟨rfl, hx⟩ := y
    obtain ⟨d, hd, rd⟩ := g.2.get' hx
    exact ⟨Same.refl _, d, hd, rd⟩
theorem src_tup {a : Addr} {xs : List V} {ds : List D} (s : SqT K H' a xs) (r : RpA K P H' xs ds) (z : xs.length ≤ sizeLine) :
    Src K P H' ds (Itt K a) (fun H => SqT K H a xs ∧ RpA K (fun b => P b ∧ H' b ≠ none) H xs ds) (YAt xs) := by
  refine ⟨?_, ⟨s, r.trk⟩, fun H1 H2 e g => ⟨sqT_ext e g.1, trk_ext e g.2⟩, fun i H1 x H2 hi g y => ?_, by rw [← r.len]; exact z⟩
  · have w := walk_tup (K := K) (a := a) (xs := xs)
    rw [r.len] at w
    exact w.mono (fun _ g => g.1) fun _ _ _ _ _ _ y => y
  · obtain ⟨rfl, hx⟩ := y
    obtain ⟨d, hd, rd⟩ := g.2.get' hx
    exact ⟨Same.refl _, d, hd, rd⟩
def rgD (lo : Int) (n : Nat) : List D := (List.range n).map fun i => .int (lo + (i : Nat))
theorem rgD_len (lo : Int) (n : Nat) : (rgD lo n).length = n := by unfold rgD; rw [List.length_map, List.length_range]
theorem rgD_get {lo : Int} {n i : Nat} (h : i < n) : (rgD lo n)[i]? = some (.int (lo + (i : Nat))) := by
  unfold rgD
  rw [List.getElem?_map, List.getElem?_range h]
  rfl
theorem src_rg {lo : Int} {n : Nat} (z : n ≤ 1000000) : Src K P H' (rgD lo n) (Itr lo n) (fun _ => True) (YFn fun i => .int (lo + i)) := by
  refine ⟨?_, trivial, fun _ _ _ _ => trivial, fun i H1 x H2 hi g y => ?_, ?_⟩
  · rw [rgD_len]; exact walk_range
  · rw [rgD_len] at hi
    obtain ⟨rfl, rfl⟩ := y
    exact ⟨Same.refl _, _, rgD_get hi, .int _⟩
  · rw [rgD_len]; exact lineM z
end
section
variable {X : Cx} {own : List Nat} {pos : Pos} {tg : Expr}
def iL (f : FE) : FA := fun s => (f s).bind fun r => match r.1 with
  | .list ds => some (ds, r.2)
  | _ => none
def iT (f : FE) : FA := fun s => (f s).bind fun r => match r.1 with
  | .tuple ds => some (ds, r.2)
  | _ => none
theorem lst_src {K : PySem.W.Frag} {P : Addr → Prop} {H : Hp} {v : V} {ds : List D} (r : Rp K P H v (.list ds)) : ∃ a xs, v = .ref a ∧ SqL K H a xs ∧ (P a ∧ Rd H a (.lst xs) ∨ Kw K a xs) ∧ RpA K P H xs ds := by
  cases r with
  | lst p s r => exact ⟨_, _, rfl, .inl s, .inl ⟨p, s⟩, r⟩
  | klst s r => exact ⟨_, _, rfl, s H, .inr s, r⟩
theorem mi_list {e : Expr} {f : FE} (he : ME X own e f) : MI X own tg e (iL f) := ⟨PI_imp (pi_list (PE_sized he.pe)) fun σ H R q => by
  obtain ⟨P, σd, d, σd', gd, hf, q⟩ := q
  unfold iL at hf
  obtain ⟨⟨a, s1⟩, h1, hf⟩ := Option.bind_eq_some_iff.mp hf
  cases a with
  | list ds =>
    cases hf
    refine tE_of gd h1 fun v H1 g1 e1 r1 z => ?_
    obtain ⟨a, xs, rfl, sq, s, r⟩ := lst_src r1
    exact ⟨a, rfl, ⟨xs, sq⟩, q _ H1 _ _ g1 e1 (src_seq s r (z.1 _ _ sq))⟩
  | _ => cases hf⟩
theorem mi_tup {e : Expr} {f : FE} (he : ME X own e f) : MI X own tg e (iT f) := ⟨PI_imp (pi_tup (PE_sized he.pe)) fun σ H R q => by
  obtain ⟨P, σd, d, σd', gd, hf, q⟩ := q
  unfold iT at hf
  obtain ⟨⟨a, s1⟩, h1, hf⟩ := Option.bind_eq_some_iff.mp hf
  cases a with
  | tuple ds =>
    cases hf
    refine tE_of gd h1 fun v H1 g1 e1 r1 z => ?_
    cases r1 with
    | tup sq r => exact ⟨_, rfl, ⟨_, sq.sq⟩, q _ H1 _ _ g1 e1 (src_tup sq.sq r (z.2 _ _ sq.sq))⟩
  | _ => cases hf⟩
def iR1 (f : FE) : FA := fun s => (f s).bind fun r => match r.1 with
  | .int n => if -1000000 ≤ n ∧ n ≤ 1000000 then some (rgD 0 n.toNat, r.2) else none
  | _ => none
theorem mi_rg1 {p : Pos} {e : Expr} {f : FE} (hg : Gl X "range") (hm : X.mg "range" = none) (he : ME X own e f) (hpi : PA X [e] (tCons (tE X.K own f) tNil) → PI X tg (.Call (.Name "range" p) [e] [] pos) (iRng1 (tCons (tE X.K own f) tNil))) (hse : starEach [e] X.env = (false, eval e X.env) :: starEach [] X.env := by rfl) :
    MI X own tg (.Call (.Name "range" p) [e] [] pos) (iR1 f) := ⟨PI_imp (hpi (pa_cons he.pe pa_nil hse)) fun σ H R q => by
  obtain ⟨P, σd, d, σd', gd, hf, q⟩ := q
  unfold iR1 at hf
  obtain ⟨⟨a, s1⟩, h1, hf⟩ := Option.bind_eq_some_iff.mp hf
  cases a with
  | int n =>
    dsimp only at hf
    split at hf
    · rename_i hn
      cases hf
      refine tE_of gd h1 fun v H1 g1 e1 r1 => ?_
      cases r1
      exact ⟨n, rfl, by omega, by omega, q _ H1 _ _ g1 e1 (src_rg (by omega))⟩
    · cases hf
  | _ => cases hf⟩
def iR2 (f g : FE) : FA := fun s => (f s).bind fun a => (g a.2).bind fun b => match a.1, b.1 with
  | .int lo, .int hi => if -400000 ≤ lo ∧ lo ≤ 400000 ∧ -400000 ≤ hi ∧ hi ≤ 400000 then some (rgD lo (hi - lo).toNat, b.2) else none
  | _, _ => none
theorem mi_rg2 {p : Pos} {e1 e2 : Expr} {f1 f2 : FE} (h1 : ME X own e1 f1) (h2 : ME X own e2 f2) (hpi : PA X [e1, e2] (tCons (tE X.K own f1) (tCons (tE X.K own f2) tNil)) → PI X tg (.Call (.Name "range" p) [e1, e2] [] pos) (iRng2 (tCons (tE X.K own f1) (tCons (tE X.K own f2) tNil))))
    (hse : starEach [e1, e2] X.env = (false, eval e1 X.env) :: starEach [e2] X.env := by rfl) (hse2 : starEach [e2] X.env = (false, eval e2 X.env) :: starEach [] X.env := by rfl) :
    MI X own tg (.Call (.Name "range" p) [e1, e2] [] pos) (iR2 f1 f2) := ⟨PI_imp (hpi (pa_cons h1.pe (pa_cons h2.pe pa_nil hse2) hse)) fun σ H R q => by
  obtain ⟨P, σd, d, σd', gd, hf, q⟩ := q
  unfold iR2 at hf
  obtain ⟨⟨a, s1⟩, h1, hf⟩ := Option.bind_eq_some_iff.mp hf
  obtain ⟨⟨b, s2⟩, h2, hf⟩ := Option.bind_eq_some_iff.mp hf
  dsimp only at hf
  split at hf
  · split at hf
    · rename_i lo hi hn
      cases hf
      refine tE_of gd h1 fun v H1 g1 e1 r1 => tE_of g1 h2 fun w H2 g2 e2 r2 => ?_
      cases r1
      cases r2
      exact ⟨_, _, rfl, ⟨by omega, by omega, by omega, by omega⟩, q _ H2 _ _ g2 (e1.trans e2) (src_rg (by omega))⟩
    · cases hf
  · cases hf⟩
end
/-! pairs: zip, enumerate -/
abbrev prD (x y : D) : D := wk [x, y]
theorem pair_item {K : PySem.W.Frag} {P : Addr → Prop} {H1 H2 : Hp} {x : V} {fx fy : Nat → Option V} {i : Nat} (y : YPair fx fy i H1 x H2) {a b : D} (ha : ∀ v, fx i = some v → Rp K P H1 v a) (hb : ∀ v, fy i = some v → Rp K P H1 v b) :
    Same H1 H2 ∧ Rp K P H2 x (prD a b) := by
  obtain ⟨T, x1, x2, rfl, nT, rfl, h1, h2⟩ := y
  exact ⟨same_new nT, .mkW nT (.cons (ha _ h1) (.cons (hb _ h2) .nil))⟩
section
variable {X : Cx} {own : List Nat} {pos tpos : Pos} {elts : List Expr} {kk : Nat}
def zipD : List D → List D → List D
  | x :: xs, y :: ys => prD x y :: zipD xs ys
  | _, _ => []
theorem zipD_len : ∀ xs ys : List D, (zipD xs ys).length = min xs.length ys.length
  | [], ys => by unfold zipD; simp
  | x :: xs, [] => by unfold zipD; simp
  | x :: xs, y :: ys => by unfold zipD; simp only [List.length_cons, zipD_len xs ys]; omega
theorem zipD_get : ∀ {xs ys : List D} {i : Nat} {a b : D}, xs[i]? = some a → ys[i]? = some b → (zipD xs ys)[i]? = some (prD a b)
  | [], _, _, _, _, h, _ => by simp at h
  | x :: xs, [], _, _, _, _, h => by simp at h
  | x :: xs, y :: ys, 0, a, b, h, h2 => by
    simp only [List.getElem?_cons_zero, Option.some.injEq] at h h2
    subst h h2
    rfl
  | x :: xs, y :: ys, i + 1, a, b, h, h2 => by
    simp only [List.getElem?_cons_succ] at h h2
    show (zipD xs ys)[i]? = _
    exact zipD_get h h2
/-- the items of a tuple, known or not -/
def tupD : D → Option (List D)
  | .tuple ds => some ds
  | .dict [(.bool true, .tuple ds)] => some ds
  | _ => none
theorem tupD_rp {K : PySem.W.Frag} {P : Addr → Prop} {H : Hp} {v : V} {d : D} {ds : List D} (h : tupD d = some ds) (r : Rp K P H v d) : ∃ a xs, v = .ref a ∧ SqT K H a xs ∧ RpA K P H xs ds := by
  unfold tupD at h
  split at h
  · cases h
    cases r with
    | tup s r => exact ⟨_, _, rfl, s.sq, r⟩
  · cases h
    cases r with
    | wtup s r => exact ⟨_, _, rfl, .inl (.inl s), r⟩
  · cases h
def iZ (f g : FE) : FA := fun s => (f s).bind fun a => (g a.2).bind fun b => match a.1, b.1 with
  | .list xs, .list ys => some (zipD xs ys, b.2)
  | x, y => (tupD x).bind fun xs => (tupD y).map fun ys => (zipD xs ys, b.2)
theorem src_zip {K : PySem.W.Frag} {P : Addr → Prop} {H' : Hp} {xs ys : List V} {ds es : List D} {J : It} {G0 : Hp → Prop} (w : ∀ n, n = min xs.length ys.length → Walk J n G0 (YPair (fun i => xs[i]?) (fun i => ys[i]?)))
    (s : G0 H') (kp : ∀ H1 H2, Ext (fun b => ¬ P b ∨ H' b = none) H1 H2 → G0 H1 → G0 H2) (r : RpA K P H' xs ds) (r2 : RpA K P H' ys es) (z : xs.length ≤ sizeLine) :
    Src K P H' (zipD ds es) J (fun H => G0 H ∧ RpA K (fun b => P b ∧ H' b ≠ none) H xs ds ∧ RpA K (fun b => P b ∧ H' b ≠ none) H ys es) (YPair (fun i => xs[i]?) (fun i => ys[i]?)) := by
  refine ⟨?_, ⟨s, r.trk, r2.trk⟩, fun H1 H2 e g => ⟨kp H1 H2 e g.1, trk_ext e g.2.1, trk_ext e g.2.2⟩, fun i H1 x H2 hi g y => ?_, ?_⟩
  · exact (w _ (by rw [zipD_len, r.len, r2.len])).mono (fun _ g => g.1) fun _ _ _ _ _ _ y => y
  · rw [zipD_len] at hi
    have e1 : ds[i]? = some (ds[i]'(by omega)) := List.getElem?_eq_getElem (by omega)
    have e2 : es[i]? = some (es[i]'(by omega)) := List.getElem?_eq_getElem (by omega)
    obtain ⟨sm, q⟩ := pair_item (K := K) (P := fun b => P b ∧ H' b ≠ none) (a := ds[i]'(by omega)) (b := es[i]'(by omega)) y (fun v hv => by
      obtain ⟨d, h1, h2⟩ := g.2.1.get' hv
      rw [e1] at h1; cases h1; exact h2) (fun v hv => by
      obtain ⟨d, h1, h2⟩ := g.2.2.get' hv
      rw [e2] at h1; cases h1; exact h2)
    exact ⟨sm, _, zipD_get e1 e2, q⟩
  · rw [zipD_len, ← r.len]; omega
theorem walk_zipT {K : PySem.W.Frag} {a b : Addr} {xs ys : List V} {n : Nat} (hn : n = min xs.length ys.length) : Walk (RZ.ItzT K a b) n (fun H => SqT K H a xs ∧ SqT K H b ys) (YPair (fun i => xs[i]?) (fun i => ys[i]?)) := by
  subst hn
  refine ⟨fun i _ hi q => ?_, fun _ q => ⟨xs, ys, q.1, q.2, by omega⟩, fun i H v H' _ q y => ?_⟩
  · have h1 : i < xs.length := by omega
    have h2 : i < ys.length := by omega
    exact ⟨xs, ys, xs[i], ys[i], q.1, q.2, by simp [h1], by simp [h2]⟩
  · obtain ⟨T, x, z, h1, h2, h3, h4, h5⟩ := y
    exact ⟨T, x, z, h1, h2, h3, h4 xs q.1, h5 ys q.2⟩
theorem mi_zip {p : Pos} {e1 e2 : Expr} {f1 f2 : FE} (h1 : ME X own e1 f1) (h2 : ME X own e2 f2) (hpi : ∀ {t : TA}, PA X [e1, e2] t → PI X (.Tuple elts kk tpos) (.Call (.Name "zip" p) [e1, e2] [] pos) (RZ.iZipA X.K t))
    (hse : starEach [e1, e2] X.env = (false, eval e1 X.env) :: starEach [e2] X.env := by rfl) (hse2 : starEach [e2] X.env = (false, eval e2 X.env) :: starEach [] X.env := by rfl) :
    MI X own (.Tuple elts kk tpos) (.Call (.Name "zip" p) [e1, e2] [] pos) (iZ f1 f2) := ⟨PI_imp (hpi (PA_sized (pa_cons h1.pe (pa_cons h2.pe pa_nil hse2) hse))) fun σ H R q => by
  obtain ⟨P, σd, d, σd', gd, hf, q⟩ := q
  unfold iZ at hf
  obtain ⟨⟨a, s1⟩, h1, hf⟩ := Option.bind_eq_some_iff.mp hf
  obtain ⟨⟨b, s2⟩, h2, hf⟩ := Option.bind_eq_some_iff.mp hf
  dsimp only at hf
  refine tE_of gd h1 fun v H1 g1 e1 r1 => tE_of g1 h2 fun w H2 g2 e2 r2 => ?_
  intro z
  have r1 := r1.ext e2 g1.nw
  split at hf
  · cases hf
    obtain ⟨a, xs, rfl, sq, s, r⟩ := lst_src r1
    obtain ⟨a2, ys, rfl, sq2, s2, r2⟩ := lst_src r2
    exact ⟨_, _, _, _, rfl, .inl ⟨sq, sq2, q _ H2 _ _ g2 (e1.trans e2) (src_zip (fun n hn => walk_zip hn) ⟨sq, sq2⟩ (fun H3 H4 e g => ⟨sqL_keep s e g.1, sqL_keep s2 e g.2⟩) r r2 (z.1 _ _ sq))⟩⟩
  · obtain ⟨xs', t1, hf⟩ := Option.bind_eq_some_iff.mp hf
    obtain ⟨ys', t2, hf⟩ := Option.map_eq_some_iff.mp hf
    cases hf
    obtain ⟨a, xs, rfl, sq, r⟩ := tupD_rp t1 r1
    obtain ⟨a2, ys, rfl, sq2, r2⟩ := tupD_rp t2 r2
    exact ⟨_, _, _, _, rfl, .inr ⟨sq, sq2, q _ H2 _ _ g2 (e1.trans e2) (src_zip (fun n hn => walk_zipT hn) ⟨sq, sq2⟩ (fun H3 H4 e g => ⟨sqT_ext e g.1, sqT_ext e g.2⟩) r r2 (z.2 _ _ sq))⟩⟩⟩
/-! enumerate -/
def enD : Nat → List D → List D
  | _, [] => []
  | n, d :: ds => prD (.int n) d :: enD (n + 1) ds
theorem enD_len : ∀ (n : Nat) (ds : List D), (enD n ds).length = ds.length
  | _, [] => rfl
  | n, d :: ds => by unfold enD; simp only [List.length_cons, enD_len (n + 1) ds]
theorem enD_get : ∀ {n : Nat} {ds : List D} {i : Nat} {d : D}, ds[i]? = some d → (enD n ds)[i]? = some (prD (.int ((n + i : Nat) : Int)) d)
  | n, [], i, d, h => by simp at h
  | n, e :: ds, 0, d, h => by
    simp only [List.getElem?_cons_zero, Option.some.injEq] at h
    subst h
    rfl
  | n, e :: ds, i + 1, d, h => by
    simp only [List.getElem?_cons_succ] at h
    show (enD (n + 1) ds)[i]? = _
    rw [enD_get h, show n + 1 + i = n + (i + 1) by omega]
def iEn (f : FE) : FA := fun s => (f s).bind fun a => match a.1 with
  | .list xs => some (enD 0 xs, a.2)
  | _ => none
theorem mi_enum {p : Pos} {e : Expr} {f : FE} (h : ME X own e f) (hpi : ∀ {t : TA}, PA X [e] t → PI X (.Tuple elts kk tpos) (.Call (.Name "enumerate" p) [e] [] pos) (iEnum X.K t)) (hse : starEach [e] X.env = (false, eval e X.env) :: starEach [] X.env := by rfl) :
    MI X own (.Tuple elts kk tpos) (.Call (.Name "enumerate" p) [e] [] pos) (iEn f) := ⟨PI_imp (hpi (PA_sized (pa_cons h.pe pa_nil hse))) fun σ H R q => by
  obtain ⟨P, σd, d, σd', gd, hf, q⟩ := q
  unfold iEn at hf
  obtain ⟨⟨a, s1⟩, h1, hf⟩ := Option.bind_eq_some_iff.mp hf
  dsimp only at hf
  refine tE_of gd h1 fun v H1 g1 e1 r1 => ?_
  intro z
  split at hf
  · rename_i ds
    cases hf
    obtain ⟨a, xs, rfl, sq, s, r⟩ := lst_src r1
    refine ⟨_, _, rfl, sq, q _ H1 (fun H => SqL X.K H a xs ∧ RpA X.K (fun b => P b ∧ H1 b ≠ none) H xs ds) (YPair (fun i => some (.int (i : Nat))) (fun i => xs[i]?)) g1 e1 ⟨?_, ⟨sq, r.trk⟩, fun H3 H4 e g => ⟨sqL_keep s e g.1, trk_ext e g.2⟩, fun i H3 x H4 hi g y => ?_, ?_⟩⟩
    · have w := walk_enum (K := X.K) (a := a) (xs := xs)
      rw [enD_len, ← r.len]
      exact w.mono (fun _ g => g.1) fun _ _ _ _ _ _ y => y
    · rw [enD_len] at hi
      have e1 : ds[i]? = some (ds[i]'hi) := List.getElem?_eq_getElem hi
      obtain ⟨sm, q⟩ := pair_item (K := X.K) (P := fun b => P b ∧ H1 b ≠ none) (a := .int (i : Nat)) (b := ds[i]'hi) y (fun v hv => by
        cases hv; exact .int _) (fun v hv => by
        obtain ⟨d, h1, h2⟩ := g.2.get' hv
        rw [e1] at h1; cases h1; exact h2)
      refine ⟨sm, _, enD_get e1, ?_⟩
      rw [Nat.zero_add]
      exact q
    · rw [enD_len, ← r.len]; exact z.1 _ _ sq
  · cases hf⟩
end
end Mi
set_option Elab.async false
set_option linter.all false
set_option maxRecDepth 100000
namespace Mi
open PySem PySem.Spec L2

/-! ### slots changed -/
section
variable {K : PySem.W.Frag} {own : List Nat} {P P' : Addr → Prop} {σd : SD} {σ σ' : L2.St} {H H' : Hp}
theorem get_set {α : Type} {l : List α} {i j : Nat} {a x : α} (h : (l.set i a)[j]? = some x) : (j = i ∧ x = a ∧ i < l.length) ∨ (j ≠ i ∧ l[j]? = some x) := by
  by_cases e : j = i
  · subst e
    by_cases hl : j < l.length
    · rw [List.getElem?_set_self hl] at h
      cases h
      exact .inl ⟨rfl, rfl, hl⟩
    · rw [List.getElem?_eq_none (by rw [List.length_set]; omega)] at h
      cases h
  · rw [List.getElem?_set_ne (Ne.symm e)] at h
    exact .inr ⟨e, h⟩
theorem Gd.set (g : Gd K own P σd σ H) {i : Nat} {v : V} {d : D} (hi : i ∉ own) (r : Rp K P H v d) : Gd K own P (σd.set i (some d)) (σ.set i (some v)) H := by
  have neO : ∀ j, j ∈ own → j ≠ i := fun j hj e => hi (e ▸ hj)
  refine ⟨by rw [List.length_set, List.length_set]; exact g.len, g.fresh, fun b w => ?_, fun j d' hj h => ?_, fun j hj w h => ?_, fun j d' hj h => ?_, fun j k a hj hk h1 h2 => ?_⟩
  · obtain ⟨j, hj, e⟩ := w
    rw [List.getElem?_set_ne (Ne.symm (neO j hj))] at e
    exact g.nw b ⟨j, hj, e⟩
  · rcases get_set h with ⟨rfl, e, hl⟩ | ⟨ne, h⟩
    · cases e
      exact ⟨v, List.getElem?_set_self (by rw [← g.len]; exact hl), r⟩
    · obtain ⟨w, e, q⟩ := g.shr j d' hj h
      exact ⟨w, by rw [List.getElem?_set_ne (Ne.symm ne)]; exact e, q⟩
  · rw [List.getElem?_set_ne (Ne.symm (neO j hj))] at h
    obtain ⟨a, d', e1, e2, o⟩ := g.ows j hj w h
    exact ⟨a, d', e1, by rw [List.getElem?_set_ne (Ne.symm (neO j hj))]; exact e2, o⟩
  · rw [List.getElem?_set_ne (Ne.symm (neO j hj))] at h ⊢
    exact g.owd j d' hj h
  · rw [List.getElem?_set_ne (Ne.symm (neO j hj))] at h1
    rw [List.getElem?_set_ne (Ne.symm (neO k hk))] at h2
    exact g.dj j k a hj hk h1 h2
/-- a slot forgotten -/
theorem Gd.unset (g : Gd K own P σd σ H) {i : Nat} (hi : i ∉ own) : Gd K own P (σd.set i none) (σ.set i none) H := by
  have neO : ∀ j, j ∈ own → j ≠ i := fun j hj e => hi (e ▸ hj)
  refine ⟨by rw [List.length_set, List.length_set]; exact g.len, g.fresh, fun b w => ?_, fun j d' hj h => ?_, fun j hj w h => ?_, fun j d' hj h => ?_, fun j k a hj hk h1 h2 => ?_⟩
  · obtain ⟨j, hj, e⟩ := w
    rw [List.getElem?_set_ne (Ne.symm (neO j hj))] at e
    exact g.nw b ⟨j, hj, e⟩
  · rcases get_set h with ⟨rfl, e, hl⟩ | ⟨ne, h⟩
    · cases e
    · obtain ⟨w, e, q⟩ := g.shr j d' hj h
      exact ⟨w, by rw [List.getElem?_set_ne (Ne.symm ne)]; exact e, q⟩
  · rw [List.getElem?_set_ne (Ne.symm (neO j hj))] at h
    obtain ⟨a, d', e1, e2, o⟩ := g.ows j hj w h
    exact ⟨a, d', e1, by rw [List.getElem?_set_ne (Ne.symm (neO j hj))]; exact e2, o⟩
  · rw [List.getElem?_set_ne (Ne.symm (neO j hj))] at h ⊢
    exact g.owd j d' hj h
  · rw [List.getElem?_set_ne (Ne.symm (neO j hj))] at h1
    rw [List.getElem?_set_ne (Ne.symm (neO k hk))] at h2
    exact g.dj j k a hj hk h1 h2
def wipeD (s : SD) : List Nat → SD
  | [] => s
  | v :: vs => (wipeD s vs).set v none
theorem Gd.wipe (g : Gd K own P σd σ H) : ∀ {vs : List Nat}, (∀ i ∈ vs, i ∉ own) → Gd K own P (wipeD σd vs) (L2.wipe σ vs) H
  | [], _ => g
  | v :: vs, h => (Gd.wipe g (fun i hi => h i (List.mem_cons_of_mem _ hi))).unset (h v List.mem_cons_self)
theorem wipe_off {vs : List Nat} {i : Nat} (h : i ∉ vs) : (L2.wipe σ vs)[i]? = σ[i]? := by
  induction vs with
  | nil => rfl
  | cons v vs ih =>
    show ((L2.wipe σ vs).set v none)[i]? = _
    rw [List.getElem?_set_ne (fun e => h (by rw [← e]; exact List.mem_cons_self)), ih fun z => h (List.mem_cons_of_mem _ z)]
theorem wipeD_off {s : SD} {vs : List Nat} {i : Nat} (h : i ∉ vs) : (wipeD s vs)[i]? = s[i]? := by
  induction vs with
  | nil => rfl
  | cons v vs ih =>
    show ((wipeD s vs).set v none)[i]? = _
    rw [List.getElem?_set_ne (fun e => h (by rw [← e]; exact List.mem_cons_self)), ih fun z => h (List.mem_cons_of_mem _ z)]
theorem wipe_on {vs : List Nat} {i : Nat} (h : i ∈ vs) (hl : i < σ.length) : (L2.wipe σ vs)[i]? = some none := by
  induction vs with
  | nil => cases h
  | cons v vs ih =>
    show ((L2.wipe σ vs).set v none)[i]? = _
    by_cases e : v = i
    · subst e
      exact List.getElem?_set_self (by rw [L2.wipe_length]; exact hl)
    · rw [List.getElem?_set_ne e]
      exact ih ((List.mem_cons.mp h).resolve_left fun z => e z.symm)
theorem wipe_same {vs : List Nat} (hl : σ'.length = σ.length) (h : ∀ i, i ∉ vs → σ'[i]? = σ[i]?) : L2.wipe σ' vs = L2.wipe σ vs := by
  apply List.ext_getElem?
  intro i
  by_cases e : i ∈ vs
  · by_cases hi : i < σ.length
    · rw [wipe_on e hi, wipe_on e (by rw [hl]; exact hi)]
    · rw [List.getElem?_eq_none (by rw [L2.wipe_length]; omega), List.getElem?_eq_none (by rw [L2.wipe_length]; omega)]
  · rw [wipe_off e, wipe_off e, h i e]
theorem Wr.same (h : ∀ i ∈ own, σ'[i]? = σ[i]?) {b : Addr} (w : Wr own σ' b) : Wr own σ b := by
  obtain ⟨i, hi, e⟩ := w
  exact ⟨i, hi, by rw [← h i hi]; exact e⟩
/-- something that no slot speaks of is written -/
theorem Gd.elsewhere (g : Gd K own P σd σ H) {p : Addr} {o u : HO} (n : ¬ P p) (w : ¬ Wr own σ p) (h : H p = some u) (m : Mut (some u)) : Gd K own P σd σ (upd H p o) := by
  have ex : Ext (fun b => b = p) H (upd H p o) := Ext.write rfl (by rw [h]; exact m)
  have hn : ∀ b, b = p → ¬ P b := fun b e => e ▸ n
  refine ⟨g.len, fun b hb => g.fresh b (ex.g b hb), g.nw, fun i d hi e => ?_, fun i hi v e => ?_, g.owd, g.dj⟩
  · obtain ⟨v, e, r⟩ := g.shr i d hi e
    exact ⟨v, e, r.ext ex hn⟩
  · obtain ⟨a, d, e1, e2, q⟩ := g.ows i hi v e
    refine ⟨a, d, e1, e2, q.keep ex hn fun o q => ?_⟩
    subst e1
    rw [upd_ne (fun z => w ⟨i, hi, by rw [e, z]⟩)]
    exact q
theorem Gd.weak (g : Gd K own P σd σ H) (h : ∀ b, P b → P' b) (n : ∀ b, Wr own σ b → ¬ P' b) : Gd K own P' σd σ H :=
  ⟨g.len, fun b e => h b (g.fresh b e), n, fun i d hi e => let ⟨v, q, r⟩ := g.shr i d hi e; ⟨v, q, r.mono h⟩, fun i hi v e => let ⟨a, d, q1, q2, o⟩ := g.ows i hi v e; ⟨a, d, q1, q2, o.mono h⟩, g.owd, g.dj⟩
end

/-! ### targets -/
abbrev FG := D → SD → Option SD
def tG (K : PySem.W.Frag) (own ts : List Nat) (h : FG) : TG := fun v σ H Q => ∃ (P : Addr → Prop) (σd : SD) (d : D) (σd' : SD), Gd K own P σd σ H ∧ Rp K P H v d ∧ h d σd = some σd' ∧
  ∀ σ' H', Gd K own P σd' σ' H' → Ext (Wr own σ) H H' → σ'.length = σ.length → (∀ i, i ∉ ts → σ'[i]? = σ[i]?) → Q σ' H'
structure MG (X : Cx) (own ts : List Nat) (tg : Expr) (h : FG) : Prop where
  pg : PG X tg (tG X.K own ts h)
  off : ∀ i ∈ ts, i ∉ own
abbrev FGs := List D → SD → Option SD
def tGs (K : PySem.W.Frag) (own ts : List Nat) (h : FGs) : TGs := fun vs σ H Q => ∃ (P : Addr → Prop) (σd : SD) (ds : List D) (σd' : SD), Gd K own P σd σ H ∧ RpA K P H vs ds ∧ h ds σd = some σd' ∧
  ∀ σ' H', Gd K own P σd' σ' H' → Ext (Wr own σ) H H' → σ'.length = σ.length → (∀ i, i ∉ ts → σ'[i]? = σ[i]?) → Q σ' H'
structure MGs (X : Cx) (own ts : List Nat) (tg : List Expr) (h : FGs) : Prop where
  pg : PGs X tg (tGs X.K own ts h)
  off : ∀ i ∈ ts, i ∉ own
theorem PG_imp {X : Cx} {tg : Expr} {t t' : TG} (h : PG X tg t) (i : ∀ v σ H Q, t' v σ H Q → t v σ H Q) : PG X tg t' := ⟨fun pins s σ H v u Q I r q => h.run pins s σ H v u Q I r (i v σ H Q q)⟩
theorem PGs_imp {X : Cx} {tg : List Expr} {t t' : TGs} (h : PGs X tg t) (i : ∀ v σ H Q, t' v σ H Q → t v σ H Q) : PGs X tg t' := ⟨fun pins s σ H v u Q I r q => h.run pins s σ H v u Q I r (i v σ H Q q)⟩
section
variable {X : Cx} {own : List Nat} {pos : Pos}
def gNm (i : Nat) : FG := fun d s => some (s.set i (some d))
theorem mg_name {i : Nat} {tg : Expr} (h : PG X tg (gName i)) (hi : i ∉ own) : MG X own [i] tg (gNm i) := ⟨PG_imp h fun v σ H Q q => by
  obtain ⟨P, σd, d, σd', g, r, hf, q⟩ := q
  cases hf
  refine q _ H (g.set hi r) (Ext.refl _ _) (List.length_set ..) fun j hj => ?_
  exact List.getElem?_set_ne (fun e => hj (by rw [e]; exact List.mem_cons_self)), fun j hj => by
  rw [List.mem_singleton] at hj
  subst hj
  exact hi⟩
def gsNil : FGs := fun ds s => match ds with
  | [] => some s
  | _ => none
def gsCons (h : FG) (t : FGs) : FGs := fun ds s => match ds with
  | d :: r => (h d s).bind fun s1 => t r s1
  | [] => none
theorem mgs_nil (h : PGs X [] gNil) : MGs X own [] [] gsNil := ⟨PGs_imp h fun v σ H Q q => by
  obtain ⟨P, σd, d, σd', g, r, hf, q⟩ := q
  unfold gsNil at hf
  split at hf
  · cases hf
    cases r
    exact ⟨rfl, q σ H g (Ext.refl _ _) rfl fun _ _ => rfl⟩
  · exact (by cases hf), fun i hi => nomatch hi⟩
theorem mgs_cons {ts us : List Nat} {tg : Expr} {tgs : List Expr} {h : FG} {t : FGs} (a : MG X own ts tg h) (b : MGs X own us tgs t) (hp : PG X tg (tG X.K own ts h) → PGs X tgs (tGs X.K own us t) → PGs X (tg :: tgs) (gCons (tG X.K own ts h) (tGs X.K own us t))) : MGs X own (ts ++ us) (tg :: tgs) (gsCons h t) := ⟨PGs_imp (hp a.pg b.pg) fun v σ H Q q => by
  obtain ⟨P, σd, d, σd', g, r, hf, q⟩ := q
  unfold gsCons at hf
  split at hf
  · obtain ⟨s1, h1, h2⟩ := Option.bind_eq_some_iff.mp hf
    cases r with
    | cons r1 r2 =>
      have sm : ∀ i ∈ own, i ∉ ts := fun i hi z => a.off i z hi
      refine ⟨_, _, rfl, P, σd, _, s1, g, r1, h1, fun σ1 H1 g1 e1 l1 o1 => ⟨P, s1, _, σd', g1, r2.ext e1 g.nw, h2, fun σ2 H2 g2 e2 l2 o2 => ?_⟩⟩
      refine q σ2 H2 g2 (e1.trans (e2.weak fun b w => Wr.same (fun i hi => o1 i (sm i hi)) w)) (l2.trans l1) fun i hi => ?_
      rw [o2 i fun z => hi (List.mem_append_right _ z), o1 i fun z => hi (List.mem_append_left _ z)]
  · exact (by cases hf), fun i hi => (List.mem_append.mp hi).elim (a.off i) (b.off i)⟩
def gTp (t : FGs) : FG := fun d s => match d with
  | .tuple ds => t ds s
  | .dict [(.bool true, .tuple ds)] => t ds s
  | _ => none
theorem mg_tup {ts : List Nat} {tg : Expr} {n : Nat} {t : FGs} (b : ∀ ds s s', t ds s = some s' → ds.length = n) (hp : PG X tg (gTup X.K n (tGs X.K own ts t))) (off : ∀ i ∈ ts, i ∉ own) : MG X own ts tg (gTp t) := ⟨PG_imp hp fun v σ H Q q => by
  obtain ⟨P, σd, d, σd', g, r, hf, q⟩ := q
  unfold gTp at hf
  split at hf
  · cases r with
    | tup s r => exact ⟨_, _, rfl, s.sq, by rw [r.len]; exact b _ _ _ hf, P, σd, _, σd', g, r, hf, q⟩
  · cases r with
    | wtup s r => exact ⟨_, _, rfl, .inl (.inl s), by rw [r.len]; exact b _ _ _ hf, P, σd, _, σd', g, r, hf, q⟩
  · exact (by cases hf), off⟩
theorem gsNil_len {ds : List D} {s s' : SD} (h : gsNil ds s = some s') : ds.length = 0 := by
  unfold gsNil at h
  split at h
  · rfl
  · cases h
theorem gsCons_len {h : FG} {t : FGs} {n : Nat} (b : ∀ ds s s', t ds s = some s' → ds.length = n) {ds : List D} {s s' : SD} (q : gsCons h t ds s = some s') : ds.length = n + 1 := by
  unfold gsCons at q
  split at q
  · obtain ⟨s1, h1, h2⟩ := Option.bind_eq_some_iff.mp q
    rw [List.length_cons, b _ _ _ h2]
  · cases q

/-! ### comprehensions -/
structure MTs (X : Cx) (own : List Nat) (ifs : List Expr) (f : FT) : Prop where
  pt : PTs X ifs (tT X.K own f)
theorem PTs_imp {X : Cx} {e : List Expr} {t t' : TT} (h : PTs X e t) (i : ∀ σ H Q, t' σ H Q → t σ H Q) : PTs X e t' := ⟨fun pins s σ H Q I q => h.run pins s σ H Q I (i σ H Q q)⟩
def tYs : FT := fun s => some (true, s)
theorem mts_nil (h : PTs X [] tYes) : MTs X own [] tYs := ⟨PTs_imp h fun σ H Q q => by
  obtain ⟨P, σd, d, σd', g, hf, q⟩ := q
  cases hf
  exact q H g (Ext.refl _ _)⟩
theorem mts_one {e : Expr} {f : FT} (h : MT X own e f) (hp : PT X e (tT X.K own f) → PTs X [e] (tT X.K own f)) : MTs X own [e] f := ⟨hp h.pt⟩
def lcGo (h : FG) (ft : FT) (fe : FE) (vs : List Nat) : List D → SD → List D → Option (List D × SD)
  | [], s, acc => some (acc, s)
  | d :: r, s, acc => (h d s).bind fun s1 => (ft s1).bind fun b => if b.1 then (fe b.2).bind fun y => lcGo h ft fe vs r (wipeD y.2 vs) (acc ++ [y.1]) else lcGo h ft fe vs r (wipeD b.2 vs) acc
/-- the comprehension's own names have their old values again -/
def backD (o s : SD) : List Nat → SD
  | [] => s
  | v :: vs => (backD o s vs).set v (o[v]?.getD none)
def eLc (fi : FA) (h : FG) (ft : FT) (fe : FE) (vs : List Nat) : FE := fun s => (fi s).bind fun a => (lcGo h ft fe vs a.1 (wipeD a.2 vs) []).map fun r => (.list r.1, backD a.2 r.2 vs)
theorem backD_len (o s : SD) : ∀ vs, (backD o s vs).length = s.length
  | [] => rfl
  | v :: vs => by unfold backD; rw [List.length_set, backD_len o s vs]
theorem backD_off {o s : SD} {vs : List Nat} {i : Nat} (h : i ∉ vs) : (backD o s vs)[i]? = s[i]? := by
  induction vs with
  | nil => rfl
  | cons v vs ih =>
    show ((backD o s vs).set v _)[i]? = _
    rw [List.getElem?_set_ne (fun e => h (by rw [← e]; exact List.mem_cons_self)), ih fun z => h (List.mem_cons_of_mem _ z)]
theorem backD_on {o s : SD} {vs : List Nat} {i : Nat} {d : D} (h : i ∈ vs) (e : (backD o s vs)[i]? = some (some d)) : o[i]? = some (some d) := by
  induction vs with
  | nil => cases h
  | cons v vs ih =>
    have e : ((backD o s vs).set v (o[v]?.getD none))[i]? = some (some d) := e
    rcases get_set e with ⟨rfl, e, _⟩ | ⟨ne, e⟩
    · cases q : o[i]? with
      | none => rw [q] at e; cases e
      | some x => rw [q] at e; cases e; rfl
    · exact ih ((List.mem_cons.mp h).resolve_left ne) e
end
end Mi
set_option Elab.async false
set_option linter.all false
set_option maxRecDepth 100000
namespace Mi
open PySem PySem.Spec L2

section
variable {K : PySem.W.Frag} {own : List Nat} {P : Addr → Prop} {σd : SD} {σ : L2.St} {H H1 H2 : Hp}
theorem Ext.join {W : Addr → Prop} (a : Ext W H H1) (b : Ext (fun b => W b ∨ H1 b = none) H1 H2) : Ext W H H2 := ⟨fun c o h n => by
  have e := a.k c o h n
  refine b.k c o e fun w => w.elim n fun z => ?_
  rw [e] at z
  exact absurd z (by intro z; cases z), fun c h => a.g c (b.g c h)⟩
/-- the end of a comprehension: its own names are as they were -/
theorem Gd.back {P' : Addr → Prop} {s1 s2 : SD} {vs : List Nat} (g1 : Gd K own P s1 σ H1) (g2 : Gd K own P' s2 (L2.wipe σ vs) H2) (hv : ∀ i ∈ vs, i ∉ own) (ex : Ext (fun b => Wr own σ b ∨ H1 b = none) H1 H2) (hP : ∀ b, P b → H1 b ≠ none → P' b) :
    Gd K own P' (backD s1 s2 vs) σ H2 := by
  have ov : ∀ i, i ∈ own → i ∉ vs := fun i hi z => hv i z hi
  have wl : (L2.wipe σ vs).length = σ.length := L2.wipe_length σ vs
  refine ⟨by rw [backD_len, g2.len, wl], g2.fresh, fun b w => g2.nw b ?_, fun i d hi e => ?_, fun i hi v e => ?_, fun i d hi e => ?_, fun i j a hi hj h1 h2 => ?_⟩
  · obtain ⟨i, hi, e⟩ := w
    exact ⟨i, hi, by rw [wipe_off (ov i hi)]; exact e⟩
  · by_cases hm : i ∈ vs
    · obtain ⟨v, ev, r⟩ := g1.shr i d hi (backD_on hm e)
      exact ⟨v, ev, (r.trk.ext ex fun b w z => w.elim (fun q => g1.nw b q z.1) fun n => z.2 n).mono fun b z => hP b z.1 z.2⟩
    · rw [backD_off hm] at e
      obtain ⟨v, ev, r⟩ := g2.shr i d hi e
      rw [wipe_off hm] at ev
      exact ⟨v, ev, r⟩
  · obtain ⟨a, d, e1, e2, o⟩ := g2.ows i hi v (by rw [wipe_off (ov i hi)]; exact e)
    exact ⟨a, d, e1, by rw [backD_off (ov i hi)]; exact e2, o⟩
  · rw [backD_off (ov i hi)] at e
    obtain ⟨a, e⟩ := g2.owd i d hi e
    rw [wipe_off (ov i hi)] at e
    exact ⟨a, e⟩
  · exact g2.dj i j a hi hj (by rw [wipe_off (ov i hi)]; exact h1) (by rw [wipe_off (ov j hj)]; exact h2)
end

section
variable {X : Cx} {own : List Nat} {pos : Pos}
theorem lc_step {h : FG} {ft : FT} {fe : FE} {vs : List Nat} {d : D} {r : List D} {s : SD} {acc : List D} {z : List D × SD} (e : lcGo h ft fe vs (d :: r) s acc = some z) :
    ∃ s1 b s2, h d s = some s1 ∧ ft s1 = some (b, s2) ∧ ((b = true ∧ ∃ y s3, fe s2 = some (y, s3) ∧ lcGo h ft fe vs r (wipeD s3 vs) (acc ++ [y]) = some z) ∨ (b = false ∧ lcGo h ft fe vs r (wipeD s2 vs) acc = some z)) := by
  unfold lcGo at e
  obtain ⟨s1, h1, e⟩ := Option.bind_eq_some_iff.mp e
  obtain ⟨⟨b, s2⟩, h2, e⟩ := Option.bind_eq_some_iff.mp e
  refine ⟨s1, b, s2, h1, h2, ?_⟩
  cases b with
  | true =>
    rw [if_pos rfl] at e
    obtain ⟨⟨y, s3⟩, h3, e⟩ := Option.bind_eq_some_iff.mp e
    exact .inl ⟨rfl, y, s3, h3, e⟩
  | false =>
    rw [if_neg Bool.false_ne_true] at e
    exact .inr ⟨rfl, e⟩

theorem lc_imp {K : PySem.W.Frag} {fi : FA} {h : FG} {ft : FT} {fe : FE} {ts vs : List Nat} (hv : ∀ i ∈ vs, i ∉ own) (hts : ∀ i ∈ ts, i ∈ vs) {σ : L2.St} {H : Hp} {Q : VK} (q : tF K own (eLc fi h ft fe vs) σ H Q) : tLc (tI K own fi) (tG K own ts h) (tT K own ft) (tE K own fe) vs σ H Q := by
  obtain ⟨P, σd, d, σd', gd, hf, q⟩ := q
  unfold eLc at hf
  obtain ⟨⟨items, s1⟩, h1, hf⟩ := Option.bind_eq_some_iff.mp hf
  obtain ⟨⟨accF, s2⟩, h2, hf⟩ := Option.map_eq_some_iff.mp hf
  cases hf
  dsimp only at h2
  refine ⟨P, σd, items, s1, gd, h1, fun J H1 G Y g1 e1 src L0 nD => ?_⟩
  have nDw : ¬ Wr own σ L0 := fun w => by
    obtain ⟨o, e, _⟩ := g1.wr_there w
    rw [nD] at e; cases e
  have wr_w : ∀ {σ2 : L2.St}, (∀ i, i ∉ vs → σ2[i]? = σ[i]?) → ∀ {b : Addr}, Wr own σ2 b → Wr own σ b := fun {σ2} hs {b} w => Wr.same (fun i hi => hs i fun z => hv i z hi) w
  refine lc_it src.walk (fun i Hc => ∃ (sd : SD) (acc : List D) (xs : List V), Gd K own (fun b => P b ∧ b ≠ L0) sd (L2.wipe σ vs) Hc ∧ lcGo h ft fe vs (items.drop i) sd acc = some (accF, s2) ∧ Hc L0 = some (.lst xs) ∧ RpA K (fun b => P b ∧ b ≠ L0) Hc xs acc ∧ acc.length ≤ i ∧ Ext (fun b => Wr own σ b ∨ H1 b = none) H1 Hc) ?_ ?_ ?_ ?_
  · refine ⟨wipeD s1 vs, [], [], (g1.off nD).wipe hv, h2, upd_same, .nil, Nat.zero_le _, (Ext.new nD)⟩
  · rintro i Hc hi ⟨sd, acc, xs, _, _, _, _, _, ex⟩
    exact src.keep H1 Hc (ex.weak fun b w => w.imp_left (g1.nw b)) src.now
  · rintro i x Hc Hc' hi ⟨sd, acc, xs, gc, hgo, eD, ra, hl, ex⟩ y
    have gG : G Hc := src.keep H1 Hc (ex.weak fun b w => w.imp_left (g1.nw b)) src.now
    obtain ⟨sm, d, hd, rd⟩ := src.item i Hc x Hc' hi gG y
    have ed : items.drop i = d :: items.drop (i + 1) := by
      rw [List.drop_eq_getElem_cons hi]
      rw [List.getElem?_eq_getElem hi] at hd
      cases hd
      rfl
    rw [ed] at hgo
    obtain ⟨t1, b, t2, k1, k2, k3⟩ := lc_step hgo
    have gc' := gc.same sm
    have rd' : Rp K (fun b => P b ∧ b ≠ L0) Hc' x d := rd.mono fun b z => ⟨z.1, fun e => z.2 (e ▸ nD)⟩
    refine ⟨_, sd, d, t1, gc', rd', k1, fun σ2 H2 g2 e2 l2 o2 => ?_⟩
    have o2' : ∀ i, i ∉ vs → σ2[i]? = σ[i]? := fun j hj => by rw [o2 j fun z => hj (hts j z), wipe_off hj]
    have ws : L2.wipe σ2 vs = L2.wipe σ vs := wipe_same (by rw [l2, L2.wipe_length]) o2'
    have ww : ∀ b, Wr own (L2.wipe σ vs) b → Wr own σ b := fun b w => wr_w (fun j hj => wipe_off hj) w
    have ww2 : ∀ b, Wr own σ2 b → Wr own σ b := fun b w => wr_w o2' w
    have D1 : Hc' L0 = some (.lst xs) := sm _ _ eD
    have D2 : H2 L0 = some (.lst xs) := e2.k _ _ D1 fun w => absurd (ww L0 w) nDw
    have ra2 : RpA K (fun b => P b ∧ b ≠ L0) H2 xs acc := (ra.ext (W := fun _ => False) (Same.ext sm) fun _ z => z.elim).ext e2 gc'.nw
    have ex2 : Ext (fun b => Wr own σ b ∨ H1 b = none) H1 H2 := (ex.trans (Same.ext sm)).trans (e2.weak fun b w => .inl (ww b w))
    refine ⟨ws, _, t1, b, t2, g2, k2, fun H3 g3 e3 => ?_⟩
    have D3 : H3 L0 = some (.lst xs) := e3.k _ _ D2 fun w => absurd (ww2 L0 w) nDw
    have ra3 := ra2.ext e3 g2.nw
    have ex3 := ex2.trans (e3.weak fun b w => .inl (ww2 b w))
    rcases k3 with ⟨rfl, y, t3, k4, k5⟩ | ⟨rfl, k5⟩
    · refine iteT ?_
      refine tE_of g3 k4 fun v H4 g4 e4 r4 => ?_
      have D4 : H4 L0 = some (.lst xs) := e4.k _ _ D3 fun w => absurd (ww2 L0 w) nDw
      have ra4 := ra3.ext e4 g3.nw
      have hD : Ext (fun b => b = L0) H4 (upd H4 L0 (.lst (xs ++ [v]))) := Ext.write rfl (by rw [D4]; trivial)
      have nP : ∀ b, b = L0 → ¬ (P b ∧ b ≠ L0) := fun b e z => z.2 e
      refine ⟨xs, D4, ?_, wipeD t3 vs, acc ++ [y], xs ++ [v], ?_, k5, upd_same, ((ra4.append (.cons r4 .nil)).ext hD nP), by rw [List.length_append]; simp only [List.length_cons, List.length_nil]; omega, ?_⟩
      · rw [ra4.len]
        exact Nat.lt_of_le_of_lt hl (Nat.lt_of_lt_of_le hi src.size)
      · have g5 := g4.elsewhere (p := L0) (o := .lst (xs ++ [v])) (fun z => z.2 rfl) (fun w => nDw (ww2 L0 w)) D4 trivial
        have g6 := g5.wipe hv
        rw [ws] at g6
        exact g6
      · exact (ex3.trans (e4.weak fun b w => .inl (ww2 b w))).trans (hD.weak fun b e => .inr (e ▸ nD))
    · refine iteF ?_
      have g6 := g3.wipe hv
      rw [ws] at g6
      exact ⟨wipeD t2 vs, acc, xs, g6, k5, D3, ra3, by omega, ex3⟩
  · rintro Hc ⟨sd, acc, xs, gc, hgo, eD, ra, hl, ex⟩
    rw [List.drop_length] at hgo
    have hgo : some (acc, sd) = some (accF, s2) := hgo
    cases hgo
    have gb := Gd.back g1 gc hv ex (fun b p n => ⟨p, fun e => n (e ▸ nD)⟩)
    exact q L0 Hc (e1.g L0 nD) (gb.weak (fun b z => z.1) g1.nw) gb (e1.join ex) (.lst eD ra)
/-- [elt for tg in iter if ..] -/
theorem mf_lc {elt tg iter : Expr} {ifs : List Expr} {scope : Scope} {fi : FA} {h : FG} {ft : FT} {fe : FE} {ts vs : List Nat} (hpe : PE X (.ListComp elt [⟨tg, iter, ifs, 0⟩] scope pos) (tLc (tI X.K own fi) (tG X.K own ts h) (tT X.K own ft) (tE X.K own fe) vs))
    (hv : ∀ i ∈ vs, i ∉ own) (hts : ∀ i ∈ ts, i ∈ vs) : MF X own (.ListComp elt [⟨tg, iter, ifs, 0⟩] scope pos) (eLc fi h ft fe vs) := ⟨PE_imp hpe fun _ _ _ q => lc_imp hv hts q⟩
end
end Mi
set_option Elab.async false
set_option linter.all false
set_option maxRecDepth 100000
namespace Mi
open PySem PySem.Spec L2

/-! ### statements -/
inductive Out where
  | nx (s : SD) | bk (s : SD) | ct (s : SD) | rt (d : D) (s : SD)
/-- what stands between two places of a body -/
structure Stp (own io : List Nat) (σ : L2.St) (H : Hp) (σ' : L2.St) (H' : Hp) : Prop where
  ext : Ext (Wr own σ) H H'
  wr : ∀ b, Wr own σ' b → Wr own σ b ∨ H b = none
  io : ∀ i ∈ io, σ'[i]? = σ[i]?
section
variable {own io : List Nat} {σ σ1 σ2 : L2.St} {H H1 H2 : Hp}
theorem Stp.refl : Stp own io σ H σ H := ⟨Ext.refl _ _, fun _ w => .inl w, fun _ _ => rfl⟩
theorem Stp.of (e : Ext (Wr own σ) H H1) : Stp own io σ H σ H1 := ⟨e, fun _ w => .inl w, fun _ _ => rfl⟩
theorem Stp.trans (a : Stp own io σ H σ1 H1) (b : Stp own io σ1 H1 σ2 H2) : Stp own io σ H σ2 H2 where
  ext := ⟨fun c o h n => b.ext.k c o (a.ext.k c o h n) fun w => (a.wr c w).elim n fun z => absurd (h.symm.trans z) (by intro q; cases q), fun c h => a.ext.g c (b.ext.g c h)⟩
  wr := fun c w => (b.wr c w).elim (a.wr c) fun z => .inr (a.ext.g c z)
  io := fun i hi => (b.io i hi).trans (a.io i hi)
end
/-- what is handed back -/
def RetV (K : PySem.W.Frag) (own io : List Nat) (fr : Bool) (H : Hp) (P' : Addr → Prop) (σ' : L2.St) (H' : Hp) (v : V) (d : D) : Prop :=
  if fr = true then ∃ a, v = .ref a ∧ ¬ P' a ∧ Ow K P' H' a d ∧ ((∃ i, i ∈ own ∧ i ∉ io ∧ σ'[i]? = some (some (.ref a))) ∨ H a = none)
  else Rp K (fun b => P' b ∨ ∃ i, i ∈ own ∧ i ∉ io ∧ σ'[i]? = some (some (.ref b))) H' v d
theorem RetV.grow {K : PySem.W.Frag} {own io : List Nat} {fr : Bool} {H H1 : Hp} {P' : Addr → Prop} {σ' : L2.St} {H' : Hp} {v : V} {d : D} (g : Grows H H1) (r : RetV K own io fr H1 P' σ' H' v d) : RetV K own io fr H P' σ' H' v d := by
  unfold RetV at r ⊢
  split
  · rename_i h
    rw [if_pos h] at r
    obtain ⟨a, e, n, o, q⟩ := r
    exact ⟨a, e, n, o, q.imp_right (g a)⟩
  · rename_i h
    rw [if_neg h] at r
    exact r
/-- fewer places, but none of those that were there -/
structure Sub (P : Addr → Prop) (H : Hp) (P' : Addr → Prop) : Prop where
  le : ∀ b, P' b → P b
  ge : ∀ b, P b → H b ≠ none → P' b
theorem Sub.refl {P : Addr → Prop} {H : Hp} : Sub P H P := ⟨fun _ h => h, fun _ h _ => h⟩
theorem Sub.trans {P P1 P2 : Addr → Prop} {H H1 : Hp} (a : Sub P H P1) (b : Sub P1 H1 P2) (g : Grows H H1) : Sub P H P2 := ⟨fun c z => a.le c (b.le c z), fun c z n => b.ge c (a.ge c z n) fun q => n (g c q)⟩
def After (K : PySem.W.Frag) (own io : List Nat) (fr : Bool) (P : Addr → Prop) (D : Ends) (σ : L2.St) (H : Hp) : Out → Prop
  | .nx s => ∀ P' σ' H', Gd K own P' s σ' H' → Sub P H P' → Stp own io σ H σ' H' → D.nx σ' H'
  | .bk s => ∀ P' σ' H', Gd K own P' s σ' H' → Sub P H P' → Stp own io σ H σ' H' → D.bk σ' H'
  | .ct s => ∀ P' σ' H', Gd K own P' s σ' H' → Sub P H P' → Stp own io σ H σ' H' → D.ct σ' H'
  | .rt d s => ∀ P' σ' H' v, Gd K own P' s σ' H' → Sub P H P' → Stp own io σ H σ' H' → RetV K own io fr H P' σ' H' v d → D.rt v H'
abbrev FS := SD → Option Out
def tS (K : PySem.W.Frag) (own io : List Nat) (fr : Bool) (f : FS) : TS := fun D σ H => ∃ (P : Addr → Prop) (σd : SD) (o : Out), Gd K own P σd σ H ∧ f σd = some o ∧ After K own io fr P D σ H o
structure MS (X : Cx) (own io : List Nat) (fr : Bool) (st : Stmt) (f : FS) : Prop where
  ps : PS X st (tS X.K own io fr f)
structure MSs (X : Cx) (own io : List Nat) (fr : Bool) (st : List Stmt) (f : FS) : Prop where
  ps : PSs X st (tS X.K own io fr f)
/-- behind a first part -/
theorem After.then_ {K : PySem.W.Frag} {own io : List Nat} {fr : Bool} {P P1 : Addr → Prop} {D : Ends} {σ σ1 : L2.St} {H H1 : Hp} {o : Out} (h : After K own io fr P D σ H o) (hp : Sub P H P1) (s : Stp own io σ H σ1 H1) : After K own io fr P1 D σ1 H1 o := by
  cases o with
  | nx => exact fun P' σ' H' g p t => h P' σ' H' g (hp.trans p s.ext.g) (s.trans t)
  | bk => exact fun P' σ' H' g p t => h P' σ' H' g (hp.trans p s.ext.g) (s.trans t)
  | ct => exact fun P' σ' H' g p t => h P' σ' H' g (hp.trans p s.ext.g) (s.trans t)
  | rt => exact fun P' σ' H' v g p t r => h P' σ' H' v g (hp.trans p s.ext.g) (s.trans t) (r.grow s.ext.g)

def sNil : FS := fun s => some (.nx s)
def sCons (f g : FS) : FS := fun s => (f s).bind fun o => match o with
  | .nx s1 => g s1
  | o => some o
section
variable {X : Cx} {own io : List Nat} {fr : Bool} {pos : Pos}
theorem mss_nil : MSs X own io fr [] sNil := ⟨PSs_imp pss_nil fun D σ H q => by
  obtain ⟨P, σd, o, g, hf, q⟩ := q
  cases hf
  exact q P σ H g Sub.refl Stp.refl⟩
theorem tSeq_of {K : PySem.W.Frag} {f g : FS} {D : Ends} {σ : L2.St} {H : Hp} (q : tS K own io fr (sCons f g) D σ H) : tSeq (tS K own io fr f) (tS K own io fr g) D σ H := by
  obtain ⟨P, σd, o, gd, hf, q⟩ := q
  unfold sCons at hf
  obtain ⟨o1, h1, hf⟩ := Option.bind_eq_some_iff.mp hf
  refine ⟨P, σd, o1, gd, h1, ?_⟩
  cases o1 with
  | nx s1 => exact fun P' σ' H' g1 p t => ⟨P', s1, o, g1, hf, q.then_ p t⟩
  | bk s1 => cases hf; exact q
  | ct s1 => cases hf; exact q
  | rt d s1 => cases hf; exact q
theorem mss_cons {st : Stmt} {rest : List Stmt} {f g : FS} (a : MS X own io fr st f) (b : MSs X own io fr rest g) : MSs X own io fr (st :: rest) (sCons f g) := ⟨PSs_imp (pss_cons a.ps b.ps) fun _ _ _ q => tSeq_of q⟩
theorem mss_one {st : Stmt} {f : FS} (a : MS X own io fr st f) : MSs X own io fr [st] f := ⟨pss_one a.ps⟩
def sCt : FS := fun s => some (.ct s)
def sBk : FS := fun s => some (.bk s)
theorem ms_continue : MS X own io fr (.Continue pos) sCt := ⟨PS_imp ps_continue fun D σ H q => by
  obtain ⟨P, σd, o, g, hf, q⟩ := q
  cases hf
  exact q P σ H g Sub.refl Stp.refl⟩
theorem ms_break : MS X own io fr (.Break pos) sBk := ⟨PS_imp ps_break fun D σ H q => by
  obtain ⟨P, σd, o, g, hf, q⟩ := q
  cases hf
  exact q P σ H g Sub.refl Stp.refl⟩
theorem ms_pass : MS X own io fr (.Pass pos) sNil := ⟨PS_imp ps_pass fun D σ H q => by
  obtain ⟨P, σd, o, g, hf, q⟩ := q
  cases hf
  exact q P σ H g Sub.refl Stp.refl⟩
def sEx (f : FE) : FS := fun s => (f s).map fun r => .nx r.2
theorem ms_expr {e : Expr} {f : FE} (h : ME X own e f) (hp : PE X e (tE X.K own f) → PS X (.Expr e pos) (tDrop (tE X.K own f))) : MS X own io fr (.Expr e pos) (sEx f) := ⟨PS_imp (hp h.pe) fun D σ H q => by
  obtain ⟨P, σd, o, g, hf, q⟩ := q
  unfold sEx at hf
  obtain ⟨⟨d, s1⟩, h1, hf⟩ := Option.map_eq_some_iff.mp hf
  cases hf
  exact tE_of g h1 fun v H1 g1 e1 r1 => q P σ H1 g1 Sub.refl (Stp.of e1)⟩
/-! targets: names, tuples of names -/
def sAs (f : FE) (h : FG) : FS := fun s => (f s).bind fun r => (h r.1 r.2).map fun s1 => .nx s1
theorem ms_asg {tg e : Expr} {f : FE} {ts : List Nat} {h : FG} (hp : PS X (.Assign [tg] e pos) (tAsg (tE X.K own f) (tG X.K own ts h))) (off : ∀ i ∈ ts, i ∉ own) (hio : ∀ i ∈ ts, i ∉ io) : MS X own io fr (.Assign [tg] e pos) (sAs f h) := ⟨PS_imp hp fun D σ H q => by
  obtain ⟨P, σd, o, g, hf, q⟩ := q
  unfold sAs at hf
  obtain ⟨⟨d, s1⟩, h1, hf⟩ := Option.bind_eq_some_iff.mp hf
  obtain ⟨s2, h2, hf⟩ := Option.map_eq_some_iff.mp hf
  cases hf
  refine tE_of g h1 fun v H1 g1 e1 r1 => ⟨P, s1, d, s2, g1, r1, h2, fun σ2 H2 g2 e2 l2 o2 => q P σ2 H2 g2 Sub.refl ⟨e1.trans e2, fun b w => .inl (Wr.same (fun i hi => o2 i fun z => off i z hi) w), fun i hi => o2 i fun z => hio i z hi⟩⟩⟩
/-- x = e by itself -/
theorem ms_set {i : Nat} {tg e : Expr} {f : FE} (hp : PS X (.Assign [tg] e pos) (tAsg (tE X.K own f) (gName i))) (hi : i ∉ own) (hio : i ∉ io) : MS X own io fr (.Assign [tg] e pos) (sAs f (gNm i)) := ⟨PS_imp hp fun D σ H q => by
  obtain ⟨P, σd, o, g, hf, q⟩ := q
  unfold sAs at hf
  obtain ⟨⟨d, s1⟩, h1, hf⟩ := Option.bind_eq_some_iff.mp hf
  obtain ⟨s2, h2, hf⟩ := Option.map_eq_some_iff.mp hf
  cases hf
  cases h2
  have ne : ∀ j, j ∈ own → i ≠ j := fun j hj e => hi (by rw [e]; exact hj)
  have ne2 : ∀ j, j ∈ io → i ≠ j := fun j hj e => hio (by rw [e]; exact hj)
  exact tE_of g h1 fun v H1 g1 e1 r1 => q P _ H1 (g1.set hi r1) Sub.refl ⟨e1, fun b w => .inl (Wr.same (fun j hj => List.getElem?_set_ne (ne j hj)) w), fun j hj => List.getElem?_set_ne (ne2 j hj)⟩⟩
/-! an owned name gets a new list or dict -/
theorem Gd.setO {K : PySem.W.Frag} {P : Addr → Prop} {σd : SD} {σ : L2.St} {H : Hp} (g : Gd K own P σd σ H) {i : Nat} {a : Addr} {d : D} (hi : i ∈ own) (o : Ow K P H a d) (n : ¬ P a) (w : ¬ Wr own σ a) (hl : i < σ.length) : Gd K own P (σd.set i (some d)) (σ.set i (some (.ref a))) H := by
  refine ⟨by rw [List.length_set, List.length_set]; exact g.len, g.fresh, fun b w2 => ?_, fun j d' hj h => ?_, fun j hj v h => ?_, fun j d' hj h => ?_, fun j k b hj hk h1 h2 => ?_⟩
  · obtain ⟨j, hj, e⟩ := w2
    rcases get_set e with ⟨rfl, e, _⟩ | ⟨ne, e⟩
    · cases e; exact n
    · exact g.nw b ⟨j, hj, e⟩
  · have ne : i ≠ j := fun e => hj (by rw [← e]; exact hi)
    rw [List.getElem?_set_ne ne] at h
    obtain ⟨v, e, r⟩ := g.shr j d' hj h
    exact ⟨v, by rw [List.getElem?_set_ne ne]; exact e, r⟩
  · rcases get_set h with ⟨rfl, e, hl⟩ | ⟨ne, h⟩
    · cases e
      exact ⟨a, d, rfl, List.getElem?_set_self (by rw [g.len]; exact hl), o⟩
    · obtain ⟨b, d', e1, e2, q⟩ := g.ows j hj v h
      exact ⟨b, d', e1, by rw [List.getElem?_set_ne (Ne.symm ne)]; exact e2, q⟩
  · rcases get_set h with ⟨rfl, e, hl⟩ | ⟨ne, h⟩
    · exact ⟨a, List.getElem?_set_self (by rw [← g.len]; exact hl)⟩
    · obtain ⟨b, e⟩ := g.owd j d' hj h
      exact ⟨b, by rw [List.getElem?_set_ne (Ne.symm ne)]; exact e⟩
  · rcases get_set h1 with ⟨z1, e, _⟩ | ⟨ne, q1⟩
    · rcases get_set h2 with ⟨z2, _, _⟩ | ⟨ne2, q2⟩
      · rw [z1, z2]
      · cases e; exact absurd ⟨k, hk, q2⟩ w
    · rcases get_set h2 with ⟨z2, e, _⟩ | ⟨ne2, q2⟩
      · cases e; exact absurd ⟨j, hj, q1⟩ w
      · exact g.dj j k b hj hk q1 q2
def sAsO (f : FE) (i : Nat) : FS := fun s => (f s).bind fun r => if i < r.2.length then some (.nx (r.2.set i (some r.1))) else none
theorem ms_setO {i : Nat} {tg e : Expr} {f : FE} (hp : PS X (.Assign [tg] e pos) (tAsg (tF X.K own f) (gName i))) (hi : i ∈ own) (hio : i ∉ io) : MS X own io fr (.Assign [tg] e pos) (sAsO f i) := ⟨PS_imp hp fun D σ H q => by
  obtain ⟨P, σd, o, g, hf, q⟩ := q
  unfold sAsO at hf
  obtain ⟨⟨d, s1⟩, h1, hf⟩ := Option.bind_eq_some_iff.mp hf
  dsimp only at hf
  split at hf
  · rename_i hl
    cases hf
    have ne2 : ∀ j, j ∈ io → i ≠ j := fun j hj e => hio (by rw [e]; exact hj)
    refine ⟨P, σd, d, s1, g, h1, fun a H1 na g1 g2 e1 ow => ?_⟩
    have nw : ¬ Wr own σ a := fun w => by
      obtain ⟨o, e, _⟩ := g.wr_there w
      rw [na] at e; cases e
    refine q (fun b => P b ∧ b ≠ a) _ H1 (g2.setO hi ow (fun z => z.2 rfl) nw (by rw [← g2.len]; exact hl)) ⟨fun _ z => z.1, fun b z n => ⟨z, fun e => n (e ▸ na)⟩⟩ ⟨e1, fun b w => ?_, fun j hj => List.getElem?_set_ne (ne2 j hj)⟩
    obtain ⟨j, hj, e⟩ := w
    rcases get_set e with ⟨rfl, e, _⟩ | ⟨ne, e⟩
    · cases e; exact .inr na
    · exact .inl ⟨j, hj, e⟩
  · cases hf⟩
/-! an owned list or dict is changed -/
theorem Gd.put {K : PySem.W.Frag} {P : Addr → Prop} {σd : SD} {σ : L2.St} {H : Hp} (g : Gd K own P σd σ H) {i : Nat} {a : Addr} {d : D} {o : HO} (hi : i ∈ own) (e : σ[i]? = some (some (.ref a))) (ow : Ow K P (upd H a o) a d) : Gd K own P (σd.set i (some d)) σ (upd H a o) := by
  have wa : Wr own σ a := ⟨i, hi, e⟩
  obtain ⟨u, hu, mu⟩ := g.wr_there wa
  have ex : Ext (fun b => b = a) H (upd H a o) := Ext.write rfl (by rw [hu]; exact mu)
  have hn : ∀ b, b = a → ¬ P b := fun b e => e ▸ g.nw a wa
  have hl : i < σ.length := by
    obtain ⟨h, _⟩ := List.getElem?_eq_some_iff.mp e
    exact h
  refine ⟨by rw [List.length_set]; exact g.len, fun b h => g.fresh b (ex.g b h), g.nw, fun j d' hj h => ?_, fun j hj v h => ?_, fun j d' hj h => ?_, g.dj⟩
  · have ne : i ≠ j := fun e => hj (by rw [← e]; exact hi)
    rw [List.getElem?_set_ne ne] at h
    obtain ⟨v, e, r⟩ := g.shr j d' hj h
    exact ⟨v, e, r.ext ex hn⟩
  · by_cases q : j = i
    · subst q
      rw [e] at h
      cases h
      exact ⟨a, d, rfl, List.getElem?_set_self (by rw [g.len]; exact hl), ow⟩
    · obtain ⟨b, d', e1, e2, q2⟩ := g.ows j hj v h
      refine ⟨b, d', e1, by rw [List.getElem?_set_ne (Ne.symm q)]; exact e2, q2.keep ex hn fun o q3 => ?_⟩
      subst e1
      rw [upd_ne fun z => q (g.dj j i b hj hi h (by rw [z]; exact e))]
      exact q3
  · rcases get_set h with ⟨rfl, e2, hl⟩ | ⟨ne, h⟩
    · exact ⟨a, e⟩
    · exact g.owd j d' hj h
theorem stp_put {σ : L2.St} {H : Hp} {i : Nat} {a : Addr} {o : HO} (hi : i ∈ own) (e : σ[i]? = some (some (.ref a))) (m : Mut (H a)) : Stp own io σ H σ (upd H a o) := Stp.of (Ext.write ⟨i, hi, e⟩ m)
/-- the list that an owned name holds -/
def eLi (k : Nat) (s : SD) : Option (List D) := match s[k]? with
  | some (some (.list ds)) => some ds
  | _ => none
theorem eLi_of {k : Nat} {s : SD} {ds : List D} (h : eLi k s = some ds) : s[k]? = some (some (.list ds)) := by
  unfold eLi at h
  split at h
  · rename_i q
    cases h
    exact q
  · cases h
theorem Gd.own_list {K : PySem.W.Frag} {P : Addr → Prop} {σd : SD} {σ : L2.St} {H : Hp} (g : Gd K own P σd σ H) {k : Nat} {ds : List D} (hk : k ∈ own) (h : eLi k σd = some ds) : ∃ a xs, σ[k]? = some (some (.ref a)) ∧ H a = some (.lst xs) ∧ RpA K P H xs ds ∧ ¬ P a := by
  obtain ⟨a, e, o, n⟩ := g.own_at hk (eLi_of h)
  cases o with
  | lst c r => exact ⟨a, _, e, c, r, n⟩
def sApp (k : Nat) (f : FE) : FS := fun s => (eLi k s).bind fun _ => (f s).bind fun r => (eLi k r.2).bind fun ds => if ds.length < 1000000 then some (.nx (r.2.set k (some (.list (ds ++ [r.1]))))) else none
theorem lineL {n : Nat} (h : n < 1000000) : n < sizeLine := Nat.lt_of_lt_of_le h (by rw [sizeLine_eq]; decide)
theorem ms_append {k : Nat} {st : Stmt} {f : FE} (hk : k ∈ own) (hp : PS X st (tDrop (tBM X.K "list" rAppend (tVar k) (tCons (tE X.K own f) tNil)))) : MS X own io fr st (sApp k f) := ⟨PS_imp hp fun D σ H q => by
  obtain ⟨P, σd, o, g, hf, q⟩ := q
  unfold sApp at hf
  obtain ⟨d0, h0, hf⟩ := Option.bind_eq_some_iff.mp hf
  obtain ⟨⟨d, s1⟩, h1, hf⟩ := Option.bind_eq_some_iff.mp hf
  obtain ⟨ds, h2, hf⟩ := Option.bind_eq_some_iff.mp hf
  obtain ⟨a, xs0, ea, c0, _, _⟩ := g.own_list hk h0
  refine ⟨.ref a, ea, .inl ⟨rfl, _, .inl (.inl c0)⟩, ?_⟩
  refine tE_of g h1 fun v H1 g1 e1 r1 => ?_
  split at hf
  · rename_i hl
    cases hf
    obtain ⟨a', xs, ea', c, r, n⟩ := g1.own_list hk h2
    rw [ea] at ea'
    cases ea'
    refine ⟨a, xs, v, rfl, rfl, c, by rw [r.len]; exact lineL hl, ?_⟩
    have ex : Ext (fun b => b = a) H1 (upd H1 a (.lst (xs ++ [v]))) := Ext.write rfl (by rw [c]; trivial)
    exact q P σ _ (g1.put hk ea (.lst upd_same ((r.append (.cons r1 .nil)).ext ex fun b e => e ▸ n))) Sub.refl ((Stp.of e1).trans (stp_put hk ea (by rw [c]; trivial)))
  · cases hf⟩
/-! x[i] = e, of an owned list -/
def sSt (k : Nat) (fe fi : FE) : FS := fun s => (fe s).bind fun r => (eLi k r.2).bind fun _ => (fi r.2).bind fun j => (eLi k j.2).bind fun ds => match j.1 with
  | .int i => (ixN ds.length i).bind fun n => some (.nx (j.2.set k (some (.list (ds.set n r.1)))))
  | _ => none
theorem ms_store {k : Nat} {st : Stmt} {fe fi : FE} (hk : k ∈ own) (hp : PS X st (tAsg (tE X.K own fe) (gSub (tVar k) (tE X.K own fi) rSetL))) : MS X own io fr st (sSt k fe fi) := ⟨PS_imp hp fun D σ H q => by
  obtain ⟨P, σd, o, g, hf, q⟩ := q
  unfold sSt at hf
  obtain ⟨⟨d, s1⟩, h1, hf⟩ := Option.bind_eq_some_iff.mp hf
  obtain ⟨d0, h0, hf⟩ := Option.bind_eq_some_iff.mp hf
  obtain ⟨⟨j, s2⟩, h2, hf⟩ := Option.bind_eq_some_iff.mp hf
  obtain ⟨ds, h3, hf⟩ := Option.bind_eq_some_iff.mp hf
  refine tE_of g h1 fun v H1 g1 e1 r1 => ?_
  obtain ⟨a, xs0, ea, c0, _, _⟩ := g1.own_list hk h0
  refine ⟨.ref a, ea, tE_of g1 h2 fun w H2 g2 e2 r2 => ?_⟩
  dsimp only at hf
  split at hf
  · obtain ⟨n, h4, hf⟩ := Option.bind_eq_some_iff.mp hf
    cases hf
    obtain ⟨a', xs, ea', c, r, nP⟩ := g2.own_list hk h3
    rw [ea] at ea'
    cases ea'
    cases r2
    refine ⟨a, xs, _, n, rfl, rfl, c, by rw [r.len]; exact h4, ?_⟩
    have ex : Ext (fun b => b = a) H2 (upd H2 a (.lst (xs.set n v))) := Ext.write rfl (by rw [c]; trivial)
    exact q P σ _ (g2.put hk ea (.lst upd_same ((r.set n (r1.ext e2 g1.nw)).ext ex fun b e => e ▸ nP))) Sub.refl ((Stp.of (e1.trans e2)).trans (stp_put hk ea (by rw [c]; trivial)))
  · cases hf⟩
/-! x += e -/
def sAug (i : Nat) (g : D → D → Option D) (f : FE) : FS := fun s => (eVar i s).bind fun x => (f s).bind fun r => (g x.1 r.1).map fun c => .nx (r.2.set i (some c))
theorem ms_augI {i : Nat} {st : Stmt} {f : FE} {h : Int → Int → Int} (hp : PS X st (tAug i (tE X.K own f) (ipI h))) (hi : i ∉ own) (hio : i ∉ io) : MS X own io fr st (sAug i (dI fun a b => .int (h a b)) f) := ⟨PS_imp hp fun D σ H q => by
  obtain ⟨P, σd, o, g, hf, q⟩ := q
  unfold sAug at hf
  obtain ⟨⟨x, s0⟩, h0, hf⟩ := Option.bind_eq_some_iff.mp hf
  obtain ⟨⟨d, s1⟩, h1, hf⟩ := Option.bind_eq_some_iff.mp hf
  obtain ⟨c, h2, hf⟩ := Option.map_eq_some_iff.mp hf
  cases hf
  obtain ⟨e0, rfl⟩ := eVar_of h0
  obtain ⟨v, ev, rv⟩ := g.shr i x hi e0
  have ne : ∀ j, j ∈ own → i ≠ j := fun j hj e => hi (by rw [e]; exact hj)
  have ne2 : ∀ j, j ∈ io → i ≠ j := fun j hj e => hio (by rw [e]; exact hj)
  obtain ⟨a, b, rfl, hb, rfl⟩ := dI_of h2
  dsimp only at hb
  subst hb
  cases rv
  refine ⟨_, ev, tE_of g h1 fun w H1 g1 e1 r1 => ?_⟩
  cases r1
  refine ⟨a, b, rfl, rfl, q P _ H1 (g1.set hi (.int _)) Sub.refl ⟨e1, fun b w => .inl (Wr.same (fun j hj => List.getElem?_set_ne (ne j hj)) w), fun j hj => List.getElem?_set_ne (ne2 j hj)⟩⟩⟩
/-! if, return -/
def sIf (c : FT) (f g : FS) : FS := fun s => (c s).bind fun r => if r.1 then f r.2 else g r.2
theorem ms_if {c : Expr} {a b : List Stmt} {t : FT} {f g : FS} (hc : MT X own c t) (ha : MSs X own io fr a f) (hb : MSs X own io fr b g) : MS X own io fr (.If c a b pos) (sIf t f g) := ⟨PS_imp (ps_if hc.pt ha.ps hb.ps) fun D σ H q => by
  obtain ⟨P, σd, o, gd, hf, q⟩ := q
  unfold sIf at hf
  obtain ⟨⟨c, s1⟩, h1, hf⟩ := Option.bind_eq_some_iff.mp hf
  refine tT_of gd h1 fun H1 g1 e1 => ?_
  cases c with
  | true => exact iteT ⟨P, s1, o, g1, hf, q.then_ Sub.refl (Stp.of e1)⟩
  | false => exact iteF ⟨P, s1, o, g1, hf, q.then_ Sub.refl (Stp.of e1)⟩⟩
def sRt (f : FE) : FS := fun s => (f s).map fun r => .rt r.1 r.2
theorem ms_ret {e : Expr} {f : FE} (h : ME X own e f) : MS X own io false (.Return (some e) pos) (sRt f) := ⟨PS_imp (ps_ret h.pe) fun D σ H q => by
  obtain ⟨P, σd, o, g, hf, q⟩ := q
  unfold sRt at hf
  obtain ⟨⟨d, s1⟩, h1, hf⟩ := Option.map_eq_some_iff.mp hf
  cases hf
  exact tE_of g h1 fun v H1 g1 e1 r1 => q P σ H1 v g1 Sub.refl (Stp.of e1) (r1.mono fun b z => .inl z)⟩
theorem ms_retN : MS X own io false (.Return none pos) (sRt (eC .none)) := ⟨PS_imp ps_retN fun D σ H q => by
  obtain ⟨P, σd, o, g, hf, q⟩ := q
  cases hf
  exact q P σ H _ g Sub.refl Stp.refl .non⟩
theorem ms_retF {e : Expr} {f : FE} (h : MF X own e f) : MS X own io true (.Return (some e) pos) (sRt f) := ⟨PS_imp (ps_ret h.pe) fun D σ H q => by
  obtain ⟨P, σd, o, g, hf, q⟩ := q
  unfold sRt at hf
  obtain ⟨⟨d, s1⟩, h1, hf⟩ := Option.map_eq_some_iff.mp hf
  cases hf
  exact ⟨P, σd, d, s1, g, h1, fun a H1 na g1 g2 e1 ow => q (fun b => P b ∧ b ≠ a) σ H1 _ g2 ⟨fun _ z => z.1, fun b z n => ⟨z, fun e => n (e ▸ na)⟩⟩ (Stp.of e1) ⟨a, rfl, fun z => z.2 rfl, ow, .inr na⟩⟩⟩
/-- an owned list is handed back -/
theorem ms_retO {x : Str} {p : Pos} {k : Nat} (hx : PE X (.Name x p) (tVar k)) (hk : k ∈ own) (hio : k ∉ io) : MS X own io true (.Return (some (.Name x p)) pos) (sRt (eVar k)) := ⟨PS_imp (ps_ret hx) fun D σ H q => by
  obtain ⟨P, σd, o, g, hf, q⟩ := q
  unfold sRt at hf
  obtain ⟨⟨d, s1⟩, h1, hf⟩ := Option.map_eq_some_iff.mp hf
  cases hf
  obtain ⟨h1, rfl⟩ := eVar_of h1
  obtain ⟨a, e, ow, n⟩ := g.own_at hk h1
  exact ⟨_, e, q P σ H _ g Sub.refl Stp.refl ⟨a, rfl, n, ow, .inl ⟨k, hk, hio, e⟩⟩⟩⟩
theorem ms_retOS {x : Str} {p : Pos} {k : Nat} (hx : PE X (.Name x p) (tVar k)) (hk : k ∈ own) (hio : k ∉ io) : MS X own io false (.Return (some (.Name x p)) pos) (sRt (eF (eVar k))) := ⟨PS_imp (ps_ret hx) fun D σ H q => by
  obtain ⟨P, σd, o, g, hf, q⟩ := q
  unfold sRt eF at hf
  obtain ⟨⟨d, s1⟩, h1, hf⟩ := Option.map_eq_some_iff.mp hf
  obtain ⟨⟨d0, s0⟩, h1, h2⟩ := Option.bind_eq_some_iff.mp h1
  cases hf
  obtain ⟨h1, rfl⟩ := eVar_of h1
  obtain ⟨a, e, ow, n⟩ := g.own_at hk h1
  cases ow with
  | lst c r =>
    cases h2
    exact ⟨_, e, q P σ H _ g Sub.refl Stp.refl (.lst (.inr ⟨k, hk, hio, e⟩) (.inl c) (r.mono fun b z => .inl z))⟩
  | dct c r => cases h2
  | dtt c r => cases h2⟩
end
end Mi
set_option Elab.async false
set_option linter.all false
set_option maxRecDepth 100000
namespace Mi
open PySem PySem.Spec L2

/-! ### loops -/
def forGo (h : FG) (fb : FS) : List D → SD → Option Out
  | [], s => some (.nx s)
  | d :: r, s => (h d s).bind fun s1 => (fb s1).bind fun o => match o with
    | .nx s2 => forGo h fb r s2
    | .ct s2 => forGo h fb r s2
    | .bk s2 => some (.nx s2)
    | .rt d2 s2 => some (.rt d2 s2)
def sFor (fi : FA) (h : FG) (fb : FS) : FS := fun s => (fi s).bind fun a => forGo h fb a.1 a.2
theorem for_step {h : FG} {fb : FS} {d : D} {r : List D} {s : SD} {z : Out} (e : forGo h fb (d :: r) s = some z) :
    ∃ s1 o, h d s = some s1 ∧ fb s1 = some o ∧ ((∃ s2, (o = .nx s2 ∨ o = .ct s2) ∧ forGo h fb r s2 = some z) ∨ (∃ s2, o = .bk s2 ∧ z = .nx s2) ∨ (∃ d2 s2, o = .rt d2 s2 ∧ z = .rt d2 s2)) := by
  unfold forGo at e
  obtain ⟨s1, h1, e⟩ := Option.bind_eq_some_iff.mp e
  obtain ⟨o, h2, e⟩ := Option.bind_eq_some_iff.mp e
  refine ⟨s1, o, h1, h2, ?_⟩
  cases o with
  | nx s2 => exact .inl ⟨s2, .inl rfl, e⟩
  | ct s2 => exact .inl ⟨s2, .inr rfl, e⟩
  | bk s2 => cases e; exact .inr (.inl ⟨s2, rfl, rfl⟩)
  | rt d2 s2 => cases e; exact .inr (.inr ⟨d2, s2, rfl, rfl⟩)
section
variable {own io : List Nat} {fr : Bool}
/-- the frame within a loop: from its start -/
structure Mid (K : PySem.W.Frag) (own io : List Nat) (P P' : Addr → Prop) (s : SD) (σ : L2.St) (H : Hp) (σ' : L2.St) (H' : Hp) : Prop where
  gd : Gd K own P' s σ' H'
  sub : Sub P H P'
  stp : Stp own io σ H σ' H'
theorem stp_wide {σ σ' : L2.St} {H H' : Hp} (s : Stp own io σ H σ' H') {K : PySem.W.Frag} {P : Addr → Prop} {σd : SD} (g : Gd K own P σd σ H) : Ext (fun b => ¬ P b ∨ H b = none) H H' := s.ext.weak fun b w => .inl (g.nw b w)
theorem tFor_of {K : PySem.W.Frag} {ts : List Nat} {fi : FA} {h : FG} {fb : FS} (off : ∀ i ∈ ts, i ∉ own) (hio : ∀ i ∈ ts, i ∉ io) {D : Ends} {σ : L2.St} {H : Hp} (q : tS K own io fr (sFor fi h fb) D σ H) : tFor (tI K own fi) (tG K own ts h) (tS K own io fr fb) D σ H := by
  obtain ⟨P, σd, o, gd, hf, q⟩ := q
  unfold sFor at hf
  obtain ⟨⟨items, s1⟩, h1, hf⟩ := Option.bind_eq_some_iff.mp hf
  dsimp only at hf
  refine ⟨P, σd, items, s1, gd, h1, fun J H1 G Y g1 e1 src => ?_⟩
  have q1 := q.then_ Sub.refl (Stp.of e1)
  refine for_it src.walk (fun i σ2 H2 => (∃ P2 s2, Mid K own io P P2 s2 σ H1 σ2 H2 ∧ forGo h fb (items.drop i) s2 = some o)) ⟨P, s1, ⟨g1, Sub.refl, Stp.refl⟩, by rw [List.drop_zero]; exact hf⟩ ?_ ?_ ?_
  · rintro i σ2 H2 hi ⟨P2, s2, m, _⟩
    exact src.keep H1 H2 (stp_wide m.stp g1) src.now
  · rintro i x σ2 H2 H2' hi ⟨P2, s2, m, hgo⟩ y
    have gG : G H2 := src.keep H1 H2 (stp_wide m.stp g1) src.now
    obtain ⟨sm, d, hd, rd⟩ := src.item i H2 x H2' hi gG y
    have ed : items.drop i = d :: items.drop (i + 1) := by
      rw [List.drop_eq_getElem_cons hi]
      rw [List.getElem?_eq_getElem hi] at hd
      cases hd
      rfl
    rw [ed] at hgo
    obtain ⟨t1, o1, k1, k2, k3⟩ := for_step hgo
    have gc' := m.gd.same sm
    have rd' : Rp K P2 H2' x d := rd.mono fun b z => m.sub.ge b z.1 z.2
    refine ⟨P2, s2, d, t1, gc', rd', k1, fun σ3 H3 g3 e3 l3 o3 => ?_⟩
    have st3 : Stp own io σ H1 σ3 H3 := (m.stp.trans (Stp.of (Same.ext sm))).trans ⟨e3, fun b w => .inl (Wr.same (fun i hi => o3 i fun z => off i z hi) w), fun i hi => o3 i fun z => hio i z hi⟩
    refine ⟨P2, t1, o1, g3, k2, ?_⟩
    rcases k3 with ⟨s4, e4, k5⟩ | ⟨s4, rfl, rfl⟩ | ⟨d4, s4, rfl, rfl⟩
    · have nxt : ∀ P' σ' H', Gd K own P' s4 σ' H' → Sub P2 H3 P' → Stp own io σ3 H3 σ' H' → ∃ P3 s3, Mid K own io P P3 s3 σ H1 σ' H' ∧ forGo h fb (items.drop (i + 1)) s3 = some o := fun P' σ' H' g p t => ⟨P', s4, ⟨g, m.sub.trans p st3.ext.g, st3.trans t⟩, k5⟩
      rcases e4 with rfl | rfl
      · exact nxt
      · exact nxt
    · exact fun P' σ' H' g p t => q1 P' σ' H' g (m.sub.trans p st3.ext.g) (st3.trans t)
    · exact fun P' σ' H' v g p t r => q1 P' σ' H' v g (m.sub.trans p st3.ext.g) (st3.trans t) (r.grow st3.ext.g)
  · rintro σ2 H2 ⟨P2, s2, m, hgo⟩
    rw [List.drop_length] at hgo
    cases hgo
    exact q1 P2 σ2 H2 m.gd m.sub m.stp
end
end Mi
set_option Elab.async false
set_option linter.all false
set_option maxRecDepth 100000
namespace Mi
open PySem PySem.Spec L2

/-! ### while -/
def wGo (c : FT) (fb : FS) : Nat → SD → Option Out
  | 0, _ => none
  | n + 1, s => (c s).bind fun r => if r.1 then (fb r.2).bind fun o => match o with
      | .nx s2 => wGo c fb n s2
      | .ct s2 => wGo c fb n s2
      | .bk s2 => some (.nx s2)
      | .rt d2 s2 => some (.rt d2 s2)
    else some (.nx r.2)
def sWh (n : Nat) (c : FT) (fb : FS) : FS := wGo c fb n
section
variable {own io : List Nat} {fr : Bool}
theorem tWhile_of {K : PySem.W.Frag} {c : FT} {fb : FS} {n : Nat} {D : Ends} {σ : L2.St} {H : Hp} (q : tS K own io fr (sWh n c fb) D σ H) : tWhile (tT K own c) (tS K own io fr fb) D σ H := by
  obtain ⟨P, σd, o, gd, hf, q⟩ := q
  refine ⟨fun n σ2 H2 => ∃ P2 s2, Mid K own io P P2 s2 σ H σ2 H2 ∧ wGo c fb n s2 = some o, ⟨n, P, σd, ⟨gd, Sub.refl, Stp.refl⟩, hf⟩, ?_⟩
  rintro n σ2 H2 ⟨P2, s2, m, e⟩
  cases n with
  | zero => cases e
  | succ n =>
    unfold wGo at e
    obtain ⟨⟨b, s3⟩, h1, e⟩ := Option.bind_eq_some_iff.mp e
    refine tT_of m.gd h1 fun H3 g3 e3 => ?_
    have st3 : Stp own io σ H σ2 H3 := m.stp.trans (Stp.of e3)
    cases b with
    | false =>
      cases e
      exact iteF (q P2 σ2 H3 g3 m.sub st3)
    | true =>
      dsimp only at e
      rw [if_pos rfl] at e
      obtain ⟨o1, k2, e⟩ := Option.bind_eq_some_iff.mp e
      refine iteT ⟨fun σ4 H4 => ∃ P3 s4, Mid K own io P P3 s4 σ H σ4 H4 ∧ wGo c fb n s4 = some o, fun σ4 H4 ⟨P3, s4, m4, e4⟩ => ⟨n, Nat.lt_succ_self n, P3, s4, m4, e4⟩, P2, s3, o1, g3, k2, ?_⟩
      cases o1 with
      | nx s4 => exact fun P' σ' H' g p t => ⟨P', s4, ⟨g, m.sub.trans p st3.ext.g, st3.trans t⟩, e⟩
      | ct s4 => exact fun P' σ' H' g p t => ⟨P', s4, ⟨g, m.sub.trans p st3.ext.g, st3.trans t⟩, e⟩
      | bk s4 =>
        cases e
        exact fun P' σ' H' g p t => q P' σ' H' g (m.sub.trans p st3.ext.g) (st3.trans t)
      | rt d4 s4 =>
        cases e
        exact fun P' σ' H' v g p t r => q P' σ' H' v g (m.sub.trans p st3.ext.g) (st3.trans t) (r.grow st3.ext.g)
end

/-! ### owned dicts with written keys -/
def kEq : D → D → Bool
  | .int i, .int j => decide (i = j)
  | .str x, .str y => decide (x = y)
  | _, _ => false
def lookD : List (D × D) → D → Option D
  | [], _ => none
  | (k', d) :: r, k => if kEq k' k then some d else lookD r k
def hasD : List (D × D) → D → Bool
  | [], _ => false
  | (k', _) :: r, k => kEq k' k || hasD r k
def replD : List (D × D) → D → D → List (D × D)
  | [], _, _ => []
  | (k', d) :: r, k, v => (if kEq k' k then (k', v) else (k', d)) :: replD r k v
def putD (kvs : List (D × D)) (k v : D) : List (D × D) := if hasD kvs k then replD kvs k v else kvs ++ [(k, v)]
def keyOf : D → Option Key
  | .int i => some (.inl i)
  | .str x => some (.inr x)
  | _ => none
theorem keyOf_D {d : D} {k : Key} (h : keyOf d = some k) : d = keyD k := by
  unfold keyOf at h
  split at h
  · cases h; rfl
  · cases h; rfl
  · cases h
theorem kEq_key (a b : Key) : kEq (keyD a) (keyD b) = decide (a = b) := by
  cases a with
  | inl i =>
    cases b with
    | inl j =>
      show decide (i = j) = _
      by_cases e : i = j
      · subst e; simp
      · rw [decide_eq_false e, decide_eq_false fun z => e (Sum.inl.inj z)]
    | inr y => exact (decide_eq_false fun z => nomatch z).symm
  | inr x =>
    cases b with
    | inl j => exact (decide_eq_false fun z => nomatch z).symm
    | inr y =>
      show decide (x = y) = _
      by_cases e : x = y
      · subst e; simp
      · rw [decide_eq_false e, decide_eq_false fun z => e (Sum.inr.inj z)]
section
variable {K : PySem.W.Frag} {P : Addr → Prop} {H : Hp}
theorem KvA.look {kvs : List (Key × V)} {r : List (D × D)} (q : KvA K P H kvs r) {k : Key} {d : D} (h : lookD r (keyD k) = some d) : ∃ v, valV kvs k = some v ∧ Rp K P H v d := by
  induction q with
  | nil => cases h
  | @cons k' v' d' kvs r a _ ih =>
    unfold lookD at h
    rw [kEq_key] at h
    by_cases e : k' = k
    · rw [decide_eq_true e, if_pos rfl] at h
      cases h
      exact ⟨v', valV_pos e, a⟩
    · rw [decide_eq_false e, if_neg Bool.false_ne_true] at h
      obtain ⟨v, h1, h2⟩ := ih h
      exact ⟨v, (valV_neg e).trans h1, h2⟩
theorem KvA.has {kvs : List (Key × V)} {r : List (D × D)} (q : KvA K P H kvs r) (k : Key) : hasD r (keyD k) = kvs.any fun kv => decide (kv.1 = k) := by
  induction q with
  | nil => rfl
  | @cons k' v' d' kvs r a _ ih =>
    unfold hasD
    rw [kEq_key, ih, List.any_cons]
theorem KvA.repl {kvs : List (Key × V)} {r : List (D × D)} (q : KvA K P H kvs r) (k : Key) {v : V} {d : D} (rv : Rp K P H v d) : KvA K P H (kvs.map fun kv => if kv.1 = k then (kv.1, v) else kv) (replD r (keyD k) d) := by
  induction q with
  | nil => exact .nil
  | @cons k' v' d' kvs r a _ ih =>
    unfold replD
    rw [kEq_key, List.map_cons]
    by_cases e : k' = k
    · rw [decide_eq_true e, if_pos rfl, if_pos e]
      exact .cons rv ih
    · rw [decide_eq_false e, if_neg Bool.false_ne_true, if_neg e]
      exact .cons a ih
theorem KvA.snoc {kvs : List (Key × V)} {r : List (D × D)} (q : KvA K P H kvs r) (k : Key) {v : V} {d : D} (rv : Rp K P H v d) : KvA K P H (kvs ++ [(k, v)]) (r ++ [(keyD k, d)]) := by
  induction q with
  | nil => exact .cons rv .nil
  | cons a _ ih => exact .cons a ih
theorem KvA.put {kvs : List (Key × V)} {r : List (D × D)} (q : KvA K P H kvs r) (k : Key) {v : V} {d : D} (rv : Rp K P H v d) : KvA K P H (putK kvs k v) (putD r (keyD k) d) := by
  unfold putK putD
  rw [q.has k]
  split
  · exact q.repl k rv
  · exact q.snoc k rv
theorem KvA.len {kvs : List (Key × V)} {r : List (D × D)} (q : KvA K P H kvs r) : kvs.length = r.length := by
  induction q with
  | nil => rfl
  | cons _ _ ih => simp only [List.length_cons, ih]
end
def eDi (k : Nat) (s : SD) : Option (List (D × D)) := match s[k]? with
  | some (some (.dict ((.none, d) :: r))) => none
  | some (some (.dict kvs)) => some kvs
  | _ => none
theorem eDi_of {k : Nat} {s : SD} {ds : List (D × D)} (h : eDi k s = some ds) : s[k]? = some (some (.dict ds)) ∧ ∀ d r, ds ≠ (.none, d) :: r := by
  unfold eDi at h
  split at h
  · cases h
  · rename_i q1 q2
    cases h
    exact ⟨q2, fun d r e => q1 d r e⟩
  · cases h
section
variable {X : Cx} {own io : List Nat} {fr : Bool} {pos : Pos}
theorem Gd.own_dict {K : PySem.W.Frag} {P : Addr → Prop} {σd : SD} {σ : L2.St} {H : Hp} (g : Gd K own P σd σ H) {k : Nat} {r : List (D × D)} (hk : k ∈ own) (h : eDi k σd = some r) : ∃ a kvs, σ[k]? = some (some (.ref a)) ∧ H a = some (.dK kvs) ∧ KvA K P H kvs r ∧ ¬ P a := by
  obtain ⟨h1, h2⟩ := eDi_of h
  obtain ⟨a, e, o, n⟩ := g.own_at hk h1
  cases o with
  | dct c r => exact ⟨a, _, e, c, r, n⟩
  | dtt c r => exact absurd rfl (h2 _ _)
theorem keyV_of {K : PySem.W.Frag} {P : Addr → Prop} {H : Hp} {v : V} {d : D} {k : Key} (r : Rp K P H v d) (h : keyOf d = some k) : v = kV k := by
  unfold keyOf at h
  split at h
  · cases h; cases r; rfl
  · cases h; cases r; rfl
  · cases h
def eDG (k : Nat) (fi : FE) : FE := fun s => (eDi k s).bind fun _ => (fi s).bind fun j => (eDi k j.2).bind fun kvs => (keyOf j.1).bind fun _ => (lookD kvs j.1).map fun d => (d, j.2)
theorem me_dget {x : Str} {p : Pos} {i : Expr} {k : Nat} {fi : FE} (hk : k ∈ own) (hp : PE X (.Subscript (.Name x p) i pos) (tDGet (tVar k) (tE X.K own fi))) : ME X own (.Subscript (.Name x p) i pos) (eDG k fi) := ⟨PE_imp hp fun σ H Q q => by
  obtain ⟨P, σd, d, σd', g, hf, q⟩ := q
  unfold eDG at hf
  obtain ⟨r0, h0, hf⟩ := Option.bind_eq_some_iff.mp hf
  obtain ⟨⟨kd, s1⟩, h1, hf⟩ := Option.bind_eq_some_iff.mp hf
  obtain ⟨r1, h2, hf⟩ := Option.bind_eq_some_iff.mp hf
  obtain ⟨kk, h3, hf⟩ := Option.bind_eq_some_iff.mp hf
  obtain ⟨d1, h4, hf⟩ := Option.map_eq_some_iff.mp hf
  cases hf
  obtain ⟨a, kvs0, ea, _, _, _⟩ := g.own_dict hk h0
  refine ⟨.ref a, ea, tE_of g h1 fun y H1 g1 e1 ry => ?_⟩
  obtain ⟨a', kvs, ea', c, ka, _⟩ := g1.own_dict hk h2
  rw [ea] at ea'
  cases ea'
  have ek := keyOf_D h3
  dsimp only at ek h4
  subst ek
  obtain ⟨v, h5, h6⟩ := ka.look h4
  obtain rfl := keyV_of ry h3
  refine ⟨a, v, rfl, ?_, q v H1 g1 e1 h6⟩
  rw [← h5]
  exact DGet.k c⟩
def sDP (k : Nat) (fv fi : FE) : FS := fun s => (fv s).bind fun r => (eDi k r.2).bind fun _ => (fi r.2).bind fun j => (eDi k j.2).bind fun kvs => (keyOf j.1).bind fun _ => if kvs.length < 1000000 then some (.nx (j.2.set k (some (.dict (putD kvs j.1 r.1))))) else none
theorem ms_dput {st : Stmt} {k : Nat} {fv fi : FE} (hk : k ∈ own) (hp : PS X st (sDPut (tVar k) (tE X.K own fi) (tE X.K own fv))) : MS X own io fr st (sDP k fv fi) := ⟨PS_imp hp fun D σ H q => by
  obtain ⟨P, σd, o, g, hf, q⟩ := q
  unfold sDP at hf
  obtain ⟨⟨d, s1⟩, h1, hf⟩ := Option.bind_eq_some_iff.mp hf
  obtain ⟨r0, h0, hf⟩ := Option.bind_eq_some_iff.mp hf
  obtain ⟨⟨kd, s2⟩, h2, hf⟩ := Option.bind_eq_some_iff.mp hf
  obtain ⟨r1, h3, hf⟩ := Option.bind_eq_some_iff.mp hf
  obtain ⟨kk, h4, hf⟩ := Option.bind_eq_some_iff.mp hf
  split at hf
  · rename_i hl
    cases hf
    refine tE_of g h1 fun v H1 g1 e1 rv => ?_
    obtain ⟨a, kvs0, ea, _, _, _⟩ := g1.own_dict hk h0
    refine ⟨.ref a, ea, tE_of g1 h2 fun y H2 g2 e2 ry => ?_⟩
    obtain ⟨a', kvs, ea', c, ka, nP⟩ := g2.own_dict hk h3
    rw [ea] at ea'
    cases ea'
    have ek := keyOf_D h4
    dsimp only at ek
    subst ek
    obtain rfl := keyV_of ry h4
    refine ⟨a, _, rfl, DPut.k c (by rw [ka.len]; exact lineL hl), ?_⟩
    have ex : Ext (fun b => b = a) H2 (upd H2 a (.dK (putK kvs kk v))) := Ext.write rfl (by rw [c]; trivial)
    exact q P σ _ (g2.put hk ea (.dct upd_same (((ka.put kk (rv.ext e2 g1.nw)).ext ex fun b e => e ▸ nP)))) Sub.refl ((Stp.of (e1.trans e2)).trans (stp_put hk ea (by rw [c]; trivial)))
  · cases hf⟩
/-! a written dict -/
def pGo : List (Key × FE) → SD → Option (List (D × D) × SD)
  | [], s => some ([], s)
  | (k, f) :: r, s => (f s).bind fun a => (pGo r a.2).map fun b => ((keyD k, a.1) :: b.1, b.2)
def eDis (l : List (Key × FE)) : FE := fun s => (pGo l s).map fun r => (.dict r.1, r.2)
theorem pairs_of {K : PySem.W.Frag} : ∀ (l : List (Key × FE)) {P : Addr → Prop} {σd s2 : SD} {r : List (D × D)} {σ : L2.St} {H : Hp} {Q : List (V × V) → Hp → Prop}, Gd K own P σd σ H → pGo l σd = some (r, s2) →
    (∀ (kvs : List (Key × V)) H', Gd K own P s2 σ H' → Ext (Wr own σ) H H' → KvA K P H' kvs r → kvs.map (·.1) = l.map (·.1) → Q (kvs.map fun kv => (kV kv.1, kv.2)) H') → tPairs (l.map fun kf => (tC (kV kf.1), tE K own kf.2)) σ H Q
  | [], P, σd, s2, r, σ, H, Q, g, e, q => by
    cases e
    exact q [] H g (Ext.refl _ _) .nil rfl
  | (k, f) :: l, P, σd, s2, r, σ, H, Q, g, e, q => by
    unfold pGo at e
    obtain ⟨⟨a, s1⟩, h1, e⟩ := Option.bind_eq_some_iff.mp e
    obtain ⟨⟨b, s3⟩, h2, e⟩ := Option.map_eq_some_iff.mp e
    cases e
    refine tE_of g h1 fun v H1 g1 e1 r1 => pairs_of l g1 h2 fun kvs H2 g2 e2 ka hk => ?_
    exact q ((k, v) :: kvs) H2 g2 (e1.trans e2) (.cons (r1.ext e2 g1.nw) ka) (by rw [List.map_cons, List.map_cons, hk])
theorem merge_nodup : ∀ (more acc : List (Key × V)), ((acc ++ more).map (·.1)).Nodup → mergeK acc more = acc ++ more
  | [], acc, _ => by
    show acc = acc ++ []
    rw [List.append_nil]
  | p :: more, acc, h => by
    have e : putK acc p.1 p.2 = acc ++ [p] := by
      unfold putK
      rw [if_neg]
      intro z
      obtain ⟨kv, hm, hk⟩ := List.any_eq_true.mp z
      have hk := of_decide_eq_true hk
      rw [List.map_append, List.map_cons] at h
      have := (List.nodup_append.mp h).2.2 kv.1 (List.mem_map.mpr ⟨kv, hm, rfl⟩) p.1 List.mem_cons_self
      exact this hk
    show mergeK (putK acc p.1 p.2) more = acc ++ p :: more
    rw [e, merge_nodup more (acc ++ [p]) (by rw [List.append_assoc]; exact h), List.append_assoc]
    rfl
theorem mf_disp {keys : List (Option Expr)} {values : List Expr} {l : List (Key × FE)} (hp : PE X (.Dict keys values pos) (tDisp (l.map fun kf => (tC (kV kf.1), tE X.K own kf.2)))) (nd : (l.map (·.1)).Nodup) (hl : l.length ≤ 15) : MF X own (.Dict keys values pos) (eDis l) := ⟨PE_imp hp fun σ H Q q => by
  obtain ⟨P, σd, d, σd', g, hf, q⟩ := q
  unfold eDis at hf
  obtain ⟨⟨r, s1⟩, h1, hf⟩ := Option.map_eq_some_iff.mp hf
  cases hf
  intro p hp
  have nw : ¬ Wr own σ p := fun w => by
    obtain ⟨o, e, _⟩ := g.wr_there w
    rw [hp] at e; cases e
  have g0 := g.off (o := .dK []) hp
  refine pairs_of l g0 h1 fun kvs H2 g2 e2 ka hk => ?_
  have ep : H2 p = some (.dK []) := e2.k _ _ upd_same fun w => absurd w nw
  have lk : kvs.length = l.length := by
    have := congrArg List.length hk
    rw [List.length_map, List.length_map] at this
    exact this
  refine ⟨ep, kvs, rfl, by omega, ?_⟩
  have em : mergeK [] kvs = kvs := merge_nodup kvs [] (by rw [List.nil_append, hk]; exact nd)
  rw [em]
  have ex : Ext (fun b => b = p) H2 (upd H2 p (.dK kvs)) := Ext.write rfl (by rw [ep]; trivial)
  have g3 := g2.elsewhere (p := p) (o := .dK kvs) (fun z => z.2 rfl) nw ep trivial
  have ext : Ext (Wr own σ) H (upd H2 p (.dK kvs)) := Ext.join (Ext.refl _ H) (((Ext.new hp).trans (e2.weak fun b w => .inl w)).trans (ex.weak fun b e => .inr (e ▸ hp)))
  exact q p _ hp (g3.weak (fun b z => z.1) g.nw) g3 ext (.dct upd_same (ka.ext ex fun b e z => z.2 e))⟩
end
end Mi
set_option Elab.async false
set_option linter.all false
set_option maxRecDepth 100000
namespace Mi
open PySem PySem.Spec L2

/-! ### defs: what they do, where no text of an object is being made -/
abbrev SpM := List V → Hp → VK → Prop
structure FnM (P : Program) (w : World) (K : PySem.W.Frag) (mg : Str → Option Value) (base : Heap) (k : Nat) (f : Addr) (fd : FuncData) (ps : List Str) (sp : SpM) : Prop where
  arity : ∀ vs H Q, sp vs H Q → vs.length = ps.length
  does : ∀ (A : Around) (fs : List Env) (s : Shared) (H : Hp) (args : Args) (us : List Value) (vs : List V) (Q : VK), Room k A → A.guards = some [] → Env0 P w K mg base A fs s H → BindsTo s fd args (ps.zip us) → Vals vs us → sp vs H Q →
    codeAny (model P w) A (.call (.ref f) args) (CR CX0 fs P w H s Q E0) s
theorem FnM.up {P : Program} {w : World} {K : PySem.W.Frag} {mg : Str → Option Value} {base : Heap} {j k : Nat} {f : Addr} {fd : FuncData} {ps : List Str} {sp : SpM} (F : FnM P w K mg base j f fd ps sp) (h : j ≤ k) : FnM P w K mg base k f fd ps sp :=
  ⟨F.arity, fun A fs s H args us vs Q hr => F.does A fs s H args us vs Q (hr.mono h)⟩
section
variable {P : Program} {w : World} {K : PySem.W.Frag} {mg : Str → Option Value} {base : Heap}
/-- the body's context -/
abbrev bodyX (P : Program) (w : World) (K : PySem.W.Frag) (mg : Str → Option Value) (base : Heap) (N : List Str) (qual : Str) (sc : Scope) (f : Addr) (cd : Value) (A : Around) (fs : List Env) (s : Shared) (H : Hp) : Cx := (cxOf CX0 P w K mg base N qual sc f cd A fs s H E0).nox
theorem fnM_of {x qual : Str} {st : Stmt} {f : Addr} {fd : FuncData} {N ps : List Str} {k : Nat} {sp : SpM} (F : Fun K x qual st f fd) (S : FnScope N ps (defScope st)) (ar : ∀ vs H Q, sp vs H Q → vs.length = ps.length)
    (hb : ∀ (cd : Value) (A : Around) (fs : List Env) (s : Shared) (H : Hp) (vs : List V) (Q : VK), Room k (A.deeper (PyProof.Rows.envOfC qual (defScope st) s.heap.objs.size f cd)) → A.guards = some [] → sp vs H Q →
      ∃ t, PSs (bodyX P w K mg base N qual (defScope st) f cd A fs s H) (defBody st) t ∧ t { nx := fun _ H' => Q .non H', rt := Q } (start N vs) H) : FnM P w K mg base (k + 1) f fd ps sp := by
  obtain ⟨oc, od, kV, doc, pm, an, cd, ct, osl, hfd, lk, hcd⟩ := F.ex
  subst hfd
  refine ⟨ar, fun A fs s H args us vs Q room gd e0 bd rv hsp => ?_⟩
  have al := ar _ _ _ hsp
  have inK : K.In s.heap := e0.mod.kin.keeps fun b o q => (e0.bs b o q).1
  have lims : s.heap.NoLimit := e0.mod.nolimit.keeps fun b o q => (e0.bs b o q).1
  have kinds : ∀ z ∈ ps.zip us, (defScope st).names.lookup z.1 = some .local ∨ ((defScope st).names.lookup z.1 = some .cell ∧ ((cellsFrom (s.heap.objs.size + 1) (defScope st).names []).lookup z.1).isSome = true) := by
    rintro ⟨nm, val⟩ hz
    have inP := (List.of_mem_zip hz).1
    cases S.par nm inP with
    | inl q => exact .inl q
    | inr q => exact .inr ⟨q, PySem.W.cellsFrom_some _ _ _ (.inl q)⟩
  apply codeAny_call_function room.depth (inK _ _ lk) rfl S.co S.gen rfl (PySem.W.codeRec_of inK hcd) (bd _ _ _ _ ?_)
  apply wpAny_newFunctionEnv_cells S.kind kinds
  intro env henv s1 inC
  subst henv
  refine ⟨lims.keeps inC.toInCall.keep, codeAny_func ?_⟩
  obtain ⟨t, ht, hq⟩ := hb cd A fs s H vs Q (room.deeper _) gd hsp
  have I0 : Inv (cxOf CX0 P w K mg base N qual (defScope st) f cd A fs s H E0) [] (start N vs) H s1 := inv_start S room.hd e0 al rv inC
  have ends : ∀ {σ' : L2.St} {H' : Hp} {v : V} {u : Value} {s' : Shared}, Inv (cxOf CX0 P w K mg base N qual (defScope st) f cd A fs s H E0) [] σ' H' s' → RelV v u → Q v H' → CE fs P w H s Q u s' := by
    intro σ' H' v u s' J rel q
    exact ⟨v, H', J.os, J.bare, J.base, J.hok, rel, q⟩
  apply wpAny_mono (ht.nox.run [] s1 (start N vs) H _ I0 hq)
  · intro fl s' hs
    cases fl with
    | next =>
      obtain ⟨σ', H', J, q⟩ := hs
      exact ends (v := V.non) (u := Value.none) J rfl q
    | ret u =>
      obtain ⟨v, σ', H', J, rel, q⟩ := hs
      exact ends J rel q
    | brk => exact absurd hs (by rintro ⟨_, _, _, z⟩; exact z)
    | cont => exact absurd hs (by rintro ⟨_, _, _, z⟩; exact z)
  · intro e s' hs
    exact hs
end
section
variable {X : Cx} {k : Nat} {f : Addr} {fd : FuncData} {ps : List Str} {sp : SpM}
theorem callM {pins : List (Addr × Obj)} {σ : L2.St} {H : Hp} {s : Shared} {Q : VK} {args : Args} {us : List Value} {vs : List V} (F : FnM X.prog X.w X.K X.mg X.base k f fd ps sp) (hr : Room k X.A) (hG : X.A.guards = some []) (I : Inv X pins σ H s) (bd : BindsTo s fd args (ps.zip us)) (r : Vals vs us) (h : sp vs H Q) :
    codeAny (model X.prog X.w) X.A (.call (.ref f) args) (wants (EP X pins σ Q) X.xe) s := by
  apply codeAny_mono (F.does X.A X.stack s H args us vs Q hr hG I.env0 bd r h)
  intro res s' hq
  match res, hq with
  | .ok (.ret u), hq => exact I.after hq
  | .ok .next, hq => exact False.elim hq
  | .ok .brk, hq => exact False.elim hq
  | .ok .cont, hq => exact False.elim hq
  | .error e, hq => exact False.elim hq
def tCallM (sp : SpM) (t : TA) : TE := fun σ H Q => t σ H fun vs H1 => sp vs H1 Q
theorem pe_callM {x : Str} {p pos : Pos} {e : Expr} {es : List Expr} {t : TA} (F : FnM X.prog X.w X.K X.mg X.base k f fd ps sp) (hr : Room k X.A) (hG : X.A.guards = some []) (hg : Gl X x) (hm : X.mg x = some (.ref f)) (kp : PySem.W.keepIn X.K (.ref f) = true) (hb : Binds X.K fd ps [])
    (ha : PA X (e :: es) t) (nd : (x == ("__debug__" : Str)) = false := by decide) (s1 : starEach (e :: es) X.env = (false, eval e X.env) :: starEach es X.env := by rfl) (s2 : (backTo pos (starEach es X.env)).any (·.1) = false := by rfl) : PE X (.Call (.Name x p) (e :: es) [] pos) (tCallM sp t) := by
  constructor
  intro pins s σ H Q I h
  apply wpAny_Call_Name_kw (ld_glob I hg hm ?_ nd)
  apply PySem.W.callWith_K (h₀ := X.base) I.ok.mod.kin kp ?_ s1 s2
  apply thn (ha.run pos pins s σ H _ I h)
  rintro us s' ⟨vs, H', I', r, q⟩
  refine ⟨I'.kIn, wpAny_call (callM F hr hG I' ?_ r q)⟩
  have hl : (us ++ []).length = ps.length := by rw [List.append_nil, ← r.length]; exact F.arity _ _ _ q
  have := hb s' us I'.kIn hl
  rw [List.append_nil] at this
  exact this
end
end Mi
set_option Elab.async false
set_option linter.all false
set_option maxRecDepth 100000
namespace Mi
open PySem PySem.Spec L2

abbrev FF := List D → Option (D × SD)
def Named (vs : List V) (io : List Nat) (b : Addr) : Prop := ∃ i, i ∈ io ∧ vs[i]? = some (.ref b)
structure ArgsOk (K : PySem.W.Frag) (P : Addr → Prop) (H : Hp) (io : List Nat) (vs : List V) (ds : List D) : Prop where
  len : vs.length = ds.length
  fresh : ∀ b, H b = none → P b
  shr : ∀ i v, i ∉ io → vs[i]? = some v → ∃ d, ds[i]? = some d ∧ Rp K P H v d
  own : ∀ i v, i ∈ io → vs[i]? = some v → ∃ a d, v = .ref a ∧ ds[i]? = some d ∧ Ow K P H a d ∧ ¬ P a
  dj : ∀ i j a, i ∈ io → j ∈ io → vs[i]? = some (.ref a) → vs[j]? = some (.ref a) → i = j
structure CallPost (K : PySem.W.Frag) (P P1 : Addr → Prop) (H : Hp) (io : List Nat) (fr : Bool) (vs : List V) (d : D) (s' : SD) (v : V) (H' : Hp) : Prop where
  ext : Ext (Named vs io) H H'
  sub : Sub P H P1
  own : ∀ i a, i ∈ io → vs[i]? = some (.ref a) → ∃ d', s'[i]? = some (some d') ∧ Ow K P1 H' a d'
  ret : if fr = true then ∃ a, v = .ref a ∧ H a = none ∧ ¬ P1 a ∧ Ow K P1 H' a d else Rp K P H' v d
/-- a def's promise over data -/
def spD (K : PySem.W.Frag) (n : Nat) (io : List Nat) (fr : Bool) (F : FF) : SpM := fun vs H Q => vs.length = n ∧ ∃ (P : Addr → Prop) (ds : List D) (d : D) (s' : SD), ArgsOk K P H io vs ds ∧ F ds = some (d, s') ∧ ∀ v H' P1, CallPost K P P1 H io fr vs d s' v H' → Q v H'
def st0 (n : Nat) (ds : List D) : SD := ds.map some ++ List.replicate (n - ds.length) none
def runF (n : Nat) (g : FS) : FF := fun ds => (g (st0 n ds)).bind fun o => match o with
  | .rt d s => some (d, s)
  | .nx s => some (.none, s)
  | _ => none
section
variable {K : PySem.W.Frag} {P : Addr → Prop} {H : Hp} {own io : List Nat} {N : List Str}
theorem pad_get {α : Type} {xs : List α} {m i : Nat} {x : α} (h : (xs.map some ++ List.replicate m none)[i]? = some (some x)) : xs[i]? = some x := by
  by_cases hi : i < xs.length
  · rw [List.getElem?_append_left (by rw [List.length_map]; exact hi), List.getElem?_map] at h
    cases e : xs[i]? with
    | none => rw [e] at h; cases h
    | some y => rw [e] at h; cases h; rfl
  · rw [List.getElem?_append_right (by rw [List.length_map]; omega), List.getElem?_replicate] at h
    split at h <;> cases h
theorem get_pad {α : Type} {xs : List α} {m i : Nat} {x : α} (h : xs[i]? = some x) : (xs.map some ++ List.replicate m none)[i]? = some (some x) := by
  have hi : i < xs.length := by
    obtain ⟨h, _⟩ := List.getElem?_eq_some_iff.mp h
    exact h
  rw [List.getElem?_append_left (by rw [List.length_map]; exact hi), List.getElem?_map, h]
  rfl
/-- the state at the entry -/
theorem gd_start {vs : List V} {ds : List D} (a : ArgsOk K P H io vs ds) (ho : ∀ i ∈ own, i < vs.length → i ∈ io) (hi : ∀ i ∈ io, i ∈ own) : Gd K own P (st0 N.length ds) (L2.start N vs) H := by
  unfold st0 L2.start
  refine ⟨?_, a.fresh, fun b w => ?_, fun i d hn h => ?_, fun i hi' v h => ?_, fun i d hi' h => ?_, fun i j b hi' hj h1 h2 => ?_⟩
  · simp only [List.length_append, List.length_map, List.length_replicate, a.len]
  · obtain ⟨i, hi', e⟩ := w
    have e := pad_get e
    have il : i < vs.length := by
      obtain ⟨h, _⟩ := List.getElem?_eq_some_iff.mp e
      exact h
    obtain ⟨b', d, e1, _, _, n⟩ := a.own i _ (ho i hi' il) e
    cases e1
    exact n
  · have h := pad_get h
    have il : i < vs.length := by
      rw [a.len]
      obtain ⟨h, _⟩ := List.getElem?_eq_some_iff.mp h
      exact h
    have ev : vs[i]? = some vs[i] := List.getElem?_eq_getElem il
    obtain ⟨d', e1, r⟩ := a.shr i _ (fun z => hn (hi i z)) ev
    rw [h] at e1
    cases e1
    exact ⟨vs[i], get_pad ev, r⟩
  · have h := pad_get h
    have il : i < vs.length := by
      obtain ⟨h, _⟩ := List.getElem?_eq_some_iff.mp h
      exact h
    obtain ⟨b, d, e1, e2, o, _⟩ := a.own i v (ho i hi' il) h
    exact ⟨b, d, e1, get_pad e2, o⟩
  · have h := pad_get h
    have il : i < vs.length := by
      rw [a.len]
      obtain ⟨h, _⟩ := List.getElem?_eq_some_iff.mp h
      exact h
    have ev : vs[i]? = some vs[i] := List.getElem?_eq_getElem il
    obtain ⟨b, d', e1, e2, o, _⟩ := a.own i _ (ho i hi' il) ev
    rw [e1] at ev
    exact ⟨b, get_pad ev⟩
  · have h1 := pad_get h1
    have h2 := pad_get h2
    have l1 : i < vs.length := by
      obtain ⟨h, _⟩ := List.getElem?_eq_some_iff.mp h1
      exact h
    have l2 : j < vs.length := by
      obtain ⟨h, _⟩ := List.getElem?_eq_some_iff.mp h2
      exact h
    exact a.dj i j b (ho i hi' l1) (ho j hj l2) h1 h2
end
section
variable {P0 : Program} {w : World} {K : PySem.W.Frag} {mg : Str → Option Value} {base : Heap}
/-- THE RULE for a def -/
theorem fn_mini {x qual : Str} {st : Stmt} {f : Addr} {fd : FuncData} {N ps : List Str} {k n : Nat} {own io : List Nat} {fr : Bool} {g : FS} (F : Fun K x qual st f fd) (S : FnScope N ps (defScope st)) (hn : n = ps.length) (ho : ∀ i ∈ own, i < n → i ∈ io) (hi : ∀ i ∈ io, i ∈ own ∧ i < n)
    (hb : ∀ (cd : Value) (A : Around) (fs : List Env) (s : Shared) (H : Hp), Room k (bodyX P0 w K mg base N qual (defScope st) f cd A fs s H).A → (bodyX P0 w K mg base N qual (defScope st) f cd A fs s H).A.guards = some [] →
      MSs (bodyX P0 w K mg base N qual (defScope st) f cd A fs s H) own io fr (defBody st) g) (hnx : fr = true → ∀ s s', g s ≠ some (.nx s')) : FnM P0 w K mg base (k + 1) f fd ps (spD K n io fr (runF N.length g)) := by
  refine fnM_of F S (fun vs H Q h => by rw [h.1, hn]) fun cd A fs s H vs Q hr hG h => ?_
  obtain ⟨hl, P, ds, d, s', a, hF, q⟩ := h
  refine ⟨_, (hb cd A fs s H hr hG).ps, ?_⟩
  have g0 : Gd K own P (st0 N.length ds) (L2.start N vs) H := gd_start a (fun i hi' il => ho i hi' (by omega)) fun i hi' => (hi i hi').1
  have wr0 : ∀ b, Wr own (L2.start N vs) b → Named vs io b := fun b ⟨i, hi', e⟩ => by
    have e := pad_get (show (vs.map some ++ List.replicate (N.length - vs.length) none)[i]? = _ from e)
    have il : i < vs.length := by
      obtain ⟨h, _⟩ := List.getElem?_eq_some_iff.mp e
      exact h
    exact ⟨i, ho i hi' (by omega), e⟩
  have fin : ∀ {P' : Addr → Prop} {s' : SD} {σ' : L2.St} {H' : Hp} {v : V} {d : D}, Gd K own P' s' σ' H' → Sub P H P' → Stp own io (L2.start N vs) H σ' H' → RetV K own io fr H P' σ' H' v d → CallPost K P P' H io fr vs d s' v H' := by
    intro P' s' σ' H' v d g1 p t r
    have slot : ∀ i b, i ∈ own → i ∉ io → σ'[i]? = some (some (.ref b)) → H b = none := fun i b hi' hn' e => by
      rcases t.wr b ⟨i, hi', e⟩ with w | z
      · obtain ⟨j, hj, ej⟩ := wr0 b w
        have ej' := t.io j hj
        rw [show (L2.start N vs)[j]? = some (some (.ref b)) from get_pad ej] at ej'
        have := g1.dj i j b hi' (hi j hj).1 e ej'
        exact absurd (this ▸ hj) hn'
      · exact z
    refine ⟨t.ext.weak wr0, p, fun i b hi' e => ?_, ?_⟩
    · have ej' := t.io i hi'
      rw [show (L2.start N vs)[i]? = some (some (.ref b)) from get_pad e] at ej'
      obtain ⟨b', d', e1, e2, o⟩ := g1.ows i (hi i hi').1 _ ej'
      cases e1
      exact ⟨d', e2, o⟩
    · unfold RetV at r
      by_cases hf : fr = true
      · rw [if_pos hf] at r ⊢
        obtain ⟨b, e, n, o, q⟩ := r
        refine ⟨b, e, ?_, n, o⟩
        rcases q with ⟨i, hi', hn', e'⟩ | z
        · exact slot i b hi' hn' e'
        · exact z
      · rw [if_neg hf] at r ⊢
        refine r.mono fun b z => ?_
        rcases z with z | ⟨i, hi', hn', e'⟩
        · exact p.le b z
        · exact a.fresh b (slot i b hi' hn' e')
  unfold runF at hF
  obtain ⟨o, h1, hF⟩ := Option.bind_eq_some_iff.mp hF
  refine ⟨P, st0 N.length ds, o, g0, h1, ?_⟩
  cases o with
  | rt d' s2 =>
    cases hF
    exact fun P' σ' H' v g1 p t r => q v H' P' (fin g1 p t r)
  | nx s2 =>
    cases hF
    refine fun P' σ' H' g1 p t => q .non H' P' (fin g1 p t ?_)
    unfold RetV
    split
    · rename_i hf
      exact absurd h1 (hnx hf _ _)
    · exact .non
  | bk s2 => cases hF
  | ct s2 => cases hF
end

/-! ### calls -/
/-- an argument: data, or what an owned name holds -/
inductive AK where
  | sh (f : FE) | ow (k : Nat)
def taK (K : PySem.W.Frag) (own : List Nat) : List AK → TA
  | [] => tNil
  | .sh f :: r => tCons (tE K own f) (taK K own r)
  | .ow k :: r => tCons (tVar k) (taK K own r)
/-- what comes of the data, from the left -/
def a1 : List AK → SD → Option (List (Option D) × SD)
  | [], s => some ([], s)
  | .sh f :: r, s => (f s).bind fun a => (a1 r a.2).map fun b => (some a.1 :: b.1, b.2)
  | .ow k :: r, s => (eVar k s).bind fun _ => (a1 r s).map fun b => (none :: b.1, b.2)
/-- what is handed over, when all has come -/
def a2 : List AK → List (Option D) → SD → Option (List D)
  | .sh _ :: r, some d :: vals, s => (a2 r vals s).map (d :: ·)
  | .ow k :: r, none :: vals, s => (eVar k s).bind fun d => (a2 r vals s).map (d.1 :: ·)
  | [], [], _ => some []
  | _, _, _ => none
inductive AR (K : PySem.W.Frag) (P : Addr → Prop) (σ : L2.St) (H : Hp) : List AK → List (Option D) → List V → Prop
  | nil : AR K P σ H [] [] []
  | sh {f : FE} {aks : List AK} {d : D} {vals : List (Option D)} {v : V} {vs : List V} : Rp K P H v d → AR K P σ H aks vals vs → AR K P σ H (.sh f :: aks) (some d :: vals) (v :: vs)
  | ow {k : Nat} {aks : List AK} {vals : List (Option D)} {v : V} {vs : List V} : σ[k]? = some (some v) → AR K P σ H aks vals vs → AR K P σ H (.ow k :: aks) (none :: vals) (v :: vs)
theorem AR.ext {K : PySem.W.Frag} {P W : Addr → Prop} {σ : L2.St} {H H' : Hp} (e : Ext W H H') (h : ∀ b, W b → ¬ P b) {aks : List AK} {vals : List (Option D)} {vs : List V} (r : AR K P σ H aks vals vs) : AR K P σ H' aks vals vs := by
  induction r with
  | nil => exact .nil
  | sh r _ ih => exact .sh (r.ext e h) ih
  | ow q _ ih => exact .ow q ih
section
variable {own : List Nat} {K : PySem.W.Frag}
theorem taK_of : ∀ (aks : List AK) {P : Addr → Prop} {s s1 : SD} {vals : List (Option D)} {σ : L2.St} {H : Hp} {Q : List V → Hp → Prop}, (∀ k, AK.ow k ∈ aks → k ∈ own) → Gd K own P s σ H → a1 aks s = some (vals, s1) →
    (∀ vs H', Gd K own P s1 σ H' → Ext (Wr own σ) H H' → AR K P σ H' aks vals vs → Q vs H') → taK K own aks σ H Q
  | [], P, s, s1, vals, σ, H, Q, hk, g, e, q => by
    cases e
    exact q [] H g (Ext.refl _ _) .nil
  | .sh f :: r, P, s, s1, vals, σ, H, Q, hk, g, e, q => by
    unfold a1 at e
    obtain ⟨⟨a, s2⟩, h1, e⟩ := Option.bind_eq_some_iff.mp e
    obtain ⟨⟨b, s3⟩, h2, e⟩ := Option.map_eq_some_iff.mp e
    cases e
    exact tE_of g h1 fun v H1 g1 e1 r1 => taK_of r (fun k h => hk k (List.mem_cons_of_mem _ h)) g1 h2 fun vs H2 g2 e2 r2 => q (v :: vs) H2 g2 (e1.trans e2) (.sh (r1.ext e2 g1.nw) r2)
  | .ow k :: r, P, s, s1, vals, σ, H, Q, hk, g, e, q => by
    unfold a1 at e
    obtain ⟨⟨a, s2⟩, h1, e⟩ := Option.bind_eq_some_iff.mp e
    obtain ⟨⟨b, s3⟩, h2, e⟩ := Option.map_eq_some_iff.mp e
    cases e
    obtain ⟨h1, _⟩ := eVar_of h1
    obtain ⟨a', ea, _, _⟩ := g.own_at (hk k List.mem_cons_self) h1
    exact ⟨.ref a', ea, taK_of r (fun k h => hk k (List.mem_cons_of_mem _ h)) g h2 fun vs H2 g2 e2 r2 => q (.ref a' :: vs) H2 g2 e2 (.ow ea r2)⟩
end
def slotsA : List AK → List Nat
  | [] => []
  | .sh _ :: r => slotsA r
  | .ow k :: r => k :: slotsA r
theorem mem_slotsA {k : Nat} : ∀ {aks : List AK}, k ∈ slotsA aks → AK.ow k ∈ aks
  | .sh _ :: r, h => List.mem_cons_of_mem _ (mem_slotsA h)
  | .ow j :: r, h => by
    rcases List.mem_cons.mp h with rfl | h
    · exact List.mem_cons_self
    · exact List.mem_cons_of_mem _ (mem_slotsA h)
end Mi
set_option Elab.async false
set_option linter.all false
set_option maxRecDepth 100000
namespace Mi
open PySem PySem.Spec L2

theorem lt_of_get {α : Type} {l : List α} {i : Nat} {x : α} (h : l[i]? = some x) : i < l.length := by
  obtain ⟨h, _⟩ := List.getElem?_eq_some_iff.mp h
  exact h
/-- what stands in the owned names behind a call -/
def a3 : List AK → SD → SD → Option SD
  | [], _, s => some s
  | .sh _ :: r, _ :: xs, s => a3 r xs s
  | .ow k :: r, some d :: xs, s => a3 r xs (s.set k (some d))
  | _, _, _ => none
theorem slot_at {aks : List AK} {i k : Nat} (h : aks[i]? = some (AK.ow k)) : k ∈ slotsA aks := by
  induction aks generalizing i with
  | nil => simp at h
  | cons a r ih =>
    cases i with
    | zero =>
      simp only [List.getElem?_cons_zero, Option.some.injEq] at h
      subst h
      exact List.mem_cons_self
    | succ i =>
      simp only [List.getElem?_cons_succ] at h
      have := ih h
      cases a with
      | sh f => exact this
      | ow j => exact List.mem_cons_of_mem _ this
theorem at_slot {aks : List AK} {k : Nat} (h : k ∈ slotsA aks) : ∃ i : Nat, aks[i]? = some (AK.ow k) := by
  obtain ⟨i, hi, e⟩ := List.mem_iff_getElem.mp (mem_slotsA h)
  exact ⟨i, by rw [List.getElem?_eq_getElem hi, e]⟩
theorem slot_inj {aks : List AK} (nd : (slotsA aks).Nodup) {i j k : Nat} (h1 : aks[i]? = some (AK.ow k)) (h2 : aks[j]? = some (AK.ow k)) : i = j := by
  induction aks generalizing i j with
  | nil => simp at h1
  | cons a r ih =>
    have nr : (slotsA r).Nodup := by
      cases a with
      | sh f => exact nd
      | ow q => exact (List.nodup_cons.mp nd).2
    cases i with
    | zero =>
      cases j with
      | zero => rfl
      | succ j =>
        simp only [List.getElem?_cons_zero, Option.some.injEq] at h1
        simp only [List.getElem?_cons_succ] at h2
        subst h1
        exact absurd (slot_at h2) (List.nodup_cons.mp nd).1
    | succ i =>
      cases j with
      | zero =>
        simp only [List.getElem?_cons_zero, Option.some.injEq] at h2
        simp only [List.getElem?_cons_succ] at h1
        subst h2
        exact absurd (slot_at h1) (List.nodup_cons.mp nd).1
      | succ j =>
        simp only [List.getElem?_cons_succ] at h1 h2
        rw [ih nr h1 h2]
theorem a3_of : ∀ {aks : List AK} {xs s s2 : SD}, (slotsA aks).Nodup → a3 aks xs s = some s2 → s2.length = s.length ∧ (∀ j, j ∉ slotsA aks → s2[j]? = s[j]?) ∧
    ∀ i k : Nat, aks[i]? = some (AK.ow k) → k < s.length → ∃ d, xs[i]? = some (some d) ∧ s2[k]? = some (some d)
  | [], xs, s, s2, _, e => by
    cases e
    exact ⟨rfl, fun _ _ => rfl, fun i k h => by simp at h⟩
  | .sh f :: r, [], s, s2, _, e => by cases e
  | .sh f :: r, x :: xs, s, s2, nd, e => by
    obtain ⟨h1, h2, h3⟩ := a3_of (aks := r) nd e
    refine ⟨h1, h2, fun i k h hl => ?_⟩
    cases i with
    | zero => simp at h
    | succ i =>
      simp only [List.getElem?_cons_succ] at h ⊢
      exact h3 i k h hl
  | .ow k0 :: r, [], s, s2, _, e => by cases e
  | .ow k0 :: r, none :: xs, s, s2, _, e => by cases e
  | .ow k0 :: r, some d0 :: xs, s, s2, nd, e => by
    obtain ⟨h1, h2, h3⟩ := a3_of (aks := r) (List.nodup_cons.mp nd).2 e
    refine ⟨by rw [h1, List.length_set], fun j hj => ?_, fun i k h hl => ?_⟩
    · rw [h2 j fun z => hj (List.mem_cons_of_mem _ z), List.getElem?_set_ne fun z => hj (by rw [← z]; exact List.mem_cons_self)]
    · cases i with
      | zero =>
        simp only [List.getElem?_cons_zero, Option.some.injEq, AK.ow.injEq] at h
        subst h
        refine ⟨d0, rfl, ?_⟩
        rw [h2 k0 (List.nodup_cons.mp nd).1, List.getElem?_set_self hl]
      | succ i =>
        simp only [List.getElem?_cons_succ] at h ⊢
        exact h3 i k h (by rw [List.length_set]; exact hl)
section
variable {K : PySem.W.Frag} {P : Addr → Prop} {σ : L2.St} {H : Hp} {own : List Nat}
theorem AR.get {aks : List AK} {vals : List (Option D)} {vs : List V} (r : AR K P σ H aks vals vs) : vs.length = aks.length ∧ vals.length = aks.length ∧
    (∀ (i : Nat) f, aks[i]? = some (AK.sh f) → ∃ d v, vals[i]? = some (some d) ∧ vs[i]? = some v ∧ Rp K P H v d) ∧ ∀ i k : Nat, aks[i]? = some (AK.ow k) → ∃ v, vals[i]? = some none ∧ vs[i]? = some v ∧ σ[k]? = some (some v) := by
  induction r with
  | nil => exact ⟨rfl, rfl, fun i f h => by simp at h, fun i k h => by simp at h⟩
  | @sh f0 aks d0 vals v0 vs r0 _ ih =>
    obtain ⟨h1, h2, h3, h4⟩ := ih
    refine ⟨by simp only [List.length_cons, h1], by simp only [List.length_cons, h2], fun i f h => ?_, fun i k h => ?_⟩
    · cases i with
      | zero => exact ⟨d0, v0, rfl, rfl, r0⟩
      | succ i => simp only [List.getElem?_cons_succ] at h ⊢; exact h3 i f h
    · cases i with
      | zero => simp at h
      | succ i => simp only [List.getElem?_cons_succ] at h ⊢; exact h4 i k h
  | @ow k0 aks vals v0 vs r0 _ ih =>
    obtain ⟨h1, h2, h3, h4⟩ := ih
    refine ⟨by simp only [List.length_cons, h1], by simp only [List.length_cons, h2], fun i f h => ?_, fun i k h => ?_⟩
    · cases i with
      | zero => simp at h
      | succ i => simp only [List.getElem?_cons_succ] at h ⊢; exact h3 i f h
    · cases i with
      | zero =>
        simp only [List.getElem?_cons_zero, Option.some.injEq, AK.ow.injEq] at h
        subst h
        exact ⟨v0, rfl, rfl, r0⟩
      | succ i => simp only [List.getElem?_cons_succ] at h ⊢; exact h4 i k h
theorem a2_of : ∀ {aks : List AK} {vals : List (Option D)} {s : SD} {ds : List D}, a2 aks vals s = some ds → ds.length = aks.length ∧ (∀ (i : Nat) f d, aks[i]? = some (AK.sh f) → vals[i]? = some (some d) → ds[i]? = some d) ∧
    ∀ i k : Nat, aks[i]? = some (AK.ow k) → ∃ d, s[k]? = some (some d) ∧ ds[i]? = some d
  | [], [], s, ds, e => by
    cases e
    exact ⟨rfl, fun i f d h => by simp at h, fun i k h => by simp at h⟩
  | [], _ :: _, s, ds, e => by cases e
  | .sh f0 :: r, [], s, ds, e => by cases e
  | .sh f0 :: r, none :: vals, s, ds, e => by cases e
  | .sh f0 :: r, some d0 :: vals, s, ds, e => by
    unfold a2 at e
    obtain ⟨es, h0, e⟩ := Option.map_eq_some_iff.mp e
    subst e
    obtain ⟨h1, h2, h3⟩ := a2_of h0
    refine ⟨by simp only [List.length_cons, h1], fun i f d h hv => ?_, fun i k h => ?_⟩
    · cases i with
      | zero =>
        simp only [List.getElem?_cons_zero, Option.some.injEq] at hv ⊢
        exact hv
      | succ i => simp only [List.getElem?_cons_succ] at h hv ⊢; exact h2 i f d h hv
    · cases i with
      | zero => simp at h
      | succ i => simp only [List.getElem?_cons_succ] at h ⊢; exact h3 i k h
  | .ow k0 :: r, [], s, ds, e => by cases e
  | .ow k0 :: r, some _ :: vals, s, ds, e => by cases e
  | .ow k0 :: r, none :: vals, s, ds, e => by
    unfold a2 at e
    obtain ⟨⟨d0, s0⟩, h00, e⟩ := Option.bind_eq_some_iff.mp e
    obtain ⟨es, h0, e⟩ := Option.map_eq_some_iff.mp e
    subst e
    obtain ⟨h1, h2, h3⟩ := a2_of h0
    obtain ⟨h00, _⟩ := eVar_of h00
    refine ⟨by simp only [List.length_cons, h1], fun i f d h hv => ?_, fun i k h => ?_⟩
    · cases i with
      | zero => simp at h
      | succ i => simp only [List.getElem?_cons_succ] at h hv ⊢; exact h2 i f d h hv
    · cases i with
      | zero =>
        simp only [List.getElem?_cons_zero, Option.some.injEq, AK.ow.injEq] at h
        subst h
        exact ⟨d0, h00, rfl⟩
      | succ i => simp only [List.getElem?_cons_succ] at h ⊢; exact h3 i k h
end
/-- which places are handed over as they stand -/
def ioOk (io : List Nat) (aks : List AK) : Prop := (∀ i ∈ io, ∃ k : Nat, aks[i]? = some (AK.ow k)) ∧ ∀ i k : Nat, aks[i]? = some (AK.ow k) → i ∈ io
section
variable {K : PySem.W.Frag} {P : Addr → Prop} {σ : L2.St} {H H2 : Hp} {own io : List Nat}
theorem args_ok {aks : List AK} {vals : List (Option D)} {vs : List V} {s : SD} {ds : List D} (g : Gd K own P s σ H) (r : AR K P σ H aks vals vs) (h2 : a2 aks vals s = some ds) (hio : ioOk io aks) (nd : (slotsA aks).Nodup) (hk : ∀ k ∈ slotsA aks, k ∈ own) : ArgsOk K P H io vs ds := by
  obtain ⟨l1, l2, f1, f2⟩ := r.get
  obtain ⟨m1, m2, m3⟩ := a2_of h2
  refine ⟨by rw [l1, m1], g.fresh, fun i v hn h => ?_, fun i v hi h => ?_, fun i j a hi hj e1 e2 => ?_⟩
  · have il : i < aks.length := by rw [← l1]; exact lt_of_get h
    have ea : aks[i]? = some aks[i] := List.getElem?_eq_getElem il
    cases q : aks[i] with
    | sh f =>
      rw [q] at ea
      obtain ⟨d, v', e1, e2, rr⟩ := f1 i f ea
      rw [h] at e2
      cases e2
      exact ⟨d, m2 i f d ea e1, rr⟩
    | ow k =>
      rw [q] at ea
      exact absurd (hio.2 i k ea) hn
  · obtain ⟨k, ea⟩ := hio.1 i hi
    obtain ⟨v', e1, e2, e3⟩ := f2 i k ea
    rw [h] at e2
    cases e2
    obtain ⟨d, e4, e5⟩ := m3 i k ea
    obtain ⟨a, e6, o, n⟩ := g.own_at (hk k (slot_at ea)) e4
    rw [e3] at e6
    cases e6
    exact ⟨a, d, rfl, e5, o, n⟩
  · obtain ⟨k, ea⟩ := hio.1 i hi
    obtain ⟨k', eb⟩ := hio.1 j hj
    obtain ⟨v, _, e3, e4⟩ := f2 i k ea
    obtain ⟨v', _, e5, e6⟩ := f2 j k' eb
    rw [e1] at e3
    rw [e2] at e5
    cases e3
    cases e5
    have ek := g.dj k k' a (hk k (slot_at ea)) (hk k' (slot_at eb)) e4 e6
    subst ek
    exact slot_inj nd ea eb
/-- the state behind a call -/
theorem gd_after {P1 P2 : Addr → Prop} {aks : List AK} {vals : List (Option D)} {vs : List V} {s s2 xs : SD} {fr : Bool} {d : D} {v : V} (g : Gd K own P s σ H) (r : AR K P σ H aks vals vs) (hio : ioOk io aks) (nd : (slotsA aks).Nodup) (hk : ∀ k ∈ slotsA aks, k ∈ own)
    (c : CallPost K P P1 H io fr vs d xs v H2) (h3 : a3 aks xs s = some s2) (p1 : ∀ b, P1 b → P2 b) (p2 : ∀ b, P b → H b ≠ none → P2 b) (p3 : ∀ b, P2 b → P b) (p4 : ∀ b, H2 b = none → P2 b) : Gd K own P2 s2 σ H2 ∧ Ext (Wr own σ) H H2 := by
  obtain ⟨l1, l2, f1, f2⟩ := r.get
  obtain ⟨n1, n2, n3⟩ := a3_of nd h3
  have nm : ∀ b, Named vs io b → ∃ k, k ∈ slotsA aks ∧ σ[k]? = some (some (.ref b)) := fun b ⟨i, hi, e⟩ => by
    obtain ⟨k, ea⟩ := hio.1 i hi
    obtain ⟨v', _, e3, e4⟩ := f2 i k ea
    rw [e] at e3
    cases e3
    exact ⟨k, slot_at ea, e4⟩
  have nP : ∀ b, Named vs io b → ¬ P b := fun b z => by
    obtain ⟨k, h1, h2⟩ := nm b z
    exact g.nw b ⟨k, hk k h1, h2⟩
  have nP' : ∀ b, Named vs io b → ¬ (P b ∧ H b ≠ none) := fun b z y => nP b z y.1
  have ext : Ext (Wr own σ) H H2 := c.ext.weak fun b z => by
    obtain ⟨k, h1, h2⟩ := nm b z
    exact ⟨k, hk k h1, h2⟩
  refine ⟨⟨by rw [n1]; exact g.len, p4, fun b w z => g.nw b w (p3 b z), fun i d hi h => ?_, fun i hi v h => ?_, fun i d hi h => ?_, g.dj⟩, ext⟩
  · rw [n2 i fun z => hi (hk i z)] at h
    obtain ⟨v, e, rr⟩ := g.shr i d hi h
    exact ⟨v, e, (rr.trk.ext c.ext nP').mono fun b z => p2 b z.1 z.2⟩
  · obtain ⟨a, d, e1, e2, o⟩ := g.ows i hi v h
    subst e1
    by_cases hs : i ∈ slotsA aks
    · obtain ⟨j, ej⟩ := at_slot hs
      obtain ⟨v', _, e3, e4⟩ := f2 j i ej
      rw [h] at e4
      cases e4
      obtain ⟨d', e5, o'⟩ := c.own j a (hio.2 j i ej) e3
      obtain ⟨d2, e6, e7⟩ := n3 j i ej (lt_of_get e2)
      rw [e5] at e6
      cases e6
      exact ⟨a, d', rfl, e7, o'.mono p1⟩
    · refine ⟨a, d, rfl, by rw [n2 i hs]; exact e2, (o.trk.keep c.ext nP' fun o q => c.ext.k a o q fun z => ?_).mono fun b z => p2 b z.1 z.2⟩
      obtain ⟨k, h1, h2⟩ := nm a z
      have := g.dj i k a hi (hk k h1) h h2
      subst this
      exact absurd h1 hs
  · by_cases hs : i ∈ slotsA aks
    · obtain ⟨j, ej⟩ := at_slot hs
      have il : i < s.length := by rw [← n1]; exact lt_of_get h
      obtain ⟨v', _, e3, e4⟩ := f2 j i ej
      obtain ⟨a, d, e1, _, _⟩ := g.ows i hi v' e4
      subst e1
      exact ⟨a, e4⟩
    · rw [n2 i hs] at h
      exact g.owd i d hi h
end
def eCall (F : FF) (aks : List AK) : FE := fun s => (a1 aks s).bind fun r => (a2 aks r.1 r.2).bind fun ds => (F ds).bind fun o => (a3 aks o.2 r.2).map fun s2 => (o.1, s2)
theorem eCall_of {F : FF} {aks : List AK} {s s' : SD} {d : D} (h : eCall F aks s = some (d, s')) : ∃ vals s1 ds xs, a1 aks s = some (vals, s1) ∧ a2 aks vals s1 = some ds ∧ F ds = some (d, xs) ∧ a3 aks xs s1 = some s' := by
  unfold eCall at h
  obtain ⟨⟨vals, s1⟩, h1, h⟩ := Option.bind_eq_some_iff.mp h
  obtain ⟨ds, h2, h⟩ := Option.bind_eq_some_iff.mp h
  obtain ⟨⟨d0, xs⟩, h3, h⟩ := Option.bind_eq_some_iff.mp h
  obtain ⟨s2, h4, h⟩ := Option.map_eq_some_iff.mp h
  cases h
  exact ⟨vals, s1, ds, xs, h1, h2, h3, h4⟩
section
variable {X : Cx} {own io : List Nat} {pos : Pos} {n : Nat}
theorem me_call {e : Expr} {F : FF} {aks : List AK} (hp : PE X e (tCallM (spD X.K n io false F) (taK X.K own aks))) (hn : aks.length = n) (hio : ioOk io aks) (nd : (slotsA aks).Nodup) (hk : ∀ k ∈ slotsA aks, k ∈ own) : ME X own e (eCall F aks) := ⟨PE_imp hp fun σ H Q q => by
  obtain ⟨P, σd, d, σd', g, hf, q⟩ := q
  obtain ⟨vals, s1, ds, xs, h1, h2, h3, h4⟩ := eCall_of hf
  refine taK_of aks (fun k z => hk k ?_) g h1 fun vs H1 g1 e1 r => ⟨by rw [r.get.1, hn], P, ds, d, xs, args_ok g1 r h2 hio nd hk, h3, fun v H2 P1 c => ?_⟩
  · obtain ⟨i, hi, e⟩ := List.mem_iff_getElem.mp z
    exact slot_at (i := i) (by rw [List.getElem?_eq_getElem hi, e])
  · obtain ⟨g2, e2⟩ := gd_after (P2 := P) g1 r hio nd hk c h4 c.sub.le (fun b z _ => z) (fun b z => z) (fun b z => g1.fresh b (c.ext.g b z))
    exact q v H2 g2 (e1.trans e2) c.ret⟩
theorem mf_call {e : Expr} {F : FF} {aks : List AK} (hp : PE X e (tCallM (spD X.K n io true F) (taK X.K own aks))) (hn : aks.length = n) (hio : ioOk io aks) (nd : (slotsA aks).Nodup) (hk : ∀ k ∈ slotsA aks, k ∈ own) : MF X own e (eCall F aks) := ⟨PE_imp hp fun σ H Q q => by
  obtain ⟨P, σd, d, σd', g, hf, q⟩ := q
  obtain ⟨vals, s1, ds, xs, h1, h2, h3, h4⟩ := eCall_of hf
  refine taK_of aks (fun k z => hk k ?_) g h1 fun vs H1 g1 e1 r => ⟨by rw [r.get.1, hn], P, ds, d, xs, args_ok g1 r h2 hio nd hk, h3, fun v H2 P1 c => ?_⟩
  · obtain ⟨i, hi, e⟩ := List.mem_iff_getElem.mp z
    exact slot_at (i := i) (by rw [List.getElem?_eq_getElem hi, e])
  · obtain ⟨g2, e2⟩ := gd_after (P2 := P) g1 r hio nd hk c h4 c.sub.le (fun b z _ => z) (fun b z => z) (fun b z => g1.fresh b (c.ext.g b z))
    obtain ⟨a, rfl, na, nP, ow⟩ := c.ret
    have pa : ∀ b, P1 b → P b ∧ b ≠ a := fun b z => ⟨c.sub.le b z, fun e => nP (e ▸ z)⟩
    obtain ⟨g3, _⟩ := gd_after (P2 := fun b => P b ∧ b ≠ a) g1 r hio nd hk c h4 pa (fun b z n => ⟨z, fun e => n (e ▸ na)⟩) (fun b z => z.1) (fun b z => ⟨g1.fresh b (c.ext.g b z), fun e => by
      obtain ⟨o, ho, _⟩ := ow.there
      rw [← e, z] at ho
      cases ho⟩)
    exact q a H2 (e1.g a na) g2 g3 (e1.trans e2) (ow.mono pa)⟩
end
end Mi
set_option Elab.async false
set_option linter.all false
set_option maxRecDepth 100000
namespace Mi
open PySem PySem.Spec L2

/-! ### the rules in one word each: for texts that are printed -/
def dPlus : D → D → Option D
  | .int i, .int j => some (.int (i + j))
  | .tuple xs, .tuple ys => if xs.length + ys.length ≤ 1000000 then some (.tuple (xs ++ ys)) else none
  | .list xs, .list ys => if xs.length + ys.length ≤ 1000000 then some (.list (xs ++ ys)) else none
  | _, _ => none
section
variable {X : Cx} {own io : List Nat} {fr : Bool} {pos : Pos}
def rPlus (K : PySem.W.Frag) : R2 := fun x y H Q => (fun x y H Q => rI0 (fun i j => .int (i + j)) x y H Q ∨ rCatS K x y H Q) x y H Q ∨ rCatL K x y H Q
theorem op_plus : OpR X (binaryOp .Add) (rPlus X.K) := OpR.or (OpR.or op_add op_catS) op_catL
theorem od_plus {K : PySem.W.Frag} : OpD K (rPlus K) dPlus := fun P x y a b c H Q f rx ry e q => by
  unfold dPlus at e
  split at e
  · exact .inl (.inl (od_I P x y _ _ _ H Q f rx ry e q))
  · exact .inl (.inr (od_catT P x y _ _ _ H Q f rx ry e q))
  · exact .inr (od_catL P x y _ _ _ H Q f rx ry e q)
  · cases e
theorem dPlus_dict (kvs : List (D × D)) (b : D) (_ : ∀ ds, kvs ≠ [(.bool true, .tuple ds)]) : dPlus (.dict kvs) b = none := by unfold dPlus; rfl
variable {a b : Expr} {fa fb : FE}
theorem m_v {i : Nat} {x : Str} (h : PE X (.Name x pos) (tVar i)) (hi : i ∉ own := by decide) : ME X own (.Name x pos) (eVar i) := me_var h hi
theorem b_o {i : Nat} {x : Str} (h : PE X (.Name x pos) (tVar i)) (hi : i ∈ own := by decide) : MB X own (.Name x pos) (eF (eVar i)) := mb_own h hi
theorem m_add (ha : ME X own a fa) (hb : ME X own b fb) : ME X own (.BinOp a .Add b pos) (eBin dPlus fa fb) := me_bin op_plus od_plus ha hb.b
theorem m_addO {x : Str} {p : Pos} {k : Nat} (hx : PE X (.Name x p) (tVar k)) (hb : ME X own b fb) (hk : k ∈ own := by decide) : ME X own (.BinOp (.Name x p) .Add b pos) (eBinO dPlus k fb) :=
  ⟨PE_imp (pe_op op_plus hx hb.b.pe) fun _ _ _ q => tOpO_of hk od_plus dPlus_dict q⟩
theorem m_sub (ha : ME X own a fa) (hb : ME X own b fb) : ME X own (.BinOp a .Sub b pos) (eBin dSub fa fb) := me_bin op_sub od_I ha hb.b
theorem m_mul (ha : ME X own a fa) (hb : ME X own b fb) : ME X own (.BinOp a .Mult b pos) (eBin dMul fa fb) := me_bin op_mul od_mul ha hb.b
theorem m_mod (ha : ME X own a fa) (hb : ME X own b fb) : ME X own (.BinOp a .Mod b pos) (eBin dMod fa fb) := me_bin op_modN od_mod ha hb.b
theorem m_div (ha : ME X own a fa) (hb : ME X own b fb) : ME X own (.BinOp a .FloorDiv b pos) (eBin dDiv fa fb) := me_bin op_fdivN od_div ha hb.b
theorem m_pow (ha : ME X own a fa) (hb : ME X own b fb) : ME X own (.BinOp a .Pow b pos) (eBin dPow fa fb) := me_bin op_pow od_pow ha hb.b
abbrev dLt := dI fun i j => .bool (decide (i < j))
abbrev dLe := dI fun i j => .bool (decide (i ≤ j))
abbrev dGt := dI fun i j => .bool (decide (j < i))
abbrev dGe := dI fun i j => .bool (decide (j ≤ i))
theorem c_lt (ha : ME X own a fa) (hb : ME X own b fb) : MT X own (.Compare a [.Lt] [b] pos) (eTst (eBin dLt fa fb)) := mt_cmp op_lt od_B ha hb.b (nomark _)
theorem c_le (ha : ME X own a fa) (hb : ME X own b fb) : MT X own (.Compare a [.LtE] [b] pos) (eTst (eBin dLe fa fb)) := mt_cmp op_le od_B ha hb.b (nomark _)
theorem c_gt (ha : ME X own a fa) (hb : ME X own b fb) : MT X own (.Compare a [.Gt] [b] pos) (eTst (eBin dGt fa fb)) := mt_cmp op_gt od_B ha hb.b (nomark _)
theorem c_ge (ha : ME X own a fa) (hb : ME X own b fb) : MT X own (.Compare a [.GtE] [b] pos) (eTst (eBin dGe fa fb)) := mt_cmp op_ge od_B ha hb.b (nomark _)
theorem c_eq (hu : X.A.units + 64 < cLine) (ha : ME X own a fa) (hb : ME X own b fb) : MT X own (.Compare a [.Eq] [b] pos) (eTst (eBin dEq fa fb)) := mt_cmp (op_eqD hu) od_eq ha hb.b (nomark _)
theorem c_ne (hu : X.A.units + 64 < cLine) (ha : ME X own a fa) (hb : ME X own b fb) : MT X own (.Compare a [.NotEq] [b] pos) (eTst (eBin dNe fa fb)) := mt_cmp (op_neD hu) od_ne ha hb.b (nomark _)
theorem v_lt (ha : ME X own a fa) (hb : ME X own b fb) : ME X own (.Compare a [.Lt] [b] pos) (eBin dLt fa fb) := me_cmp op_lt od_B ha hb.b (nomark _)
theorem v_le (ha : ME X own a fa) (hb : ME X own b fb) : ME X own (.Compare a [.LtE] [b] pos) (eBin dLe fa fb) := me_cmp op_le od_B ha hb.b (nomark _)
theorem v_gt (ha : ME X own a fa) (hb : ME X own b fb) : ME X own (.Compare a [.Gt] [b] pos) (eBin dGt fa fb) := me_cmp op_gt od_B ha hb.b (nomark _)
theorem v_ge (ha : ME X own a fa) (hb : ME X own b fb) : ME X own (.Compare a [.GtE] [b] pos) (eBin dGe fa fb) := me_cmp op_ge od_B ha hb.b (nomark _)
theorem v_eq (hu : X.A.units + 64 < cLine) (ha : ME X own a fa) (hb : ME X own b fb) : ME X own (.Compare a [.Eq] [b] pos) (eBin dEq fa fb) := me_cmp (op_eqD hu) od_eq ha hb.b (nomark _)
theorem v_ne (hu : X.A.units + 64 < cLine) (ha : ME X own a fa) (hb : ME X own b fb) : ME X own (.Compare a [.NotEq] [b] pos) (eBin dNe fa fb) := me_cmp (op_neD hu) od_ne ha hb.b (nomark _)
theorem dEq_dict (kvs : List (D × D)) (b : D) (_ : ∀ ds, kvs ≠ [(.bool true, .tuple ds)]) : dEq (.dict kvs) b = none := by
  unfold dEq
  rw [if_neg]
  intro z
  cases (Bool.and_eq_true_iff.mp z).1
theorem dNe_dict (kvs : List (D × D)) (b : D) (_ : ∀ ds, kvs ≠ [(.bool true, .tuple ds)]) : dNe (.dict kvs) b = none := by
  unfold dNe
  rw [if_neg]
  intro z
  cases (Bool.and_eq_true_iff.mp z).1
theorem m_ix (ha : ME X own a fa) (hb : ME X own b fb) (hs : PlainIx b := by intro _ _; rfl) : ME X own (.Subscript a b pos) (eBin dIx fa fb) := me_ix ix_seq od_ix ha hb hs
theorem m_ixO {x : Str} {p : Pos} {k : Nat} (hx : PE X (.Name x p) (tVar k)) (hb : ME X own b fb) (hk : k ∈ own := by decide) (hs : PlainIx b := by intro _ _; rfl) : ME X own (.Subscript (.Name x p) b pos) (eBinO dIx k fb) := me_ixO hk hx ix_seq od_ix dIx_dict hb hs
/-- unary minus of an int -/
def eNeg (f : FE) : FE := fun s => (f s).bind fun r => match r.1 with
  | .int i => some (.int (-i), r.2)
  | _ => none
theorem m_neg (ha : ME X own a fa) : ME X own (.UnaryOp .USub a pos) (eNeg fa) := ⟨PE_imp (pe_un un_neg ha.pe) fun σ H Q q => by
  obtain ⟨P, σd, d, σd', g, hf, q⟩ := q
  unfold eNeg at hf
  obtain ⟨⟨d0, s1⟩, h1, h2⟩ := Option.bind_eq_some_iff.mp hf
  cases d0 with
  | int i =>
    cases h2
    refine tE_of g h1 fun v H1 g1 e1 r => ?_
    cases r
    exact ⟨i, rfl, q _ H1 g1 e1 (.int _)⟩
  | _ => cases h2⟩
/-! builtins -/
theorem b_len {p : Pos} (m : X.mg "len" = none) (he : MB X own a fa) (hg : Gl X "len" := by rfl) (hse : starEach [a] X.env = (false, eval a X.env) :: starEach [] X.env := by rfl) (hpl : (backTo pos (starEach [] X.env)).any (·.1) = false := by rfl) : ME X own (.Call (.Name "len" p) [a] [] pos) (eCall1 cLen fa) := me_callB1 call_len_seq cd_len hg m PySem.boot_len he (by decide) (by decide) hse hpl
theorem b_int {p : Pos} (m : X.mg "int" = none) (he : MB X own a fa) (hg : Gl X "int" := by rfl) (hse : starEach [a] X.env = (false, eval a X.env) :: starEach [] X.env := by rfl) (hpl : (backTo pos (starEach [] X.env)).any (·.1) = false := by rfl) : ME X own (.Call (.Name "int" p) [a] [] pos) (eCall1 cInt fa) := me_callT1 call_int1 cd_int hg m (by decide +kernel) he (fun h => pe_callTy call_int1 hg m (by decide +kernel) h (by decide) (by decide) hse hpl) hse
theorem b_tup {p : Pos} (m : X.mg "tuple" = none) (he : MB X own a fa) (hg : Gl X "tuple" := by rfl) (hse : starEach [a] X.env = (false, eval a X.env) :: starEach [] X.env := by rfl) (hpl : (backTo pos (starEach [] X.env)).any (·.1) = false := by rfl) : ME X own (.Call (.Name "tuple" p) [a] [] pos) (eCall1 cTup fa) := me_callT1 call_tupS cd_tup hg m (by decide +kernel) he (fun h => pe_callTy call_tupS hg m (by decide +kernel) h (by decide) (by decide) hse hpl) hse
theorem f_list {p : Pos} (m : X.mg "list" = none) (he : MB X own a fa) (hg : Gl X "list" := by rfl) (hse : starEach [a] X.env = (false, eval a X.env) :: starEach [] X.env := by rfl) (hpl : (backTo pos (starEach [] X.env)).any (·.1) = false := by rfl) : MF X own (.Call (.Name "list" p) [a] [] pos) (eCall1 cList fa) := mf_list he (pe_callTy call_list_of hg m (by decide +kernel) (pa_cons he.pe pa_nil hse) (by decide) (by decide) hse hpl)
theorem b_max {p : Pos} (hc : X.calm = true) (m : X.mg "max" = none) (ha : ME X own a fa) (hb : ME X own b fb) (hg : Gl X "max" := by rfl) (hse : starEach [a, b] X.env = (false, eval a X.env) :: starEach [b] X.env := by rfl) (hse2 : starEach [b] X.env = (false, eval b X.env) :: starEach [] X.env := by rfl) (hpl : (backTo pos (starEach [b] X.env)).any (·.1) = false := by rfl) : ME X own (.Call (.Name "max" p) [a, b] [] pos) (eBin dMax fa fb) :=
  me_callB2 (call_max2 hc) cd_max hg m (by decide +kernel) ha hb (by decide) (by decide) hse hse2 hpl
theorem b_min {p : Pos} (hc : X.calm = true) (m : X.mg "min" = none) (ha : ME X own a fa) (hb : ME X own b fb) (hg : Gl X "min" := by rfl) (hse : starEach [a, b] X.env = (false, eval a X.env) :: starEach [b] X.env := by rfl) (hse2 : starEach [b] X.env = (false, eval b X.env) :: starEach [] X.env := by rfl) (hpl : (backTo pos (starEach [b] X.env)).any (·.1) = false := by rfl) : ME X own (.Call (.Name "min" p) [a, b] [] pos) (eBin dMin fa fb) :=
  me_callB2 (call_min2 hc) cd_min hg m (by decide +kernel) ha hb (by decide) (by decide) hse hse2 hpl
/-! sources -/
section
variable {tg : Expr}
theorem i_rg1 {p : Pos} (m : X.mg "range" = none) (ha : ME X own a fa) (hg : Gl X "range" := by rfl) (hse : starEach [a] X.env = (false, eval a X.env) :: starEach [] X.env := by rfl) : MI X own tg (.Call (.Name "range" p) [a] [] pos) (iR1 fa) := mi_rg1 hg m ha (fun h => pi_range1 hg m h hse) hse
theorem i_rg2 {p : Pos} (m : X.mg "range" = none) (ha : ME X own a fa) (hb : ME X own b fb) (hg : Gl X "range" := by rfl) (hse : starEach [a, b] X.env = (false, eval a X.env) :: starEach [b] X.env := by rfl) (hse2 : starEach [b] X.env = (false, eval b X.env) :: starEach [] X.env := by rfl) : MI X own tg (.Call (.Name "range" p) [a, b] [] pos) (iR2 fa fb) := mi_rg2 ha hb (fun h => pi_range2 hg m h (by rw [hse, hse2]; rfl) (by rw [hse2]; rfl)) hse hse2
end
section
variable {elts : List Expr} {kk : Nat} {tpos : Pos}
theorem i_zip {p : Pos} (m : X.mg "zip" = none) (ha : ME X own a fa) (hb : ME X own b fb) (hg : Gl X "zip" := by rfl) (hse : starEach [a, b] X.env = (false, eval a X.env) :: starEach [b] X.env := by rfl) (hse2 : starEach [b] X.env = (false, eval b X.env) :: starEach [] X.env := by rfl) (hpl : (backTo pos (starEach [b] X.env)).any (·.1) = false := by rfl) : MI X own (.Tuple elts kk tpos) (.Call (.Name "zip" p) [a, b] [] pos) (iZ fa fb) := mi_zip ha hb (fun h => RZ.pi_zipA hg m h hse hpl) hse hse2
theorem i_enum {p : Pos} (m : X.mg "enumerate" = none) (ha : ME X own a fa) (hg : Gl X "enumerate" := by rfl) (hse : starEach [a] X.env = (false, eval a X.env) :: starEach [] X.env := by rfl) : MI X own (.Tuple elts kk tpos) (.Call (.Name "enumerate" p) [a] [] pos) (iEn fa) := mi_enum ha (fun h => pi_enum hg m h hse) hse
end
/-! calls of own defs -/
structure Cal (P : Program) (w : World) (K : PySem.W.Frag) (mg : Str → Option Value) (base : Heap) (k : Nat) (x : Str) (ps : List Str) (io : List Nat) (fr : Bool) (F : FF) : Prop where
  all : ∃ f fd, FnM P w K mg base k f fd ps (spD K ps.length io fr F) ∧ mg x = some (.ref f) ∧ PySem.W.keepIn K (.ref f) = true ∧ Binds K fd ps []
structure MAK (X : Cx) (own : List Nat) (es : List Expr) (aks : List AK) : Prop where
  pa : PA X es (taK X.K own aks)
theorem k_nil : MAK X own [] [] := ⟨pa_nil⟩
theorem k_sh {e : Expr} {es : List Expr} {f : FE} {aks : List AK} (h : ME X own e f) (r : MAK X own es aks) (hs : starEach (e :: es) X.env = (false, eval e X.env) :: starEach es X.env := by rfl) : MAK X own (e :: es) (.sh f :: aks) := ⟨pa_cons h.pe r.pa hs⟩
theorem k_ow {x : Str} {p : Pos} {es : List Expr} {k : Nat} {aks : List AK} (h : PE X (.Name x p) (tVar k)) (r : MAK X own es aks) (hs : starEach (.Name x p :: es) X.env = (false, eval (.Name x p) X.env) :: starEach es X.env := by rfl) : MAK X own (.Name x p :: es) (.ow k :: aks) := ⟨pa_cons h r.pa hs⟩
def okA (own io : List Nat) (aks : List AK) : Bool := (slotsA aks).all (own.contains ·) && decide (slotsA aks).Nodup && (List.range aks.length).all (fun i => (match aks[i]? with | some (.ow _) => true | _ => false) == io.contains i) && io.all (· < aks.length)
theorem okA_of {io2 : List Nat} {aks : List AK} (h : okA own io2 aks = true) : ioOk io2 aks ∧ (slotsA aks).Nodup ∧ ∀ k ∈ slotsA aks, k ∈ own := by
  unfold okA at h
  obtain ⟨h, h4⟩ := Bool.and_eq_true_iff.mp h
  obtain ⟨h, h3⟩ := Bool.and_eq_true_iff.mp h
  obtain ⟨h1, h2⟩ := Bool.and_eq_true_iff.mp h
  refine ⟨⟨fun i hi => ?_, fun i k e => ?_⟩, of_decide_eq_true h2, fun k hk => ?_⟩
  · have il : i < aks.length := of_decide_eq_true (List.all_eq_true.mp h4 i hi)
    have q := List.all_eq_true.mp h3 i (List.mem_range.mpr il)
    have ci : io2.contains i = true := List.contains_iff_mem.mpr hi
    rw [ci] at q
    rw [List.getElem?_eq_getElem il] at q ⊢
    cases z : aks[i] with
    | sh f => rw [z] at q; cases q
    | ow k => exact ⟨k, rfl⟩
  · have il : i < aks.length := lt_of_get e
    have q := List.all_eq_true.mp h3 i (List.mem_range.mpr il)
    rw [e] at q
    cases c : io2.contains i with
    | true => exact List.contains_iff_mem.mp c
    | false => rw [c] at q; cases q
  · exact List.contains_iff_mem.mp (List.all_eq_true.mp h1 k hk)
section
variable {k : Nat} {x : Str} {ps : List Str} {io2 : List Nat} {F : FF} {aks : List AK} {e : Expr} {es : List Expr} {p : Pos}
theorem m_call (C : Cal X.prog X.w X.K X.mg X.base k x ps io2 false F) (hr : Room k X.A) (hG : X.A.guards = some []) (ha : MAK X own (e :: es) aks) (hn : aks.length = ps.length := by rfl) (ok : okA own io2 aks = true := by decide) (hg : Gl X x := by rfl) (nd : (x == ("__debug__" : Str)) = false := by decide) (s1 : starEach (e :: es) X.env = (false, eval e X.env) :: starEach es X.env := by rfl) (s2 : (backTo pos (starEach es X.env)).any (·.1) = false := by rfl) :
    ME X own (.Call (.Name x p) (e :: es) [] pos) (eCall F aks) := by
  obtain ⟨f, fd, h1, h2, h3, h4⟩ := C.all
  obtain ⟨o1, o2, o3⟩ := okA_of ok
  exact me_call (pe_callM h1 hr hG hg h2 h3 h4 ha.pa nd s1 s2) hn o1 o2 o3
theorem f_call (C : Cal X.prog X.w X.K X.mg X.base k x ps io2 true F) (hr : Room k X.A) (hG : X.A.guards = some []) (ha : MAK X own (e :: es) aks) (hn : aks.length = ps.length := by rfl) (ok : okA own io2 aks = true := by decide) (hg : Gl X x := by rfl) (nd : (x == ("__debug__" : Str)) = false := by decide) (s1 : starEach (e :: es) X.env = (false, eval e X.env) :: starEach es X.env := by rfl) (s2 : (backTo pos (starEach es X.env)).any (·.1) = false := by rfl) :
    MF X own (.Call (.Name x p) (e :: es) [] pos) (eCall F aks) := by
  obtain ⟨f, fd, h1, h2, h3, h4⟩ := C.all
  obtain ⟨o1, o2, o3⟩ := okA_of ok
  exact mf_call (pe_callM h1 hr hG hg h2 h3 h4 ha.pa nd s1 s2) hn o1 o2 o3
end
end
end Mi
set_option Elab.async false
set_option linter.all false
set_option maxRecDepth 100000
namespace Mi
open PySem PySem.Spec L2

/-! ### statements in one word each -/
section
variable {X : Cx} {own io : List Nat} {fr : Bool} {pos : Pos}
theorem s_for {tg iter : Expr} {body : List Stmt} {fi : FA} {ts : List Nat} {h : FG} {fb : FS} (hp : PassesOwn (model X.prog X.w) X.A X.env X.xe) (hc : X.calm = true) (hi : MI X own tg iter fi) (hg : MG X own ts tg h) (hb : MSs X own io fr body fb) (hio : ∀ i ∈ ts, i ∉ io := by decide)
    (hs : ∀ x, foldedSetIterable iter X.env x = pure x := by intro _; rfl) : MS X own io fr (.For tg iter body [] pos) (sFor fi h fb) := ⟨PS_imp (ps_for hp hc hi.pi hg.pg hb.ps hs) fun D σ H q => tFor_of hg.off hio q⟩
theorem s_while {c : Expr} {body : List Stmt} {t : FT} {fb : FS} (n : Nat) (hp : PassesOwn (model X.prog X.w) X.A X.env X.xe) (hc : MT X own c t) (hb : MSs X own io fr body fb) : MS X own io fr (.While c body [] pos) (sWh n t fb) := ⟨PS_imp (ps_while hp hc.pt hb.ps) fun D σ H q => tWhile_of q⟩
/-- a list of comprehension stored in a local name -/
theorem ms_setLc {i : Nat} {tg elt ctg iter : Expr} {ifs : List Expr} {scope : Scope} {p2 : Pos} {fi : FA} {h : FG} {ft : FT} {fe : FE} {ts vs : List Nat} (hp : PS X (.Assign [tg] (.ListComp elt [⟨ctg, iter, ifs, 0⟩] scope p2) pos) (tAsg (tLc (tI X.K own fi) (tG X.K own ts h) (tT X.K own ft) (tE X.K own fe) vs) (gName i)))
    (hv : ∀ j ∈ vs, j ∉ own := by decide) (hts : ∀ j ∈ ts, j ∈ vs := by decide) (hi : i ∉ own := by decide) (hio : i ∉ io := by decide) : MS X own io fr (.Assign [tg] (.ListComp elt [⟨ctg, iter, ifs, 0⟩] scope p2) pos) (sAs (eF (eLc fi h ft fe vs)) (gNm i)) :=
  ms_set (PS_imp hp fun D σ H q => lc_imp hv hts (by
    obtain ⟨P, σd, d, σd', g, hf, q⟩ := q
    unfold eF at hf
    obtain ⟨⟨d0, s0⟩, h1, h2⟩ := Option.bind_eq_some_iff.mp hf
    refine ⟨P, σd, d0, s0, g, h1, fun a H1 na g1 g2 e1 ow => ?_⟩
    cases ow with
    | lst c r =>
      cases h2
      exact q (.ref a) H1 g1 e1 (.lst (g.fresh a na) (.inl c) (r.mono fun b z => z.1))
    | dct c r => cases h2
    | dtt c r => cases h2)) hi hio
theorem ms_setLcO {i : Nat} {tg elt ctg iter : Expr} {ifs : List Expr} {scope : Scope} {p2 : Pos} {fi : FA} {h : FG} {ft : FT} {fe : FE} {ts vs : List Nat} (hp : PS X (.Assign [tg] (.ListComp elt [⟨ctg, iter, ifs, 0⟩] scope p2) pos) (tAsg (tLc (tI X.K own fi) (tG X.K own ts h) (tT X.K own ft) (tE X.K own fe) vs) (gName i)))
    (hv : ∀ j ∈ vs, j ∉ own := by decide) (hts : ∀ j ∈ ts, j ∈ vs := by decide) (hi : i ∈ own := by decide) (hio : i ∉ io := by decide) : MS X own io fr (.Assign [tg] (.ListComp elt [⟨ctg, iter, ifs, 0⟩] scope p2) pos) (sAsO (eLc fi h ft fe vs) i) :=
  ms_setO (PS_imp hp fun D σ H q => lc_imp hv hts q) hi hio
/-- a, b = e, f with plain local names -/
def sPar (i j : Nat) (f g : FE) : FS := fun s => (f s).bind fun a => (g a.2).map fun b => .nx ((b.2.set i (some a.1)).set j (some b.1))
theorem ms_par {i j : Nat} {a b : Expr} {st : Stmt} {f g : FE} (ha : ME X own a f) (hb : ME X own b g) (hp : PA X [a, b] (tCons (tE X.K own f) (tCons (tE X.K own g) tNil)) → PS X st (tPar i j (tCons (tE X.K own f) (tCons (tE X.K own g) tNil))))
    (hi : i ∉ own := by decide) (hj : j ∉ own := by decide) (hio : i ∉ io := by decide) (hjo : j ∉ io := by decide) (hs : starEach [a, b] X.env = (false, eval a X.env) :: starEach [b] X.env := by rfl) (hs2 : starEach [b] X.env = (false, eval b X.env) :: starEach [] X.env := by rfl) : MS X own io fr st (sPar i j f g) :=
  ⟨PS_imp (hp (pa_cons ha.pe (pa_cons hb.pe pa_nil hs2) hs)) fun D σ H q => by
    obtain ⟨P, σd, o, gd, hf, q⟩ := q
    unfold sPar at hf
    obtain ⟨⟨d1, s1⟩, h1, hf⟩ := Option.bind_eq_some_iff.mp hf
    obtain ⟨⟨d2, s2⟩, h2, hf⟩ := Option.map_eq_some_iff.mp hf
    cases hf
    refine tE_of gd h1 fun v H1 g1 e1 r1 => tE_of g1 h2 fun w H2 g2 e2 r2 => ⟨v, w, rfl, ?_⟩
    have ne : ∀ k, k ∈ own → i ≠ k := fun k hk e => hi (by rw [e]; exact hk)
    have ne' : ∀ k, k ∈ own → j ≠ k := fun k hk e => hj (by rw [e]; exact hk)
    have nf : ∀ k, k ∈ io → i ≠ k := fun k hk e => hio (by rw [e]; exact hk)
    have nf' : ∀ k, k ∈ io → j ≠ k := fun k hk e => hjo (by rw [e]; exact hk)
    exact q P _ H2 ((g2.set hi (r1.ext e2 g1.nw)).set hj r2) Sub.refl ⟨e1.trans e2, fun b w => .inl (Wr.same (fun k hk => by rw [List.getElem?_set_ne (ne' k hk), List.getElem?_set_ne (ne k hk)]) w), fun k hk => by rw [List.getElem?_set_ne (nf' k hk), List.getElem?_set_ne (nf k hk)]⟩⟩
/-! bodies that never fall through -/
def Nx (g : FS) : Prop := ∀ s s', g s ≠ some (.nx s')
theorem nx_ret {f : FE} : Nx (sRt f) := fun s s' h => by
  unfold sRt at h
  obtain ⟨r, _, e⟩ := Option.map_eq_some_iff.mp h
  cases e
theorem nx_cons {f g : FS} (h : Nx g) : Nx (sCons f g) := fun s s' e => by
  unfold sCons at e
  obtain ⟨o, h1, h2⟩ := Option.bind_eq_some_iff.mp e
  cases o with
  | nx s1 => exact h s1 s' h2
  | bk s1 => cases h2
  | ct s1 => cases h2
  | rt d s1 => cases h2
theorem nx_if {t : FT} {f g : FS} (h1 : Nx f) (h2 : Nx g) : Nx (sIf t f g) := fun s s' e => by
  unfold sIf at e
  obtain ⟨r, _, e⟩ := Option.bind_eq_some_iff.mp e
  split at e
  · exact h1 _ _ e
  · exact h2 _ _ e
/-! targets -/
theorem g_two {i j : Nat} {a b : Expr} {kk : Nat} {p : Pos} (hc : X.calm = true) (h1 : PG X a (gName i)) (h2 : PG X b (gName j)) (hp : PGs X [a, b] (tGs X.K own [i, j] (gsCons (gNm i) (gsCons (gNm j) gsNil))) → PG X (.Tuple [a, b] kk p) (gTup X.K 2 (tGs X.K own [i, j] (gsCons (gNm i) (gsCons (gNm j) gsNil)))))
    (hs2 : PG X b (tG X.K own [j] (gNm j)) → PGs X [] (tGs X.K own [] gsNil) → PGs X [b] (gCons (tG X.K own [j] (gNm j)) (tGs X.K own [] gsNil))) (hs1 : PG X a (tG X.K own [i] (gNm i)) → PGs X [b] (tGs X.K own [j] (gsCons (gNm j) gsNil)) → PGs X [a, b] (gCons (tG X.K own [i] (gNm i)) (tGs X.K own [j] (gsCons (gNm j) gsNil))))
    (hi : i ∉ own := by decide) (hj : j ∉ own := by decide) : MG X own [i, j] (.Tuple [a, b] kk p) (gTp (gsCons (gNm i) (gsCons (gNm j) gsNil))) :=
  mg_tup (n := 2) (fun ds s s' h => gsCons_len (fun ds s s' h => gsCons_len (fun ds s s' h => gsNil_len h) h) h) (hp (mgs_cons (ts := [i]) (us := [j]) (mg_name h1 hi) (mgs_cons (ts := [j]) (us := []) (mg_name h2 hj) (mgs_nil pgs_nil) hs2) hs1).pg) (by
    intro k hk
    rcases List.mem_cons.mp hk with rfl | hk
    · exact hi
    · rcases List.mem_cons.mp hk with rfl | hk
      · exact hj
      · cases hk)
end
end Mi
set_option Elab.async false
set_option linter.all false
set_option maxRecDepth 100000
namespace Mi
open PySem PySem.Spec L2

section
variable {X : Cx} {own io : List Nat} {fr : Bool} {pos : Pos} {tg : Expr}
theorem PI_or {e : Expr} {t t' : TI} (h : PI X tg e t) (h' : PI X tg e t') : PI X tg e fun σ H R => t σ H R ∨ t' σ H R := ⟨fun pins s σ H Q I q => q.elim (h.run pins s σ H Q I) (h'.run pins s σ H Q I)⟩
/-- a list or a tuple -/
def iS (f : FE) : FA := fun s => (f s).bind fun r => match r.1 with
  | .list ds => some (ds, r.2)
  | .tuple ds => some (ds, r.2)
  | _ => none
theorem mi_seq {e : Expr} {f : FE} (he : ME X own e f) : MI X own tg e (iS f) := ⟨PI_imp (PI_or (mi_list he).pi (mi_tup he).pi) fun σ H R q => by
  obtain ⟨P, σd, items, σd', gd, hf, q⟩ := q
  unfold iS at hf
  obtain ⟨⟨a, s1⟩, h1, hf⟩ := Option.bind_eq_some_iff.mp hf
  cases a with
  | list ds =>
    cases hf
    exact .inl ⟨P, σd, items, _, gd, by unfold iL; rw [h1]; rfl, q⟩
  | tuple ds =>
    cases hf
    exact .inr ⟨P, σd, items, _, gd, by unfold iT; rw [h1]; rfl, q⟩
  | _ => cases hf⟩
end
end Mi
set_option Elab.async false
set_option linter.all false
set_option maxRecDepth 100000
set_option maxHeartbeats 4000000
namespace Mi
open PySem PySem.Spec PyProof.Rows L2

/-! ### tuple * int, the small ones -/
theorem mul_one (l : Addr) (items : Array Value) (n : Nat) (u : Tok) (dd : Option Addr) (sl : Array (Option Value)) :
    Meets (Builtin.«tuple.__mul__» ⟨[.ref l, .int 1 u], []⟩) (fun _ R s => s.heap.get? l = some { cls := .type "tuple", dict := dd, data := .seq items n, slots := sl } ∧ R (.ok (.ret (.ref l))) s) :=
  .of_wp fun prog w A R s h => by
    obtain ⟨hp, g, d, tk, os⟩ := s
    obtain ⟨hl, h⟩ := h
    have f1 := AutoSeq1.idx_int
    wp_walk using wpAny_loadPart' hl
    exact ⟨_, rfl, h⟩
theorem mul_none (l : Addr) (items : Array Value) (n : Nat) (x : Int) (u : Tok) (dd : Option Addr) (sl : Array (Option Value)) (hx : x = 0) (hne : items.isEmpty = false) :
    Meets (Builtin.«tuple.__mul__» ⟨[.ref l, .int x u], []⟩) (fun _ R s => s.heap.get? l = some { cls := .type "tuple", dict := dd, data := .seq items n, slots := sl } ∧
      R (.ok (.ret (Value.ref s.heap.objs.size))) { s with heap := s.heap.push { cls := Value.type "tuple", data := Data.seq #[] }, toks := s.toks }) :=
  .of_wp fun prog w A R s h => by
    obtain ⟨hp, g, d, tk, os⟩ := s
    obtain ⟨hl, h⟩ := h
    subst hx
    have f1 := AutoSeq1.idx_int
    wp_walk using wpAny_loadPart' hl
    exact ⟨_, rfl, h⟩
section
variable {X : Cx}
def rRep0 (K : PySem.W.Frag) : R2 := fun x y H Q => ∃ l xs, x = .ref l ∧ y = .int 0 ∧ SqT K H l xs ∧ xs ≠ [] ∧ NewT [] H Q
def rRep0W (K : PySem.W.Frag) : R2 := fun x y H Q => ∃ l xs, x = .ref l ∧ y = .int 0 ∧ SqT K H l xs ∧ xs ≠ [] ∧ ∀ p, H p = none → Q (.ref p) (upd H p (.tup []))
def rRep1 (K : PySem.W.Frag) : R2 := fun x y H Q => ∃ l xs, x = .ref l ∧ y = .int 1 ∧ SqT K H l xs ∧ Q x H
theorem op_rep0 : OpR X (binaryOp .Mult) (rRep0 X.K) := by
  intro pins s σ H x y v u Q I rx ry h
  obtain ⟨l, xs, rfl, rfl, hT, hne, q⟩ := h
  cases rx
  obtain ⟨t, rfl⟩ := ry
  obtain ⟨its, r, ⟨⟨cls, dd, data, sl⟩, ho, hc, n, hd⟩, hs⟩ := I.tuple hT
  simp only at hc hd
  subst hc hd
  have he : its.toArray.isEmpty = false := by
    cases its with
    | nil => cases r; exact absurd rfl hne
    | cons a b => rfl
  refine wpAny_binaryOp_repeat_ref (T := "tuple") (U := "int") (by decide) ⟨_, ho, rfl⟩ (fun s' => typeIs_int s' 0 t) noFill_tuple_mul F.fills_int_mul F.slot_int_rmul repeat_tuple F.slot_int_index.lookup ?_
  refine call_meets F.slot_int_rmul (typeIs_int s 0 t) F.entry_int_rmul (F.args_int_rmul_2 _ _) (int_rmul_tuple 0 t l its.toArray n dd sl) ⟨ho, rfl, ⟨_, ho, rfl⟩, ?_⟩
  refine call_meets F.slot_tuple_mul ⟨_, ho, rfl⟩ F.entry_tuple_mul (F.args_tuple_mul_2 _ _) (mul_none l its.toArray n 0 t dd sl rfl he) ⟨ho, ?_⟩
  exact q.at_ (us := []) I .nil (Nat.zero_le _)
theorem op_rep0W : OpR X (binaryOp .Mult) (rRep0W X.K) := by
  intro pins s σ H x y v u Q I rx ry h
  obtain ⟨l, xs, rfl, rfl, hT, hne, q⟩ := h
  cases rx
  obtain ⟨t, rfl⟩ := ry
  obtain ⟨its, r, ⟨⟨cls, dd, data, sl⟩, ho, hc, n, hd⟩, hs⟩ := I.tuple hT
  simp only at hc hd
  subst hc hd
  have he : its.toArray.isEmpty = false := by
    cases its with
    | nil => cases r; exact absurd rfl hne
    | cons a b => rfl
  refine wpAny_binaryOp_repeat_ref (T := "tuple") (U := "int") (by decide) ⟨_, ho, rfl⟩ (fun s' => typeIs_int s' 0 t) noFill_tuple_mul F.fills_int_mul F.slot_int_rmul repeat_tuple F.slot_int_index.lookup ?_
  refine call_meets F.slot_int_rmul (typeIs_int s 0 t) F.entry_int_rmul (F.args_int_rmul_2 _ _) (int_rmul_tuple 0 t l its.toArray n dd sl) ⟨ho, rfl, ⟨_, ho, rfl⟩, ?_⟩
  refine call_meets F.slot_tuple_mul ⟨_, ho, rfl⟩ F.entry_tuple_mul (F.args_tuple_mul_2 _ _) (mul_none l its.toArray n 0 t dd sl rfl he) ⟨ho, ?_⟩
  refine ⟨.ref s.heap.objs.size, _, I.laid (t' := s.toks) (o := .tup []) (fun b ob q => Heap.get?_push_of_some _ q) (Nat.le_refl _) ?_, rfl, q _ (I.hok.fresh (Nat.le_refl _))⟩
  exact ⟨Nat.zero_le _, [], .nil, IsTup.new _ _⟩
theorem op_rep1 : OpR X (binaryOp .Mult) (rRep1 X.K) := by
  intro pins s σ H x y v u Q I rx ry h
  obtain ⟨l, xs, rfl, rfl, hT, q⟩ := h
  cases rx
  obtain ⟨t, rfl⟩ := ry
  obtain ⟨its, r, ⟨⟨cls, dd, data, sl⟩, ho, hc, n, hd⟩, hs⟩ := I.tuple hT
  simp only at hc hd
  subst hc hd
  refine wpAny_binaryOp_repeat_ref (T := "tuple") (U := "int") (by decide) ⟨_, ho, rfl⟩ (fun s' => typeIs_int s' 1 t) noFill_tuple_mul F.fills_int_mul F.slot_int_rmul repeat_tuple F.slot_int_index.lookup ?_
  refine call_meets F.slot_int_rmul (typeIs_int s 1 t) F.entry_int_rmul (F.args_int_rmul_2 _ _) (int_rmul_tuple 1 t l its.toArray n dd sl) ⟨ho, rfl, ⟨_, ho, rfl⟩, ?_⟩
  refine call_meets F.slot_tuple_mul ⟨_, ho, rfl⟩ F.entry_tuple_mul (F.args_tuple_mul_2 _ _) (mul_one l its.toArray n t dd sl) ⟨ho, ?_⟩
  exact ⟨.ref l, H, I, rfl, q⟩
/-- tuple * int, list * int -/
def dRep : D → D → Option D
  | .tuple ds, .int k => if ds ≠ [] ∧ 0 ≤ k ∧ k ≤ 1000 ∧ ds.length ≤ 1000 then some (.tuple (List.replicate k.toNat ds).flatten) else none
  | _, _ => none
/-- a new tuple that may be a key -/
def rRepW (K : PySem.W.Frag) : R2 := fun x y H Q => (fun x y H Q => rRep0W K x y H Q ∨ rRep1 K x y H Q) x y H Q ∨ rRepT K x y H Q
theorem op_repW : OpR X (binaryOp .Mult) (rRepW X.K) := OpR.or (OpR.or op_rep0W op_rep1) op_repT
/-- the others -/
def rRepS (K : PySem.W.Frag) : R2 := fun x y H Q => ∃ l k xs, x = .ref l ∧ y = .int k ∧ SqT K H l xs ∧ xs ≠ [] ∧ 2 ≤ k ∧ k ≤ 1000 ∧ xs.length ≤ 1000 ∧ NewT (List.replicate k.toNat xs).flatten H Q
theorem op_repS : OpR X (binaryOp .Mult) (rRepS X.K) := fun pins s σ H x y v u Q I rx ry ⟨l, k, xs, ex, ey, hT, hne, h1, h2, z, q⟩ => by
  subst ex ey
  cases rx
  obtain ⟨t, rfl⟩ := ry
  obtain ⟨its, r, ⟨⟨cls, dd, data, sl⟩, ho, hc, n, hd⟩, hs⟩ := I.tuple hT
  dsimp only at hc hd
  subst hc hd
  have ln := r.length
  have ne : its.toArray.isEmpty = false := by
    cases its with
    | nil => exact absurd (List.eq_nil_of_length_eq_zero ln) hne
    | cons a b => rfl
  have sz : its.toArray.size = xs.length := by rw [List.size_toArray]; exact ln.symm
  have pr : ((its.toArray.size : Nat) : Int) * k ≤ 1000000 := by
    rw [sz]
    have : ((xs.length : Nat) : Int) * k ≤ 1000 * k := Int.mul_le_mul_of_nonneg_right (by omega) (by omega)
    omega
  have prN : k.toNat * xs.length ≤ 1000 * 1000 := Nat.mul_le_mul (by omega) z
  have c0 : (decide (k < -(2 ^ 63)) || decide (k ≥ 2 ^ 63)) = false := by simp only [Bool.or_eq_false_iff, decide_eq_false_iff_not]; omega
  have c1 : (its.toArray.isEmpty || k == 1) = false := by rw [ne, Bool.false_or, beq_eq_false_iff_ne]; omega
  have c2 : (decide (k ≤ 0) || its.toArray.isEmpty) = false := by rw [ne, Bool.or_false, decide_eq_false_iff_not]; omega
  have c4 : Builtin.Tuple.tupleTooMany (((its.toArray.size : Nat) : Int) * k) = false := by
    show decide _ = false
    rw [sizeLine_eq, decide_eq_false_iff_not]
    omega
  have fl : (List.replicate k.toNat its).flatten.length ≤ sizeLine := by rw [PyProof.Rows.lm_len_rep_flat, ← ln, sizeLine_eq]; omega
  have fx : (List.replicate k.toNat xs).flatten.length ≤ sizeLine := by rw [PyProof.Rows.lm_len_rep_flat, sizeLine_eq]; omega
  refine wpAny_binaryOp_repeat_ref (T := "tuple") (U := "int") (by decide) ⟨_, ho, rfl⟩ (fun s' => typeIs_int s' k t) noFill_tuple_mul F.fills_int_mul F.slot_int_rmul repeat_tuple F.slot_int_index.lookup ?_
  refine call_meets F.slot_int_rmul (typeIs_int s k t) F.entry_int_rmul (F.args_int_rmul_2 _ _) (int_rmul_tuple k t l its.toArray n dd sl) ⟨ho, rfl, ⟨_, ho, rfl⟩, ?_⟩
  refine call_meets F.slot_tuple_mul ⟨_, ho, rfl⟩ F.entry_tuple_mul (F.args_tuple_mul_2 _ _) (tuple_mulW l its.toArray n dd sl k t c0 c1 c2 (by omega) c4 (by rw [size_rep, List.size_toArray]; exact fl)) ⟨ho, ?_⟩
  rw [size_rep]
  exact q.at_ I (r.rep k.toNat) fx
def rRepA (K : PySem.W.Frag) : R2 := fun x y H Q => (fun x y H Q => rRep0 K x y H Q ∨ rRep1 K x y H Q) x y H Q ∨ rRepS K x y H Q
theorem op_repA : OpR X (binaryOp .Mult) (rRepA X.K) := OpR.or (OpR.or op_rep0 op_rep1) op_repS
end
theorem RpA.rep {K : PySem.W.Frag} {P : Addr → Prop} {H : Hp} {vs : List V} {ds : List D} (r : RpA K P H vs ds) : ∀ n : Nat, RpA K P H (List.replicate n vs).flatten (List.replicate n ds).flatten
  | 0 => .nil
  | n + 1 => by
    rw [List.replicate_succ, List.replicate_succ, List.flatten_cons, List.flatten_cons]
    exact r.append (r.rep n)
theorem od_repT {K : PySem.W.Frag} : OpD K (rRepA K) dRep := fun P x y a b c H Q f rx ry e q => by
  unfold dRep at e
  split at e
  · rename_i ds k
    split at e
    · rename_i hk
      obtain ⟨h1, h2, h3, h4⟩ := hk
      cases e
      obtain ⟨p, xs, rfl, sh, r⟩ := rx.tupleH
      have s : SqT K H p xs := sh.sq
      obtain rfl := ry.int
      have hx : xs ≠ [] := fun z => h1 (r.nil_iff.mp z)
      by_cases k0 : k = 0
      · subst k0
        exact .inl (.inl ⟨p, xs, rfl, rfl, s, hx, fun l o hl hd => q _ _ (same_new hl) (.mkT hl hd .nil)⟩)
      · by_cases k1 : k = 1
        · subst k1
          refine .inl (.inr ⟨p, xs, rfl, rfl, s, q _ H (Same.refl H) (.tup sh ?_)⟩)
          have : (List.replicate (1 : Int).toNat ds).flatten = ds := by simp
          rw [this]
          exact r
        · exact .inr ⟨p, k, xs, rfl, rfl, s, hx, by omega, h3, by rw [r.len]; exact h4, fun l o hl hd => q _ _ (same_new hl) (.mkT hl hd (r.rep _))⟩
    · cases e
  · cases e
section
variable {X : Cx} {own io : List Nat} {fr : Bool} {pos : Pos} {a b : Expr} {fa fb : FE}
theorem m_repT (ha : ME X own a fa) (hb : ME X own b fb) : ME X own (.BinOp a .Mult b pos) (eBin dRep fa fb) := me_bin op_repA od_repT ha hb.b
/-- [..] * n: a new list -/
def eRepL (fa fb : FE) : FE := fun s => (fa s).bind fun x => (fb x.2).bind fun y => match x.1, y.1 with
  | .list ds, .int k => if -1000 ≤ k ∧ k ≤ 1000 ∧ ds.length ≤ 1000 then some (.list (List.replicate k.toNat ds).flatten, y.2) else none
  | _, _ => none
end
end Mi
set_option Elab.async false
set_option linter.all false
set_option maxRecDepth 100000
namespace Mi
open PySem PySem.Spec PyProof.Rows L2

section
variable {X : Cx} {own io : List Nat} {fr : Bool} {pos : Pos} {a b : Expr} {fa fb : FE}
theorem f_repL (ha : MF X own a fa) (hb : ME X own b fb) : MF X own (.BinOp a .Mult b pos) (eRepL fa fb) := ⟨PE_imp (pe_op op_rep ha.pe hb.pe) fun σ H Q q => by
  obtain ⟨P, σd, d, σd', gd, hf, q⟩ := q
  unfold eRepL at hf
  obtain ⟨⟨x, s1⟩, h1, hf⟩ := Option.bind_eq_some_iff.mp hf
  obtain ⟨⟨y, s2⟩, h2, hf⟩ := Option.bind_eq_some_iff.mp hf
  cases x with
  | list ds =>
    cases y with
    | int k =>
      dsimp only at hf
      split at hf
      · rename_i hk
        cases hf
        refine ⟨P, σd, _, s1, gd, h1, fun l H1 nl g1 g2 e1 ow => ?_⟩
        cases ow with
        | lst c r =>
          refine tE_of g2 h2 fun v H2 g3 e2 r2 => ?_
          cases r2
          have nw : ¬ Wr own σ l := fun w => by
            obtain ⟨o, e, _⟩ := gd.wr_there w
            rw [nl] at e; cases e
          have c2 := e2.k _ _ c fun w => absurd w nw
          have r' := r.ext e2 g2.nw
          have g4 : Gd X.K own P σd' σ H2 := ⟨g3.len, fun b hb => gd.fresh b (e1.g b (e2.g b hb)), gd.nw, fun i d hi e => (let ⟨v, q1, q2⟩ := g3.shr i d hi e; ⟨v, q1, q2.mono fun b z => z.1⟩), fun i hi v e => (let ⟨a, d, q1, q2, o⟩ := g3.ows i hi v e; ⟨a, d, q1, q2, o.mono fun b z => z.1⟩), g3.owd, g3.dj⟩
          have z1 : (-(2 ^ 63) : Int) ≤ k := by have := hk.1; omega
          have z2 : k < 2 ^ 63 := by have := hk.2.1; omega
          refine ⟨l, k, _, rfl, rfl, c2, z1, z2, ?_, fun p hp => ?_⟩
          · rw [r.len, sizeLine_eq]
            have a1 : ds.length * k.toNat ≤ 1000 * 1000 := Nat.mul_le_mul hk.2.2 (by have := hk.2.1; omega)
            omega
          · exact q p _ (e1.g p (e2.g p hp)) (g4.same (same_new hp)) (g4.off hp) ((e1.trans e2).trans (Ext.new hp)) (.lst upd_same ((((r'.mono fun b z => z.1).rep k.toNat).off hp).new hp))
      · cases hf
    | _ => cases hf
  | _ => cases hf⟩
def rRepr (K : PySem.W.Frag) : List V → Hp → VK → Prop := fun xs H Q => ∃ a d, xs = [.ref a] ∧ Dp K H (.ref a) d ∧ PyData.layable0 d = true ∧ d.intsShort 13 = true ∧ d.showable = true ∧ Q (.str d.shown) H
theorem call_reprD (hG : X.A.guards = some []) (hu : X.A.units + 100 < cLine) : CallR X (.builtin "repr") (rRepr X.K) := by
  intro pins s σ H vs us Q I r h
  obtain ⟨a, d, rfl, hd, h1, h2, h3, q⟩ := h
  rw [Vals.ref1 r]
  obtain ⟨as, rd⟩ := Dp.reads I d (.ref a) (.ref a) hd rfl
  have hl : (PyData.canLay0 d && decide (PyData.depth d ≤ 64) && decide (PyData.weight d ≤ 2 ^ 20)) = true := h1
  simp only [Bool.and_eq_true, decide_eq_true_eq] at hl
  have nd := PyData.hasDict_of_canLay d hl.1.1
  refine repr_of_reads' rd h3 (PyData.noDict_hsm nd) hG (by omega) (fun b o e => e) (fun h' u tk keep => ⟨.str d.shown, H, I.kept keep, ⟨_, rfl⟩, q⟩) ?_
  have := shown_le13 h1 h2
  rw [sizeLine_eq]
  omega
def cRepr (d : D) : Option D := match d with
  | .list _ => if PyData.layable0 d && d.intsShort 13 && d.showable then some (.str d.shown) else none
  | .tuple _ => if PyData.layable0 d && d.intsShort 13 && d.showable then some (.str d.shown) else none
  | _ => none
theorem cd_repr {K : PySem.W.Frag} : CallD K (rRepr K) cRepr := fun P x a c H Q f rx e q => by
  have go : ∀ {p : Addr}, x = .ref p → (if PyData.layable0 a && a.intsShort 13 && a.showable then some (PyData.str a.shown) else none) = some c → rRepr K [x] H Q := fun {p} ex e => by
    split at e
    · rename_i hc
      cases e
      simp only [Bool.and_eq_true] at hc
      subst ex
      have lay : PyData.canLay0 a = true := by
        have := hc.1.1
        unfold PyData.layable0 at this
        simp only [Bool.and_eq_true] at this
        exact this.1.1
      have hd := rx.dp
      rw [un_lay lay] at hd
      exact ⟨p, a, rfl, hd, hc.1.1, hc.1.2, hc.2, q _ H (Same.refl H) (.str _)⟩
    · cases e
  unfold cRepr at e
  split at e
  · obtain ⟨p, xs, rfl, s, r⟩ := rx.list
    exact go rfl e
  · obtain ⟨p, xs, rfl, s, r⟩ := rx.tuple
    exact go rfl e
  · cases e
theorem b_repr {p : Pos} (hG : X.A.guards = some []) (hu : X.A.units + 100 < cLine) (m : X.mg "repr" = none) (he : MB X own a fa) (hg : Gl X "repr" := by rfl) (hse : starEach [a] X.env = (false, eval a X.env) :: starEach [] X.env := by rfl) (hpl : (backTo pos (starEach [] X.env)).any (·.1) = false := by rfl) : ME X own (.Call (.Name "repr" p) [a] [] pos) (eCall1 cRepr fa) :=
  me_callB1 (call_reprD hG hu) cd_repr hg m (by decide +kernel) he (by decide) (by decide) hse hpl
end
end Mi
set_option Elab.async false
set_option linter.all false
set_option maxRecDepth 100000
namespace Mi
open PySem PySem.Spec PyProof.Rows L2

/-! ### {t: v}, t a tuple -/
def tDispT (tk tv : TE) : TE := fun σ H Q => ∀ p, H p = none → tk σ (upd H p (.dT [])) fun x H1 => tv σ H1 fun y H2 => ∃ (b : Addr) (ks : List Key), x = .ref b ∧ H2 b = some (.tup (ks.map kV)) ∧ H2 p = some (.dT []) ∧ Q (.ref p) (upd H2 p (.dT [(ks, y)]))
theorem pe_dispT {X : Cx} {pos : Pos} {k v : Expr} {tk tv : TE} (hu : X.A.units + 1 < cLine) (hk : PE X k tk) (hv : PE X v tv) : PE X (.Dict [some k] [v] pos) (tDispT tk tv) := by
  refine ⟨fun pins s σ H Q I q => ?_⟩
  have hn := I.hok.fresh (Nat.le_refl s.heap.objs.size)
  have I1 := I.laid (a := s.heap.objs.size) (o := .dT []) (h' := s.heap.push { cls := .type "dict", data := .dict #[] }) (t' := s.toks) (fun _ _ q => Heap.get?_push_of_some _ q) (Nat.le_refl _) (dt_empty s.heap I.big)
  have sh : (evalEachOpt [some k] X.env).zip ((evalEach [v] X.env).map fun v => do let x ← v; standAt pos; pure x) = (pairTrees [some k] [v] X.env pos).map fun p => (some p.1, p.2) := zip_pairTrees [some k] [v] X.env pos rfl rfl
  rw [arm_eval_Dict, sh, dictDisplay_pairs _ (by intro z; cases z) (by rw [pairTrees_length _ _ _ _ rfl rfl]; exact (by decide : 1 < 17))]
  refine wpAny_bind (wpAny_standAt (wpAny_bind (wpAny_subDictH (knd := tupleKind (mixKind X.prog X.w)) (show (tupleKind (mixKind X.prog X.w)).room X.A from Nat.lt_of_succ_lt hu) (by rw [pairTrees_length _ _ _ _ rfl rfl]; exact (by decide : 1 ≤ 15)) ?_)))
  have w1 := (pps_cons (pos := pos) hk hv pps_nil).run pins { s with heap := s.heap.push { cls := .type "dict", data := .dict #[] } } σ _ (fun ps H' => match ps with
    | [(x, y)] => ∃ (b : Addr) (ks : List Key), x = .ref b ∧ H' b = some (.tup (ks.map kV)) ∧ H' s.heap.objs.size = some (.dT []) ∧ Q (.ref s.heap.objs.size) (upd H' s.heap.objs.size (.dT [(ks, y)]))
    | _ => False) I1 ?_
  · refine thn w1 fun ws s2 ⟨ps, H2, I2, rel, q2⟩ => ?_
    match ps, q2 with
    | [(x, y)], q2 =>
    obtain ⟨b, ks, e2, e3, e4, q2⟩ := q2
    subst e2
    cases rel with
    | @cons p1 q1 ps1 qs1 r1 r2 =>
      cases r2
      obtain ⟨ra, rb⟩ := r1
      obtain ⟨z, hd, xs, rx, dd⟩ := dt_of I2.hok e4
      cases rx
      obtain ⟨u1, u2⟩ := q1
      obtain rfl : u1 = Value.ref b := ra
      refine ⟨[(ks, b, u2)], ⟨rfl, rfl, key_of I2.hok e3, trivial⟩, dd, fun h' tk dd' hs => wpAny_pure ⟨.ref s.heap.objs.size, _, ?_, rfl, q2⟩⟩
      obtain ⟨q, es, ep, hq, h2, h3, h4, _, h5⟩ := dd'
      have nb : b ≠ s.heap.objs.size := ne_of e3 e4 (fun z => nomatch z)
      have ok : ObjOk X.prog X.w (upd H2 s.heap.objs.size (.dT [(ks, y)])) h' s.heap.objs.size (.dT [(ks, y)]) := by
        refine ⟨by rw [sizeLine_eq]; exact Nat.le_trans (Nat.le_of_eq rfl) (by decide : 1 ≤ 16777216), hd, [(ks, b, u2)], .cons ⟨rfl, ?_, rb⟩ .nil, q, es, ep, hq, h2, h3, h4, h5⟩
        rw [upd_ne nb]
        exact e3
      exact d_write I2 (by rw [e4]; exact True.intro) hs ⟨q, hq⟩ ok
  · exact q _ hn
end Mi
set_option Elab.async false
set_option linter.all false
set_option maxRecDepth 100000
namespace Mi
open PySem PySem.Spec PyProof.Rows L2

/-! ### sorted(set(xs)), xs a list of ints -/
abbrev nS (w : World) : Obj := { cls := .type "set", dict := none, data := .set #[] 0 (.fresh 0 0 (!w.params.followText "set-order")) }
abbrev nI (l : Addr) : Obj := { cls := .type "list_iterator", data := .fields #[.ref l, .int 0 0] }
section
variable {P : Program} {w : World} {A : Around} {E : Value → Shared → Prop} {s : Shared}
set_option maxHeartbeats 3200000 in
theorem call_set_listR {l : Addr} {xs : Array Value} (ns : List Int) {Q : Value → Shared → Prop} (free : A.handled = none) (is : s.heap.IsList l xs) (hx : IntsAre xs.toList ns) (few : ns.length + 1 < scanBound)
    (h : ∀ (h' : Heap) (tk c : Nat), SetR w h' s.heap.objs.size (fun j => decide (j ∈ ns)) c → c ≤ ns.length → (∀ b o, s.heap.get? b = some o → h'.get? b = some o) → Q (.ref s.heap.objs.size) { s with heap := h', toks := tk }) :
    wpAny (model P w) A (call (.type "set") [.ref l]) Q E s := by
  have size_eq : xs.size = ns.length := by
    have q := hx.length
    rw [Array.length_toList] at q
    exact q
  obtain ⟨mc, mt, mro⟩ := F.called_set.mro
  have made := F.called_set.made
  have subs := F.called_set.sub
  refine wpAny_call (codeAny_of_tree (show wpAny _ _ (callAny (.type "set") _) _ _ _ from wpAny_pure ⟨Code.quiet_builtin _ (by decide +kernel), codeAny_builtin F.entry_type_call ?_⟩))
  rw [Around.under_plain (weight_type_call_type "set" [.ref l] []) rfl]
  have k1 := F.called_set.notType
  have k2 := F.called_set.canCreate
  have k3 := F.typeCall_set_1 (.ref l)
  repeat (any_goals (first | assumption | wp_step))

  refine codeAny_mono (code_set_led1 (.ref l) (E := E) (Q₁ := fun x t => x = .ref s.heap.objs.size ∧ t = { s with heap := s.heap.push (nS w) }) ⟨rfl, rfl⟩) fun r t hr => ?_
  match r, hr with
  | .error e, hr => exact hr
  | .ok (.ret x), hr =>
    obtain ⟨rfl, rfl⟩ := hr
    have at0 : (s.heap.push (nS w)).get? s.heap.objs.size = some (nS w) := Heap.get?_push_size _ rfl
    have ty0 : Shared.TypeIs { s with heap := s.heap.push (nS w) } (.ref s.heap.objs.size) "set" := ⟨_, at0, rfl⟩
    have i1 := F.called_set.init.lookup
    have i2 := F.called_set.init.bind (.ref s.heap.objs.size)
    repeat (any_goals (first | assumption | wp_step))

    refine codeAny_mono (codeAny_call_builtin (R := wants (fun r t => r = .none ∧ ∃ h' tk c, t = { s with heap := h', toks := tk } ∧ SetR w h' s.heap.objs.size (fun j => decide (j ∈ ns)) c ∧ c ≤ ns.length ∧ (∀ b o, s.heap.get? b = some o → h'.get? b = some o)) E)
      F.called_set.init.plain F.entry_set_init (check_set_init_1 ty0 ?_)) fun r2 t2 hr2 => ?_
    · obtain ⟨⟨c0, d0, g0, sl0⟩, at_l, e1, n0, e2⟩ := is
      simp only at e1 e2
      subst e1; subst e2
      have at_l' : (s.heap.push (nS w)).get? l = some { cls := .type "list", dict := d0, data := .seq xs n0, slots := sl0 } := Heap.get?_push_of_some _ at_l
      have y1 := F.sub_list_set
      have y2 := F.sub_list_frozenset
      have y3 : (Value.type "list" == Value.type "dict") = false := by decide
      have isl : (s.heap.push (nS w)).IsList l xs := ⟨_, at_l', rfl, n0, rfl⟩
      unfold Builtin.«set.__init__» noKeywords Builtin.Frozenset.updateFrom
      generalize hold : pyIter = PI
      wp_walk
      subst hold

      refine wpAny_pyIter_list isl (wpAny_bind (wpAny_runValue ?_))
      have lt_l : l < s.heap.objs.size := Heap.lt_size at_l
      have free3 : A.in1.in1.in1.handled = none := by simp [free]
      have off1 : l ≠ (s.heap.push (nS w)).objs.size := by
        rw [Heap.size_push]
        exact Nat.ne_of_lt (Nat.lt_succ_of_lt lt_l)
      have off2 : s.heap.objs.size ∉ [(s.heap.push (nS w)).objs.size, l] := by
        rw [Heap.size_push]
        simp only [List.mem_cons, List.not_mem_nil, or_false, not_or]
        exact ⟨Nat.ne_of_lt (Nat.lt_succ_self _), Nat.ne_of_gt lt_l⟩
      have each : ∀ (i : Nat) (v : Value), xs[i]? = some v → ∃ k t, ns[i]? = some k ∧ v = .int k t := fun i v hv => by
        have lt : i < ns.length := size_eq ▸ (Array.getElem?_eq_some_iff.mp hv).1
        obtain ⟨t, e⟩ := PyProof.Rows.IntsAre.int_at hx i v (by rw [Array.getElem?_toList]; exact hv)
        refine ⟨ns[i], t, List.getElem?_eq_getElem lt, ?_⟩
        rw [e, List.getD_eq_getElem?_getD, List.getElem?_eq_getElem lt]
        rfl
      refine set_update_ints ((Walks.list free3 _ l off1 xs).toS) s.heap.objs.size off2 ns size_eq few each (xs.size - 0) 0 _ (by omega) (Nat.zero_le _) ⟨⟨_, Heap.get?_push_size _ rfl, rfl, rfl⟩, isl.push _⟩ ?start ?fin
      case start => exact ⟨0, Nat.le_refl 0, setR_new_at (Heap.get?_push_of_some _ at0)⟩
      case fin =>
        rintro ⟨h', g2, d2, tk2, os2⟩ c2 mv le2 R2
        have z1 : g2 = s.gens := mv.gens
        have z2 : d2 = s.drawn := mv.drawn
        have z3 : os2 = s.os := mv.os
        subst z1; subst z2; subst z3
        refine wpAny_pure (show wpAny _ _ (ret Value.none) _ _ _ from wpAny_pure ⟨rfl, h', tk2, c2, rfl, R2, by rw [← size_eq]; exact le2, fun b o e => ?_⟩)
        have lb : b < s.heap.objs.size := Heap.lt_size e
        refine mv.heap b o ?_ (Heap.get?_push_of_some _ (Heap.get?_push_of_some _ e))
        rw [Heap.size_push]
        simp only [List.mem_cons, List.not_mem_nil, or_false, not_or]
        exact ⟨Nat.ne_of_lt lb, Nat.ne_of_lt (Nat.lt_succ_of_lt lb)⟩
    · match r2, hr2 with
      | .error e, hr2 => exact hr2
      | .ok (.ret u), hr2 =>
        obtain ⟨rfl, h', tk, c, rfl, R, lc, kp⟩ := hr2
        repeat (any_goals (first | assumption | wp_step))
        exact h h' tk c R lc kp
      | .ok .next, hr2 => exact hr2.elim
      | .ok .brk, hr2 => exact hr2.elim
      | .ok .cont, hr2 => exact hr2.elim
  | .ok .next, hr => exact hr.elim
  | .ok .brk, hr => exact hr.elim
  | .ok .cont, hr => exact hr.elim
end
end Mi
set_option Elab.async false
set_option linter.all false
set_option maxRecDepth 100000
namespace Mi
open PySem PySem.Spec PyProof.Rows L2

/-! ### the head: the law itself is called by the caller that makes no text -/
section
variable {P : Program} {w : World} {K : PySem.W.Frag} {mg mb : Str → Option Value} {k : Nat} {fa a : Addr} {fd : FuncData} {x : Str} {sp : SpM} {s1 : Shared} {us : List Value} {ns : List Int}
/-- what the head knows of the heap -/
structure HeadAt (K : PySem.W.Frag) (mg mb : Str → Option Value) (s1 : Shared) : Prop where
  kin : K.In s1.heap
  ns : s1.heap.Ns mainGlobals mg
  bl : s1.heap.Ns builtinsNs mb
  boot : ∀ x : Str, x ≠ "__name__" → mb x = bootBuiltins x
  lim : s1.heap.NoLimit
  gens : s1.gens = #[]
abbrev HeadQ (s1 : Shared) : Except Value Flow → Shared → Prop := fun r s' => r = .ok (.ret (.bool true)) ∧ OldK s1.heap s'.heap ∧ s'.os = s1.os ∧ AllBare s'.gens
/-- from an abstract heap that tracks nothing but the script -/
theorem head_from (hd : HeadAt K mg mb s1) (ha : s1.heap.get? a = some { cls := .type "list", data := .seq us.toArray }) (hr : Room k callerA)
    (F : ∀ base : Heap, K.In base → base.Ns mainGlobals mg → FnM P w K mg base k fa fd [x] sp) (hbind : ∀ (s : Shared) (u : Value), BindsTo s fd ⟨[u], []⟩ [(x, u)])
    (H : Hp) (hO : Only H) (hq : sp [.ref a] H fun v _ => v = .bl true) (ok : HOk P w H s1.heap) (one : ∀ b, H b ≠ none → b = a) (off : H a ≠ none → K.lookup a = none) :
    codeAny (model P w) callerA (.call (.ref fa) ⟨[.ref a], []⟩) (HeadQ s1) s1 := by
  have lift : ∀ {b : Addr} {o : Obj}, H b = none → s1.heap.get? b = some o → (hidT s1.heap H).get? b = some o := fun n e => hidT_get e n
  have untold : ∀ {b : Addr} {o : Obj} {es : Array DictEntry} {ep : Nat}, o.data = .dict es ep → s1.heap.get? b = some o → H b = none := by
    intro b o es ep d e
    cases z : H b with
    | none => rfl
    | some v =>
      obtain rfl := one b (by rw [z]; exact fun q => nomatch q)
      rw [ha] at e
      cases e
      have d : Data.seq us.toArray _ = Data.dict es ep := d
      cases d
  have spaces : ∀ {b : Addr} {m : Str → Option Value}, s1.heap.Ns b m → (hidT s1.heap H).Ns b m := fun {_ _} ⟨o, es, ep, g, d, r⟩ => ⟨o, es, ep, lift (untold d g) g, d, r⟩
  have kb : K.In (hidT s1.heap H) := fun b o e => by
    refine lift ?_ (hd.kin b o e)
    cases z : H b with
    | none => rfl
    | some v =>
      obtain rfl := one b (by rw [z]; exact fun q => nomatch q)
      rw [off (by rw [z]; exact fun q => nomatch q)] at e
      cases e
  have md : Mod K mg (hidT s1.heap H) := by
    obtain ⟨mc, l1, l2⟩ := hd.lim
    exact ⟨kb, spaces hd.ns, ⟨mb, spaces hd.bl, hd.boot⟩, ⟨mc, spaces l1, l2⟩⟩
  have ev : Env0 P w K mg (hidT s1.heap H) callerA [] s1 H := ⟨rfl, md, fun b o e => of_hidT e, Nat.le_of_eq (hidT_size _ _), trivial, fun b hb => (List.not_mem_nil hb).elim, ok, .of_eq hd.gens⟩
  refine codeAny_mono ((F _ kb (spaces hd.ns)).does callerA [] s1 H ⟨[.ref a], []⟩ [.ref a] [.ref a] _ hr rfl ev (hbind s1 (.ref a)) (.cons rfl .nil) hq) fun r s' z => ?_
  match r, z with
  | .ok (.ret u), z =>
    obtain ⟨v, H', os, bare, un, ok', ru, hv⟩ := z
    have hv : v = .bl true := hv
    subst hv
    obtain rfl : u = Value.bool true := ru
    refine ⟨rfl, OldK.of_keep fun b o e => ?_, os, bare⟩
    rcases hO b with n | ⟨ob, xs, n⟩
    · exact un.keep b o e n (fun z => (List.not_mem_nil (show b ∈ ([] : List Addr) from z)).elim) (fun z => nomatch z)
    · obtain ⟨g1, _⟩ := ok b _ n
      obtain ⟨g2, _⟩ := ok' b _ (un.frzs b ob _ n)
      rw [e] at g1
      cases g1
      exact g2
  | .ok .next, z => exact z.elim
  | .ok .brk, z => exact z.elim
  | .ok .cont, z => exact z.elim
  | .error e, z => exact z.elim
theorem head_callM (hd : HeadAt K mg mb s1) (ha : s1.heap.get? a = some { cls := .type "list", data := .seq us.toArray }) (hi : IntsAre us ns) (hl : ns.length ≤ sizeLine) (hr : Room k callerA)
    (F : ∀ base : Heap, K.In base → base.Ns mainGlobals mg → FnM P w K mg base k fa fd [x] sp) (hbind : ∀ (s : Shared) (u : Value), BindsTo s fd ⟨[u], []⟩ [(x, u)])
    (hq : ∀ H : Hp, Only H → SqL K H a (ns.map V.int) → sp [.ref a] H fun v _ => v = .bl true) : codeAny (model P w) callerA (.call (.ref fa) ⟨[.ref a], []⟩) (HeadQ s1) s1 := by
  have rv := vals_ints hi
  have hz : (ns.map V.int).length ≤ sizeLine := by rw [List.length_map]; exact hl
  cases q : K.lookup a with
  | none =>
    have at_a : ∀ {b : Addr} {u : HO}, (fun b => if b = a then some (HO.frz { cls := .type "list", data := .seq us.toArray } (.lst (ns.map V.int))) else none) b = some u → b = a := fun {b u} z => by
      by_cases e : b = a
      · exact e
      · cases (if_neg e).symm.trans z
    refine head_from hd ha hr F hbind (fun b => if b = a then some (.frz { cls := .type "list", data := .seq us.toArray } (.lst (ns.map V.int))) else none) (fun b => ?_) ?_ (fun b u z => ?_) (fun b z => ?_) fun _ => q
    · by_cases e : b = a
      · exact .inr ⟨_, _, if_pos e⟩
      · exact .inl (if_neg e)
    · refine hq _ (fun b => ?_) (.inl (.inr ⟨{ cls := .type "list", data := .seq us.toArray }, if_pos rfl⟩))
      by_cases e : b = a
      · exact .inr ⟨_, _, if_pos e⟩
      · exact .inl (if_neg e)
    · obtain rfl := at_a z
      cases (if_pos rfl).symm.trans z
      exact ⟨ha, hz, us, _, rv, ha⟩
    · by_cases e : b = a
      · exact e
      · exact absurd (if_neg e) z
  | some o =>
    have e := hd.kin a o q
    rw [ha] at e
    cases e
    refine head_from hd ha hr F hbind (fun _ => none) (fun _ => .inl rfl) (hq _ (fun _ => .inl rfl) (.inr ⟨_, us.toArray, _, q, rfl, rfl, rfl, ?_, by simpa using rv⟩)) (fun b u z => ?_) (fun b z => (z rfl).elim) fun z => (z rfl).elim
    · rw [List.size_toArray, hi.length]
      exact hl
    · have z : (none : Option HO) = some u := z
      cases z
end
theorem walkM {l : PySem.W.OpenLaw} {n k : Nat} {q : Program} {loose : List Str} {XP : (Str → Option Value) → Heap → Prop} {YP : World → Heap → Prop} {d : DefRec} {K : Params → PySem.W.Frag} {sp : PySem.W.Frag → SpM} {x : Str}
    (hn : l.most = some n) (hn2 : n ≤ sizeLine) (hdf : d.params.defaults = []) (hr : Room k callerA) (hY : ∀ (w : World) (h : Heap), YP w h → (K w.params).In h)
    (F : ∀ (w : World) (mg : Str → Option Value) (fa : Addr) (h : Heap), (K w.params).In h → h.Ns mainGlobals mg → mg d.name = some (.ref fa) →
      ∃ fd : FuncData, (∀ (s : Shared) (u : Value), BindsTo s fd ⟨[u], []⟩ [(x, u)]) ∧ ∀ base : Heap, (K w.params).In base → base.Ns mainGlobals mg → FnM l.prog w (K w.params) mg base k fa fd [x] (sp (K w.params)))
    (hsp : ∀ (K : PySem.W.Frag) (H : Hp) (a : Addr) (ns : List Int), ns.length ≤ n → Only H → SqL K H a (ns.map V.int) → sp K [.ref a] H fun v _ => v = .bl true) :
    PySem.W.WalkO q loose XP YP l.row.toRowW d [] (fun f vs => PySem.call f vs) := by
  refine Att.attach_call hn hdf fun w s0 s1 mg mb fa o pm cd doc a us ns G Y ho hd hcd hmg hobj hints hlen hg => ?_
  have kin := hY w _ Y
  obtain ⟨fd, hb, hF⟩ := F w mg fa _ kin G.T.g hmg
  exact head_callM ⟨kin, G.T.g, G.T.b, G.T.builtins, G.T.nolimit, hg⟩ hobj hints (Nat.le_trans hlen hn2) hr hF hb fun H hO hS => hsp _ H a ns hlen hO hS
theorem rpa_whole {K : PySem.W.Frag} {P : Addr → Prop} {H : Hp} : ∀ ns : List Int, RpA K P H (ns.map V.int) (ns.map .int)
  | [] => .nil
  | n :: ns => .cons (.int n) (rpa_whole ns)
/-- the law's own def: what is asked of its shallow function -/
theorem sp_of {K : PySem.W.Frag} {F : FF} {H : Hp} {a : Addr} {ns : List Int} {s' : SD} (hO : Only H) (hS : SqL K H a (ns.map V.int)) (h : F [.list (ns.map .int)] = some (.bool true, s')) : spD K 1 [] false F [.ref a] H fun v _ => v = .bl true := by
  have rp : Rp K (fun _ => True) H (.ref a) (.list (ns.map .int)) := by
    rcases hS with hS | hS
    · exact .lst trivial hS (rpa_whole ns)
    · exact .klst (fun H' => .inr hS) (rpa_whole ns)
  refine ⟨rfl, fun _ => True, _, _, s', ⟨rfl, fun _ _ => trivial, fun i v hn h => ?_, fun i v hi => (nomatch hi), fun i j a hi => (nomatch hi)⟩, h, fun v H' P1 c => ?_⟩
  · match i, h with
    | 0, h =>
      cases h
      exact ⟨_, rfl, rp⟩
    | i + 1, h => simp at h
  · have r : Rp K _ H' v (.bool true) := c.ret
    cases r
    rfl
end Mi
set_option Elab.async false
set_option linter.all false
set_option maxRecDepth 100000
namespace Mi
open PySem PySem.Spec PyProof.Rows L2

/-! ### sorted(set(xs)): the ascending list without repeats -/
def insI (x : Int) : List Int → List Int
  | [] => [x]
  | y :: r => if x < y then x :: y :: r else if x = y then y :: r else y :: insI x r
def sdI : List Int → List Int
  | [] => []
  | x :: r => insI x (sdI r)
theorem insI_mem {x z : Int} : ∀ {l : List Int}, z ∈ insI x l ↔ z = x ∨ z ∈ l
  | [] => by simp [insI]
  | y :: r => by
    unfold insI
    split
    · simp
    · split
      · rename_i h; subst h; simp
      · rw [List.mem_cons, insI_mem, List.mem_cons]
        constructor
        · rintro (h | h | h)
          · exact .inr (.inl h)
          · exact .inl h
          · exact .inr (.inr h)
        · rintro (h | h | h)
          · exact .inr (.inl h)
          · exact .inl h
          · exact .inr (.inr h)
theorem insI_asc {x : Int} : ∀ {l : List Int}, l.Pairwise (· < ·) → (insI x l).Pairwise (· < ·)
  | [], _ => by simp [insI]
  | y :: r, h => by
    obtain ⟨h1, h2⟩ := List.pairwise_cons.mp h
    unfold insI
    split
    · rename_i q
      refine List.pairwise_cons.mpr ⟨fun z hz => ?_, h⟩
      rcases List.mem_cons.mp hz with rfl | hz
      · exact q
      · have := h1 z hz; omega
    · split
      · exact h
      · refine List.pairwise_cons.mpr ⟨fun z hz => ?_, insI_asc h2⟩
        rcases insI_mem.mp hz with rfl | hz
        · omega
        · exact h1 z hz
theorem sdI_mem {z : Int} : ∀ {l : List Int}, z ∈ sdI l ↔ z ∈ l
  | [] => by simp [sdI]
  | x :: r => by unfold sdI; rw [insI_mem, sdI_mem, List.mem_cons]
theorem sdI_asc : ∀ l : List Int, (sdI l).Pairwise (· < ·)
  | [] => .nil
  | x :: r => insI_asc (sdI_asc r)
theorem ascI_eq : ∀ {L L' : List Int}, L.Pairwise (· < ·) → L'.Pairwise (· < ·) → (∀ l, l ∈ L ↔ l ∈ L') → L = L'
  | [], [], _, _, _ => rfl
  | [], b :: _, _, _, h => absurd ((h b).mpr List.mem_cons_self) (by simp)
  | a :: _, [], _, _, h => absurd ((h a).mp List.mem_cons_self) (by simp)
  | a :: L, b :: L', h1, h2, h => by
    obtain ⟨a1, a2⟩ := List.pairwise_cons.mp h1
    obtain ⟨b1, b2⟩ := List.pairwise_cons.mp h2
    have e : a = b := by
      rcases List.mem_cons.mp ((h a).mp List.mem_cons_self) with q | q
      · exact q
      · rcases List.mem_cons.mp ((h b).mpr List.mem_cons_self) with z | z
        · exact z.symm
        · have := b1 a q; have := a1 b z; omega
    subst e
    rw [ascI_eq a2 b2 fun l => ⟨fun hl => ?_, fun hl => ?_⟩]
    · rcases List.mem_cons.mp ((h l).mp (List.mem_cons_of_mem _ hl)) with q | q
      · subst q; exact absurd (a1 l hl) (by omega)
      · exact q
    · rcases List.mem_cons.mp ((h l).mpr (List.mem_cons_of_mem _ hl)) with q | q
      · subst q; exact absurd (b1 l hl) (by omega)
      · exact q
theorem sdI_fix {l : List Int} (h : l.Pairwise (· < ·)) : sdI l = l := ascI_eq (sdI_asc l) h fun _ => sdI_mem
def wholesOf : List D → Option (List Int)
  | [] => some []
  | .int i :: r => (wholesOf r).map (i :: ·)
  | _ :: _ => none
theorem wholesOf_map : ∀ ns : List Int, wholesOf (ns.map .int) = some ns
  | [] => rfl
  | n :: ns => by
    rw [List.map_cons]
    unfold wholesOf
    rw [wholesOf_map ns]
    rfl
theorem wholes_rp {K : PySem.W.Frag} {P : Addr → Prop} {H : Hp} : ∀ {ds : List D} {xs : List V} {ns : List Int}, wholesOf ds = some ns → RpA K P H xs ds → xs = ns.map V.int ∧ ns.length = ds.length
  | [], xs, ns, h, r => by
    cases h; cases r; exact ⟨rfl, rfl⟩
  | d :: ds, xs, ns, h, r => by
    cases d with
    | int i =>
      unfold wholesOf at h
      obtain ⟨m, hm, rfl⟩ := Option.map_eq_some_iff.mp h
      cases r with
      | cons r1 r2 =>
        cases r1
        obtain ⟨h1, h2⟩ := wholes_rp hm r2
        exact ⟨by rw [h1]; rfl, by rw [List.length_cons, List.length_cons, h2]⟩
    | _ => cases h
def cSortSet : D → Option D
  | .list ds => if ds.length < 60 then (wholesOf ds).map fun ns => .list ((sdI ns).map .int) else none
  | _ => none
section
variable {X : Cx} {own : List Nat} {pos : Pos} {a : Expr} {fa : FE}
def rSetI (K : PySem.W.Frag) (w : World) : List V → Hp → VK → Prop := fun xs H Q => ∃ (l : Addr) (ns : List Int), xs = [V.ref l] ∧ SqL K H l (ns.map V.int) ∧ ns.length ≤ 1000 ∧ ∀ p c, H p = none → c ≤ ns.length → Q (.ref p) (upd H p (SetO w p (fun j => decide (j ∈ ns)) c))
theorem cr_setI (hc : X.calm = true) : CallR X (.type "set") (rSetI X.K X.w) := by
  intro pins s σ H vs us Q I r h
  obtain ⟨l, ns, rfl, hs, few, q⟩ := h
  rw [Vals.ref1 r]
  obtain ⟨its, rv, pl, hz⟩ := I.list hs
  refine call_set_listR ns (I.ok.hd hc) pl.isList (by simpa using rv.ints) (by unfold scanBound; omega) fun h' tk c R lc kp => ?_
  exact ⟨.ref s.heap.objs.size, _, I.laid (t' := tk) kp (Nat.le_refl _) (setO_new R), rfl, q _ c (I.hok.fresh (Nat.le_refl _)) lc⟩
theorem f_sortset {p p2 pos2 : Pos} (hc : X.calm = true) (m : X.mg "sorted" = none) (m2 : X.mg "set" = none) (ha : ME X own a fa) (hg : Gl X "sorted" := by rfl) (hg2 : Gl X "set" := by rfl)
    (hse : starEach [a] X.env = (false, eval a X.env) :: starEach [] X.env := by rfl) (hpl : (backTo pos2 (starEach [] X.env)).any (·.1) = false := by rfl)
    (hse2 : starEach [.Call (.Name "set" p2) [a] [] pos2] X.env = (false, eval (.Call (.Name "set" p2) [a] [] pos2) X.env) :: starEach [] X.env := by rfl) (hpl2 : (backTo pos (starEach [] X.env)).any (·.1) = false := by rfl) :
    MF X own (.Call (.Name "sorted" p) [.Call (.Name "set" p2) [a] [] pos2] [] pos) (eCall1 cSortSet fa) :=
  ⟨PE_imp (pe_callB (cr_sortedSet hc) hg m (by decide +kernel) (pa_cons (pe_callTy (cr_setI hc) hg2 m2 (by decide +kernel) (pa_cons ha.pe pa_nil hse) (by decide) (by decide) hse hpl) pa_nil hse2) (by decide) (by decide) hse2 hpl2) fun σ H Q q => by
    obtain ⟨P, σd, d, σd', gd, hf, q⟩ := q
    unfold eCall1 at hf
    obtain ⟨⟨x, s1⟩, h1, hf⟩ := Option.bind_eq_some_iff.mp hf
    obtain ⟨c, h2, hf⟩ := Option.map_eq_some_iff.mp hf
    cases hf
    refine tE_of gd h1 fun v H1 g1 e1 r1 => ?_
    cases x with
    | list ds =>
      unfold cSortSet at h2
      dsimp only at h2
      split at h2
      · rename_i few
        obtain ⟨ns, hw, rfl⟩ := Option.map_eq_some_iff.mp h2
        obtain ⟨l, xs, rfl, sq, s, r⟩ := lst_src r1
        obtain ⟨rfl, hl⟩ := wholes_rp hw r
        refine ⟨l, ns, rfl, sq, by omega, fun p k hp hk => ⟨p, _, k, rfl, upd_same, by omega, fun ms p' asc mem len hp' => ?_⟩⟩
        have em : ms = sdI ns := ascI_eq asc (sdI_asc ns) fun z => by rw [mem z, sdI_mem, decide_eq_true_eq]
        subst em
        have g2 := g1.same (same_new (o := SetO X.w p (fun j => decide (j ∈ ns)) k) hp)
        have n0 : H1 p' = none := Same.free (same_new hp) hp'
        exact q p' _ (e1.g p' n0) (g2.same (same_new hp')) (g2.off hp') ((e1.trans (Ext.new hp)).trans (Ext.new hp')) (.lst upd_same (((rpa_whole _).off hp').new hp'))
      · cases h2
    | _ => cases h2⟩
end
end Mi
set_option Elab.async false
set_option linter.all false
set_option maxRecDepth 100000
namespace Mi
open PySem PySem.Spec PyProof.Rows L2

/-! ### t[::-1], t a tuple -/
section
variable {prog : Program} {w : World} {A : Around} {E : Value → Shared → Prop} {s : Shared}
theorem applied_back {sl : Addr} {n : Nat} {t : Tok} {Q : Int × Int × Nat → Shared → Prop} (hs : s.heap.IsSliceOf sl .none .none (.int (-1) t)) (h : Q ((n : Int) - 1, -1, n) s) :
    wpAny (model prog w) A (Builtin.Slice.sliceApplied (.ref sl) (pure (n : Int))) Q E s := by
  obtain ⟨o, at_o, _, fields⟩ := id hs
  unfold Builtin.Slice.sliceApplied Builtin.Slice.sliceFields
  refine wpAny_bind (wpAny_bind (wpAny_field at_o fields (x := .none) rfl (wpAny_bind (wpAny_field at_o fields (x := .none) rfl (wpAny_bind (wpAny_field at_o fields (x := .int (-1) t) rfl (wpAny_pure ?_)))))))
  refine wpAny_bind (slicePart_int ?_)
  show wpAny _ _ (if ((-1 : Int) == 0) = true then _ else _) _ _ s
  rw [if_neg (by decide)]
  refine wpAny_bind (slicePart_none (wpAny_bind (slicePart_none (wpAny_bind (wpAny_pure ?_)))))
  have e : Builtin.Slice.slicePlaces ((n : Int) - 1) (-1) (-1) = n := by
    unfold Builtin.Slice.slicePlaces
    rw [if_neg (by decide)]
    split
    · simp
    · omega
  show wpAny _ _ (pure ((n : Int) - 1, (-1 : Int), Builtin.Slice.slicePlaces ((n : Int) - 1) (-1) (-1))) _ _ s
  rw [e]
  exact wpAny_pure h
theorem fm_congr {α β : Type} {f g : α → Option β} : ∀ {l : List α}, (∀ x ∈ l, f x = g x) → l.filterMap f = l.filterMap g
  | [], _ => rfl
  | x :: l, h => by rw [List.filterMap_cons, List.filterMap_cons, h x List.mem_cons_self, fm_congr fun y hy => h y (List.mem_cons_of_mem _ hy)]
theorem pick_back (xs : Array Value) : ((List.range xs.size).filterMap fun (m : Nat) => xs[(((xs.size : Nat) : Int) - 1 + (m : Int) * -1).toNat]?).toArray = xs.toList.reverse.toArray := by
  have e1 : ((List.range xs.size).filterMap fun (m : Nat) => xs[(((xs.size : Nat) : Int) - 1 + (m : Int) * -1).toNat]?) = ((List.range xs.size).map fun k => xs.size - 1 - k).filterMap (xs[·]?) := by
    rw [List.filterMap_map]
    refine fm_congr fun m hm => ?_
    have := List.mem_range.mp hm
    have : ((xs.size : Int) - 1 + (m : Int) * -1).toNat = xs.size - 1 - m := by omega
    show xs[_]? = xs[_]?
    rw [this]
  rw [e1, PySem.W.krv_range, List.filterMap_reverse, PySem.W.krv_all]
theorem getItem_tuple_back {a sl : Addr} {items : Array Value} {t : Tok} {Q : Value → Shared → Prop} (ht : IsTup s.heap a items) (hs : s.heap.IsSliceOf sl .none .none (.int (-1) t))
    (h : Q (.ref s.heap.objs.size) { s with heap := s.heap.push { cls := .type "tuple", data := .seq items.toList.reverse.toArray } }) (hz : items.size ≤ sizeLine) : wpAny (model prog w) A (getItem (.ref a) (.ref sl)) Q E s := by
  have ok : sizeOk (.seq items.toList.reverse.toArray) := by
    show items.toList.reverse.toArray.size ≤ sizeLine
    rw [List.size_toArray, List.length_reverse, Array.length_toList]
    exact hz
  obtain ⟨o, at_o, cls, _⟩ := id hs
  have ty : s.TypeIs (.ref sl) "slice" := ⟨o, at_o, cls⟩
  unfold getItem
  try with_reducible refine wpAny_holding ?_
  first | refine wpAny_bind (wpAny_pure ?_) | skip
  refine wpAny_bind (wpAny_sequenceKey ht.typeIs (by decide) ?_)
  refine wpAny_bind (wpAny_callSpecial?_slot (name := Str.ofString "__getitem__") ht.typeIs slot_tuple_getitem (wpAny_call_entry slot_tuple_getitem ht.typeIs entry_tuple_getitem ?_ (args_tuple_getitem _ _)))
  show wpAny _ _ (Builtin.Tuple.tupleItemsOf (.ref a) >>= _) _ _ s
  refine wpAny_bind (tupleItemsOf_ ht (wpAny_bind (wpAny_typeOf ty ?_)))
  rw [if_pos (by decide)]
  refine wpAny_bind (applied_back hs ?_)
  show wpAny _ _ (if ((((items.size : Nat) : Int) - 1) == 0 && (-1 : Int) == 1 && items.size == items.size) = true then _ else _) _ _ s
  rw [if_neg (by simp), pick_back]
  first
    | exact wpAny_bind (m := Builtin.Tuple.tupleExact _) (wpAny_newObj_type (wpAny_pure ⟨_, rfl, wpAny_pure h⟩) ok)
    | exact wpAny_bind (m := Builtin.Tuple.tupleExact _) (wpAny_newObj_type (wpAny_bind (wpAny_pure (wpAny_pure ⟨_, rfl, wpAny_pure h⟩))) ok)
    | exact wpAny_bind (wpAny_bind (m := Builtin.Tuple.tupleExact _) (wpAny_newObj_type (wpAny_pure (wpAny_pure ⟨_, rfl, wpAny_pure h⟩)) ok))
    | exact wpAny_bind (wpAny_bind (m := Builtin.Tuple.tupleExact _) (wpAny_newObj_type (wpAny_pure ⟨_, rfl, wpAny_pure h⟩) ok))
end
theorem vals_back : ∀ {xs : List V} {us : List Value}, Vals xs us → Vals xs.reverse us.reverse := by
  have app : ∀ {xs : List V} {us : List Value} {x : V} {u : Value}, Vals xs us → RelV x u → Vals (xs ++ [x]) (us ++ [u]) := by
    intro xs us x u r h
    induction r with
    | nil => exact .cons h .nil
    | cons a _ ih => exact .cons a ih
  intro xs us r
  induction r with
  | nil => exact .nil
  | cons a _ ih =>
    rw [List.reverse_cons, List.reverse_cons]
    exact app ih a
section
variable {X : Cx} {own : List Nat} {pos p2 p3 p4 : Pos} {j3 : Nat} {e : Expr} {fe : FE}
def tBack (K : PySem.W.Frag) (t : TE) : TE := fun σ H Q => t σ H fun x H1 => ∃ a xs, x = .ref a ∧ SqT K H1 a xs ∧ NewT xs.reverse H1 Q
theorem pe_back {te : TE} (he : PE X e te) : PE X (.Subscript e (.Slice none none (some (.UnaryOp .USub (.Constant (.int 1) j3 p4) p3)) p2) pos) (tBack X.K te) := by
  refine ⟨fun pins s σ H Q I h => ?_⟩
  refine Subscript_ (thn (he.run pins s σ H _ I h) fun v s1 ⟨x, H1, I1, r1, a, xs, ex, hx, q⟩ => ?_)
  subst ex
  cases r1
  refine wpAny_Slice ?_
  rw [evalPart_none]
  refine wpAny_pure ?_
  refine wpAny_pure ?_
  rw [evalPart_some]
  have un : PE X (.UnaryOp .USub (.Constant (.int 1) j3 p4) p3) (tUn (rU fun i => .int (-i)) (tC (.int 1))) := pe_un un_neg pe_int
  refine thn (un.run pins s1 σ H1 (fun x H2 => x = .int (-1) ∧ H2 = H1) I1 ⟨1, rfl, rfl, rfl⟩) fun u s2 ⟨y, H2, I2, ry, ey, eH⟩ => ?_
  subst ey eH
  obtain ⟨t, rfl⟩ := ry
  have I3 : Inv X pins σ H2 { s2 with heap := s2.heap.push { cls := .type "slice", data := .fields #[.none, .none, .int (-1) t] } } := I2.kept (t' := s2.toks) fun b ob q => Heap.get?_push_of_some _ q
  obtain ⟨its, rv, pt, hz⟩ := I3.tuple hx
  have z2 : xs.reverse.length ≤ sizeLine := by rw [List.length_reverse]; exact hz
  exact tail_any (T := "tuple") (ops := [.ref a, .ref s2.heap.objs.size]) pt.typeIs slot_tuple_getitem.lookup (getItem_tuple_back pt (Heap.IsSliceOf.new ..) (q.at_ I3 (vals_back rv) z2) (by rw [List.size_toArray, ← rv.length]; exact hz)) (by with_unfolding_all rfl)
def eRev (f : FE) : FE := fun s => (f s).bind fun r => match r.1 with
  | .tuple ds => some (.tuple ds.reverse, r.2)
  | _ => none
theorem m_rev (he : ME X own e fe) : ME X own (.Subscript e (.Slice none none (some (.UnaryOp .USub (.Constant (.int 1) j3 p4) p3)) p2) pos) (eRev fe) := ⟨PE_imp (pe_back he.pe) fun σ H Q q => by
  obtain ⟨P, σd, d, σd', gd, hf, q⟩ := q
  unfold eRev at hf
  obtain ⟨⟨x, s1⟩, h1, hf⟩ := Option.bind_eq_some_iff.mp hf
  cases x with
  | tuple ds =>
    cases hf
    refine tE_of gd h1 fun v H1 g1 e1 r1 => ?_
    cases r1 with
    | @tup a xs _ s r => exact ⟨a, xs, rfl, s.sq, fun p o hp hd => q _ _ (g1.same (same_new hp)) (e1.trans (Ext.new hp)) (.mkT hp hd r.reverse)⟩
  | _ => cases hf⟩
end
end Mi
set_option Elab.async false
set_option linter.all false
set_option maxRecDepth 100000
namespace Mi
open PySem PySem.Spec PyProof.Rows L2

/-! ### calls by names alone -/
def permL {α : Type} (pm : List Nat) (xs : List α) : List α := pm.filterMap (xs[·]?)
def BindsP (K : PySem.W.Frag) (fd : FuncData) (ps ks : List Str) (pm : List Nat) : Prop := ∀ (s : Shared) (ws : List Value), ws.length = ks.length → BindsTo s fd ⟨[], ks.zip ws⟩ (ps.zip (permL pm ws))
theorem vals_get {xs : List V} {us : List Value} (r : Vals xs us) : ∀ {i : Nat}, (∀ x, xs[i]? = some x → ∃ u, us[i]? = some u ∧ RelV x u) ∧ (xs[i]? = none → us[i]? = none) := by
  induction r with
  | nil => exact fun {i} => ⟨fun x h => by simp at h, fun _ => by simp⟩
  | cons a _ ih =>
    intro i
    cases i with
    | zero => exact ⟨fun x h => by simp only [List.getElem?_cons_zero, Option.some.injEq] at h; subst h; exact ⟨_, rfl, a⟩, fun h => by simp at h⟩
    | succ i => simp only [List.getElem?_cons_succ]; exact ih
theorem vals_perm {xs : List V} {us : List Value} (r : Vals xs us) : ∀ pm : List Nat, Vals (permL pm xs) (permL pm us)
  | [] => .nil
  | i :: pm => by
    unfold permL
    rw [List.filterMap_cons, List.filterMap_cons]
    obtain ⟨h1, h2⟩ := vals_get r (i := i)
    cases q : xs[i]? with
    | none =>
      rw [h2 q]
      exact vals_perm r pm
    | some x =>
      obtain ⟨u, hu, ru⟩ := h1 x q
      rw [hu]
      exact .cons ru (vals_perm r pm)
structure CalP (P : Program) (w : World) (K : PySem.W.Frag) (mg : Str → Option Value) (base : Heap) (k : Nat) (x : Str) (ps ks : List Str) (pm : List Nat) (F : FF) : Prop where
  all : ∃ f fd, FnM P w K mg base k f fd ps (spD K ps.length [] false F) ∧ mg x = some (.ref f) ∧ PySem.W.keepIn K (.ref f) = true ∧ BindsP K fd ps ks pm
section
variable {X : Cx} {own : List Nat} {pos : Pos}
structure MKw (X : Cx) (own : List Nat) (kws : List Keyword) (f : FA) : Prop where
  pk : PK X kws (tA X.K own f)
  len : ∀ s ds s', f s = some (ds, s') → ds.length = kws.length
theorem PK_imp {kws : List Keyword} {t t' : TA} (h : PK X kws t) (i : ∀ σ H Q, t' σ H Q → t σ H Q) : PK X kws t' := ⟨fun p pins s σ H Q I q => h.run p pins s σ H Q I (i σ H Q q)⟩
theorem kw_nil : MKw X own [] aNil := ⟨PK_imp pk_nil fun σ H Q q => by
  obtain ⟨P, σd, ds, σd', g, hf, q⟩ := q
  cases hf
  exact q [] H g (Ext.refl _ _) .nil, fun s ds s' h => by cases h; rfl⟩
theorem kw_cons {nm : Option Str} {kp : Pos} {e : Expr} {kws : List Keyword} {f : FE} {g : FA} (he : ME X own e f) (h : MKw X own kws g) : MKw X own (⟨nm, e, kp⟩ :: kws) (aCons f g) := ⟨PK_imp (pk_cons he.pe h.pk) fun σ H Q q => by
  obtain ⟨P, σd, ds, σd', gd, hf, q⟩ := q
  obtain ⟨a, s1, r, h1, h2, rfl⟩ := aCons_of hf
  exact tE_of gd h1 fun v H1 g1 e1 r1 => ⟨P, s1, r, σd', g1, h2, fun vs H2 g2 e2 r2 => q (v :: vs) H2 g2 (e1.trans e2) (.cons (r1.ext e2 g1.nw) r2)⟩, fun s ds s' hf => by
  obtain ⟨a, s1, r, h1, h2, rfl⟩ := aCons_of hf
  rw [List.length_cons, List.length_cons, h.len _ _ _ h2]⟩
def eCallP (F : FF) (pm : List Nat) (f : FA) : FE := fun s => (f s).bind fun r => (F (permL pm r.1)).map fun o => (o.1, r.2)
theorem m_callP {k : Nat} {x : Str} {ps ks : List Str} {pm : List Nat} {F : FF} {kws : List Keyword} {f : FA} {p : Pos} (C : CalP X.prog X.w X.K X.mg X.base k x ps ks pm F) (hr : Room k X.A) (hG : X.A.guards = some []) (ha : MKw X own kws f) (hn : pm.length = ps.length) (hpm : ∀ i ∈ pm, i < kws.length) (hkl : ks.length = kws.length)
    (hg : Gl X x := by rfl) (nd : (x == ("__debug__" : Str)) = false := by decide) (hall : (backToKw pos (keywordEach kws X.env)).all (·.1.isSome) = true := by rfl) (hks : (backToKw pos (keywordEach kws X.env)).filterMap (·.1) = ks := by rfl)
    (hpl : ((backTo pos (starEach [] X.env)).any (·.1) || (backToKw pos (keywordEach kws X.env)).any (·.1.isNone)) = false := by rfl) : ME X own (.Call (.Name x p) [] kws pos) (eCallP F pm f) := by
  obtain ⟨fa, fd, h1, h2, h3, h4⟩ := C.all
  refine ⟨⟨fun pins s σ H Q I q => ?_⟩⟩
  obtain ⟨P, σd, d, σd', g, hf, q⟩ := q
  unfold eCallP at hf
  obtain ⟨⟨ds, s1⟩, e1, hf⟩ := Option.bind_eq_some_iff.mp hf
  obtain ⟨⟨d0, xs⟩, e2, hf⟩ := Option.map_eq_some_iff.mp hf
  cases hf
  have hl := ha.len _ _ _ e1
  refine wpAny_Call_Name_kw (ld_glob I hg h2 ?_ nd)
  refine PySem.W.callWith_KW0 (h₀ := X.base) I.ok.mod.kin h3 hall (thn (ha.pk.run pos pins s σ H _ I ⟨P, σd, ds, _, g, e1, fun vs H1 g1 x1 r1 => (⟨g1, x1, r1⟩ : Gd X.K own P _ σ H1 ∧ Ext (Wr own σ) H H1 ∧ RpA X.K P H1 vs ds)⟩) fun us s2 ⟨vs, H1, I1, rv, g1, x1, r1⟩ => ⟨I1.kIn, ?_⟩) hpl
  rw [hks]
  have lv : vs.length = kws.length := by rw [r1.len, hl]
  have pl : ∀ {α : Type} (zs : List α), zs.length = kws.length → ∀ pm : List Nat, (∀ i ∈ pm, i < kws.length) → (permL pm zs).length = pm.length := fun zs hz pm => by
    induction pm with
    | nil => exact fun _ => rfl
    | cons i pm ih =>
      intro h
      unfold permL
      rw [List.filterMap_cons, List.getElem?_eq_getElem (by rw [hz]; exact h i List.mem_cons_self)]
      show (permL pm zs).length + 1 = pm.length + 1
      rw [ih fun j hj => h j (List.mem_cons_of_mem _ hj)]
  have rp : ∀ pm : List Nat, RpA X.K P H1 (permL pm vs) (permL pm ds) := fun pm => by
    induction pm with
    | nil => exact .nil
    | cons i pm ih =>
      unfold permL
      rw [List.filterMap_cons, List.filterMap_cons]
      by_cases hi : i < ds.length
      · have ed : ds[i]? = some ds[i] := List.getElem?_eq_getElem hi
        obtain ⟨v, ev, rr⟩ := r1.get ed
        rw [ed, ev]
        exact .cons rr ih
      · have z1 : ds[i]? = none := List.getElem?_eq_none (by omega)
        have z2 : vs[i]? = none := List.getElem?_eq_none (by rw [r1.len]; omega)
        rw [z1, z2]
        exact ih
  refine wpAny_call (callM h1 hr hG I1 (h4 s2 us (by rw [← rv.length, lv, hkl])) (vals_perm rv pm) ⟨by rw [pl vs lv pm hpm, hn], P, permL pm ds, d0, xs, ⟨by rw [pl vs lv pm hpm, pl ds hl pm hpm], g1.fresh, fun i v hi h => ?_, fun i v hi => (nomatch hi), fun i j a hi => (nomatch hi)⟩, e2, fun v H2 P1 c => ?_⟩)
  · exact (rp pm).get' h
  · have nn : ∀ b, Named (permL pm vs) [] b → Wr own σ b := fun b ⟨i, hi, _⟩ => (nomatch hi)
    have ex : Ext (Wr own σ) H1 H2 := c.ext.weak nn
    have nP : ∀ b, Named (permL pm vs) [] b → ¬ P b := fun b ⟨i, hi, _⟩ => (nomatch hi)
    refine q v H2 ⟨g1.len, fun b z => g1.fresh b (ex.g b z), g1.nw, fun i d hi e => ?_, fun i hi v e => ?_, g1.owd, g1.dj⟩ (x1.trans ex) c.ret
    · obtain ⟨v, e', rr⟩ := g1.shr i d hi e
      exact ⟨v, e', rr.ext c.ext nP⟩
    · obtain ⟨a, d, q1, q2, o⟩ := g1.ows i hi v e
      refine ⟨a, d, q1, q2, o.keep c.ext nP fun o q => c.ext.k a o q fun ⟨i, hi, _⟩ => (nomatch hi)⟩
end

/-! ### from here on a name owns its list -/
section
variable {X : Cx} {own io : List Nat} {pos : Pos}
theorem Gd.adopt {K : PySem.W.Frag} {P : Addr → Prop} {s : SD} {σ : L2.St} {H : Hp} {i : Nat} {a : Addr} {d : D} (g : Gd K own (fun b => P b ∧ b ≠ a) s σ H) (hi : i ∉ own) (na : ¬ Wr own σ a) (ow : Ow K (fun b => P b ∧ b ≠ a) H a d) (hl : i < s.length) :
    Gd K (i :: own) (fun b => P b ∧ b ≠ a) (s.set i (some d)) (σ.set i (some (.ref a))) H := by
  have lσ : i < σ.length := by rw [← g.len]; exact hl
  have ne : ∀ j, j ∈ own → i ≠ j := fun j hj e => hi (e ▸ hj)
  have wr : ∀ b, Wr (i :: own) (σ.set i (some (.ref a))) b → b = a ∨ Wr own σ b := fun b ⟨j, hj, e⟩ => by
    rcases List.mem_cons.mp hj with rfl | hj
    · rw [List.getElem?_set_self lσ] at e
      cases e
      exact .inl rfl
    · rw [List.getElem?_set_ne (ne j hj)] at e
      exact .inr ⟨j, hj, e⟩
  refine ⟨by rw [List.length_set, List.length_set, g.len], g.fresh, fun b w z => ?_, fun j d' hj e => ?_, fun j hj v e => ?_, fun j d' hj e => ?_, fun j k b hj hk e1 e2 => ?_⟩
  · rcases wr b w with rfl | w
    · exact z.2 rfl
    · exact g.nw b w z
  · have nj : i ≠ j := fun e => hj (e ▸ List.mem_cons_self)
    rw [List.getElem?_set_ne nj] at e ⊢
    exact g.shr j d' (fun z => hj (List.mem_cons_of_mem _ z)) e
  · rcases List.mem_cons.mp hj with rfl | hj
    · rw [List.getElem?_set_self lσ] at e
      cases e
      exact ⟨a, d, rfl, List.getElem?_set_self hl, ow⟩
    · rw [List.getElem?_set_ne (ne j hj)] at e ⊢
      exact g.ows j hj v e
  · rcases List.mem_cons.mp hj with rfl | hj
    · exact ⟨a, List.getElem?_set_self lσ⟩
    · rw [List.getElem?_set_ne (ne j hj)] at e ⊢
      exact g.owd j d' hj e
  · rcases List.mem_cons.mp hj with rfl | hj2
    · rw [List.getElem?_set_self lσ] at e1
      cases e1
      rcases List.mem_cons.mp hk with rfl | hk
      · rfl
      · rw [List.getElem?_set_ne (ne k hk)] at e2
        exact absurd ⟨k, hk, e2⟩ na
    · have hj' := hj2
      rw [List.getElem?_set_ne (ne j hj')] at e1
      rcases List.mem_cons.mp hk with rfl | hk'
      · rw [List.getElem?_set_self lσ] at e2
        cases e2
        exact absurd ⟨j, hj', e1⟩ na
      · rw [List.getElem?_set_ne (ne k hk')] at e2
        exact g.dj j k b hj' hk' e1 e2
theorem Gd.drop {K : PySem.W.Frag} {P : Addr → Prop} {s : SD} {σ : L2.St} {H : Hp} {i : Nat} (g : Gd K (i :: own) P s σ H) (hi : i ∉ own) : Gd K own P (s.set i none) σ H := by
  refine ⟨by rw [List.length_set]; exact g.len, g.fresh, fun b ⟨j, hj, e⟩ => g.nw b ⟨j, List.mem_cons_of_mem _ hj, e⟩, fun j d hj e => ?_, fun j hj v e => ?_, fun j d hj e => ?_, fun j k b hj hk => g.dj j k b (List.mem_cons_of_mem _ hj) (List.mem_cons_of_mem _ hk)⟩
  · rcases get_set e with ⟨_, e, _⟩ | ⟨nj, e⟩
    · cases e
    · exact g.shr j d (fun z => (List.mem_cons.mp z).elim nj hj) e
  · have ne : i ≠ j := fun e => hi (e ▸ hj)
    obtain ⟨a, d, q1, q2, o⟩ := g.ows j (List.mem_cons_of_mem _ hj) v e
    exact ⟨a, d, q1, by rw [List.getElem?_set_ne ne]; exact q2, o⟩
  · have ne : i ≠ j := fun e => hi (e ▸ hj)
    rw [List.getElem?_set_ne ne] at e
    exact g.owd j d (List.mem_cons_of_mem _ hj) e
def sOwn (f : FE) (i : Nat) (g : FS) : FS := fun s => (f s).bind fun r => if i < r.2.length then (g (r.2.set i (some r.1))).bind fun o => match o with
    | .rt d s2 => if imm d then some (.rt d (s2.set i none)) else none
    | _ => none
  else none
theorem mss_own {i : Nat} {tg e : Expr} {rest : List Stmt} {f : FE} {g : FS} (hp : PS X (.Assign [tg] e pos) (tAsg (tF X.K own f) (gName i))) (hr : MSs X (i :: own) io false rest g) (hi : i ∉ own := by decide) (hio : i ∉ io := by decide) : MSs X own io false (.Assign [tg] e pos :: rest) (sOwn f i g) :=
  ⟨PSs_imp (pss_cons hp hr.ps) fun D σ H q => by
    obtain ⟨P, σd, o, gd, hf, q⟩ := q
    unfold sOwn at hf
    obtain ⟨⟨d, s1⟩, h1, hf⟩ := Option.bind_eq_some_iff.mp hf
    split at hf
    · rename_i hl
      obtain ⟨o1, h2, hf⟩ := Option.bind_eq_some_iff.mp hf
      cases o1 with
      | rt d2 s2 =>
        dsimp only at hf
        split at hf
        · rename_i hm
          cases hf
          refine ⟨P, σd, d, s1, gd, h1, fun a H1 na g1 g2 e1 ow => ?_⟩
          have nw : ¬ Wr own σ a := fun w => by
            obtain ⟨o, e, _⟩ := gd.wr_there w
            rw [na] at e; cases e
          have lσ : i < σ.length := by rw [← g1.len]; exact hl
          have ne : ∀ j, j ∈ own → i ≠ j := fun j hj e => hi (e ▸ hj)
          have wr : ∀ b, Wr (i :: own) (σ.set i (some (.ref a))) b → b = a ∨ Wr own σ b := fun b ⟨j, hj, e⟩ => by
            rcases List.mem_cons.mp hj with rfl | hj
            · rw [List.getElem?_set_self lσ] at e
              cases e
              exact .inl rfl
            · rw [List.getElem?_set_ne (ne j hj)] at e
              exact .inr ⟨j, hj, e⟩
          refine ⟨fun b => P b ∧ b ≠ a, s1.set i (some d), .rt d2 s2, g2.adopt hi nw ow hl, h2, fun P' σ' H' v g3 p t r => ?_⟩
          refine q P' σ' H' v (g3.drop hi) ⟨fun b z => (p.le b z).1, fun b z n => p.ge b ⟨z, fun e => n (e ▸ na)⟩ fun w => n (e1.g b w)⟩ ⟨⟨fun b o hb n => ?_, fun b z => e1.g b (t.ext.g b z)⟩, fun b ⟨j, hj, e⟩ => ?_, fun j hj => ?_⟩ ?_
          · refine t.ext.k b o (e1.k b o hb n) fun w => ?_
            rcases wr b w with rfl | w
            · rw [na] at hb; cases hb
            · exact n w
          · rcases t.wr b ⟨j, List.mem_cons_of_mem _ hj, e⟩ with w | z
            · rcases wr b w with rfl | w
              · exact .inr na
              · exact .inl w
            · exact .inr (e1.g b z)
          · rw [t.io j hj, List.getElem?_set_ne fun (e : i = j) => hio (by rw [e]; exact hj)]
          · unfold RetV at r ⊢
            rw [if_neg Bool.false_ne_true] at r ⊢
            exact r.imm hm
        · cases hf
      | _ => cases hf
    · cases hf⟩
end
end Mi
set_option Elab.async false
set_option linter.all false
set_option maxRecDepth 100000
namespace Mi
open PySem PySem.Spec PyProof.Rows L2

/-! ### sorted(d), list(d): a dict whose keys are tuples of ints -/
def rSortDT : List V → Hp → VK → Prop := fun xs H Q => ∃ (d : Addr) (kvs : List (List Key × V)) (rs : List (List Int)), xs = [V.ref d] ∧ Rd H d (.dT kvs) ∧ kvs.map (·.1) = rs.map (fun r => r.map Sum.inl) ∧ (rs.length ≤ 1 ∨ ∀ r ∈ rs, r ≠ []) ∧
  ∀ p bs, H p = none → Paired (fun (r : List Int) b => H b = some (.tup (r.map V.int))) (rs.mergeSort fun a b => decide (a ≤ b)) bs → Q (.ref p) (upd H p (.lst (bs.map V.ref)))
theorem alike_rows (a b : List Int) : PySem.W.alike (.tuple (a.map .int)) (.tuple (b.map .int)) = true := by
  unfold PySem.W.alike
  exact PySem.W.alike_ints a b
theorem le_rows : PySem.W.dataLe false (fun r : List Int => PyData.tuple (r.map .int)) = fun a b => decide (a ≤ b) := by
  have e : PySem.W.dataLe false (fun r : List Int => PyData.tuple (r.map .int)) = PySem.W.dataLe false (fun r : List Int => PyData.list (r.map .int)) := by
    unfold PySem.W.dataLe
    congr 1
  rw [e]
  exact PySem.W.dataLe_rows id
theorem reads_wholes {h : Heap} : ∀ {ns : List Int} {us : List Value}, Vals (ns.map V.int) us → ReadsAll h us (ns.map .int) []
  | [], _, r => by cases r; exact .nil
  | n :: ns, _, r => by
    cases r with
    | cons a b =>
      obtain ⟨t, rfl⟩ := a
      exact ReadsAll.cons (Reads.int n t) (reads_wholes b)
theorem reads_row {P : Program} {w : World} {H : Hp} {h : Heap} (ok : HOk P w H h) {b : Addr} {r : List Int} (e : H b = some (.tup (r.map V.int))) : Reads h (.ref b) (.tuple (r.map .int)) [] := by
  obtain ⟨_, its, rv, o, h1, h2, n, h3⟩ := (show ObjOk P w H h b (.tup (r.map V.int)) from ok b _ e)
  exact Reads.tuple h1 h2 h3 (by simpa using reads_wholes rv)
/-- what stands for a row of ints -/
def RowAt (H : Hp) (v : Value) (r : List Int) : Prop := ∃ b, v = .ref b ∧ H b = some (.tup (r.map V.int))
theorem rows_out {H : Hp} : ∀ {out : List Value} {rs : List (List Int)}, PySem.W.EachIs (RowAt H) out rs → ∃ bs : List Addr, out = bs.map Value.ref ∧ Paired (fun (r : List Int) b => H b = some (.tup (r.map V.int))) rs bs
  | _, _, .nil => ⟨[], rfl, .nil⟩
  | _, _, .cons ⟨b, e, hb⟩ t => by
    obtain ⟨bs, e2, pr⟩ := rows_out t
    exact ⟨b :: bs, by rw [e, e2]; rfl, .cons hb pr⟩
theorem rows_in {H : Hp} : ∀ {kvs : List (List Key × V)} {ks : List (List Key × Addr × Value)} {rs : List (List Int)}, KT H kvs ks → kvs.map (·.1) = rs.map (fun r => r.map Sum.inl) → PySem.W.EachIs (RowAt H) (ks.map fun x => Value.ref x.2.1) rs
  | [], _, [], .nil, _ => .nil
  | [], _, _ :: _, .nil, e => by cases e
  | _ :: _, _, [], _, e => by cases e
  | kv :: kvs, k :: ks, r :: rs, .cons a b, e => by
    rw [List.map_cons, List.map_cons] at e
    obtain ⟨e1, e2⟩ := List.cons.inj e
    refine .cons ⟨k.2.1, rfl, ?_⟩ (rows_in b e2)
    rw [a.2.1, e1, List.map_map]
    rfl
theorem each_len {H : Hp} {out : List Value} {rs : List (List Int)} (e : PySem.W.EachIs (RowAt H) out rs) : out.length = rs.length := e.length
section
variable {X : Cx}
theorem cr_sortDT (hc : X.calm = true) (hu : X.A.units + 100 < cLine) : CallR X (.builtin "sorted") rSortDT := by
  intro pins s σ H vs us Q I r h
  obtain ⟨d, kvs, rs, rfl, hd, hk, hne, q⟩ := h
  rw [Vals.ref1 r]
  obtain ⟨z, hs, ks, pr, o, es, ep, ho, hx, hdt, he, hn⟩ := (show ObjOk X.prog X.w H s.heap d (.dT kvs) from hd.ok I.hok)
  have n1 : es.size = ks.length := size_of_entries he
  have n2 : kvs.length = ks.length := Paired.length pr
  have n3 : kvs.length = rs.length := by
    have := congrArg List.length hk
    rwa [List.length_map, List.length_map] at this
  have each := rows_in pr hk
  refine Calls.call_function_entry kind_sorted plain_sorted entry_sorted (args_sorted1 _) ?_
  unfold Builtin.«sorted»
  refine wpAny_bind (m := checkCount "sorted" 1 1 _) (wpAny_pure ?_)
  refine wpAny_bind (PySem.W.kdu_collect (A := X.A.in1) (kdl_raw hs hx hdt) (I.ok.hd hc) ho (by omega) fun h' tk acc kp it => ?_)
  have ea : acc.toList = ks.map fun x => Value.ref x.2.1 := by
    have hl : acc.toList.length = ks.length := by rw [Array.length_toList, it.1]; exact n1
    refine List.ext_getElem (by rw [hl, List.length_map]) fun j j1 j2 => ?_
    have a1 : acc.toList[j]? = some acc.toList[j] := List.getElem?_eq_getElem j1
    obtain ⟨en, hen, hv⟩ := it.2 j acc.toList[j] (by rw [← Array.getElem?_toList]; exact a1)
    have jk : j < ks.length := by omega
    have qe := entry_at he j
    rw [hen, List.getElem?_eq_getElem jk] at qe
    have e2 : en = entryOfKey (tupleKind (mixKind X.prog X.w)) ks[j] := Option.some.inj qe
    rw [hv, e2, List.getElem_map]
    rfl
  have I1 : Inv X pins σ H { s with heap := h', toks := tk } := I.kept kp
  have hal : acc.toList.length = rs.length := by rw [ea, List.length_map]; omega
  rw [← ea] at each
  refine wpAny_bind (wpAny_newList ?_ (by rw [hal]; omega))
  have at_n : (h'.push (seqObj "list" acc.toList.toArray 0)).get? h'.objs.size = some (seqObj "list" acc.toList.toArray 0) := Heap.get?_push_size _ rfl
  show wpAny _ _ _ _ _ { s with heap := h'.push (seqObj "list" acc.toList.toArray 0), toks := tk }
  have fin : ∀ (out : List Value), PySem.W.EachIs (RowAt H) out (rs.mergeSort fun a b => decide (a ≤ b)) → EP X pins σ Q (.ref h'.objs.size) { s with heap := sortedHeap (h'.push (seqObj "list" acc.toList.toArray 0)) h'.objs.size acc.toList out.toArray, toks := tk } := fun out eo => by
    obtain ⟨bs, eb, pb⟩ := rows_out eo
    obtain ⟨e', he'⟩ := sortedHeap_at (vs := acc.toList) (out := out.toArray) at_n
    have lo : bs.length ≤ sizeLine := by
      have l1 := Paired.length pb
      rw [List.length_mergeSort] at l1
      omega
    refine ⟨.ref h'.objs.size, upd H h'.objs.size (.lst (bs.map V.ref)), I1.laid (t' := tk) (fun b u e => ?_) (Nat.le_refl _) (show ObjOk X.prog X.w _ _ _ (.lst (bs.map V.ref)) from ⟨by rw [List.length_map]; exact lo, out, e', by rw [eb]; exact vals_refs bs, he'⟩), rfl, q _ bs (I1.hok.fresh (Nat.le_refl _)) pb⟩
    have hb : b < h'.objs.size := Heap.lt_size e
    rw [sortedHeap_old (Nat.ne_of_lt hb) (by rw [size_push']; exact Nat.lt_succ_of_lt hb)]
    exact Heap.get?_push_of_some _ e
  rcases hne with hs1 | hne
  · -- one row at most: nothing is compared
    refine wpAny_bind (wpAny_holding (wpAny_call_entry slot_list_sort ⟨_, at_n, rfl⟩ entry_list_sort
      (SrtO.list_sort_ord (s := { s with heap := h'.push (seqObj "list" acc.toList.toArray 0), toks := tk }) SrtO.swo_int at_n (by rw [hal]; omega) (fun h2 => absurd h2 (by omega)) fun out o1 o2 => ⟨.none, rfl, ?_⟩) (args_list_sort _)))
    have pm := o2.perm
    have eo : out = acc.toList := by
      match hA : acc.toList, pm with
      | [], pm => exact pm.eq_nil
      | [a], pm => exact List.perm_singleton.mp pm
      | a :: b :: r, _ => rw [hA] at hal; simp at hal; omega
    subst eo
    refine wpAny_pure ⟨_, rfl, fin _ ?_⟩
    have : (rs.mergeSort fun a b => decide (a ≤ b)) = rs := by
      match rs, hs1 with
      | [], _ => exact List.mergeSort_nil
      | [a], _ => exact List.mergeSort_singleton a
      | a :: b :: r, h => simp at h
    rw [this]
    exact each
  · refine wpAny_bind (wpAny_holding (PySem.W.list_sort_data (s := { s with heap := h'.push (seqObj "list" acc.toList.toArray 0), toks := tk }) (R := RowAt H) (enc := fun r : List Int => PyData.tuple (r.map .int)) at_n each ?_ (PySem.W.AllAlike.of alike_rows) (.inl fun x hx => ?_) (by omega) (fun b hb => ?_) fun out ol eo => ?_))
    · have I2 : Inv X pins σ H { s with heap := h'.push (seqObj "list" acc.toList.toArray 0), toks := tk } := I1.kept (t' := tk) fun b ob e => Heap.get?_push_of_some _ e
      exact each.mono fun v r ⟨b, ev, hb⟩ => ⟨[], ev ▸ reads_row I2.hok hb, List.not_mem_nil⟩
    · obtain ⟨r, hr, rfl⟩ := List.mem_map.mp hx
      cases r with
      | nil => exact absurd rfl (hne _ hr)
      | cons y ys => exact ⟨_, _, rfl⟩
    · show X.A.in1.units + 1 + PyData.depth (.tuple (b.map .int)) < cLine
      have : PyData.depth (.tuple (b.map .int)) = PyData.depthAll (b.map .int) + 1 := by simp [PyData.depth]
      rw [this, PySem.W.depth_ints]
      show X.A.units + 1 + 1 + (0 + 1) < cLine
      omega
    · rw [le_rows] at eo
      exact wpAny_pure ⟨_, rfl, fin out eo⟩
end
end Mi
set_option Elab.async false
set_option linter.all false
set_option maxRecDepth 100000
namespace Mi
open PySem PySem.Spec PyProof.Rows L2

/-! ### new tuples -/
def tN (K : PySem.W.Frag) (own : List Nat) (f : FE) : TE := fun σ H Q => ∃ (P : Addr → Prop) (σd : SD) (ds : List D) (σd' : SD), Gd K own P σd σ H ∧ f σd = some (.tuple ds, σd') ∧
  ∀ p H' xs, Gd K own P σd' σ H' → Ext (Wr own σ) H H' → H' p = some (.tup xs) → RpA K P H' xs ds → Q (.ref p) H'
structure MN (X : Cx) (own : List Nat) (e : Expr) (f : FE) : Prop where
  pe : PE X e (tN X.K own f)
section
variable {X : Cx} {own io : List Nat} {fr : Bool} {pos : Pos} {a b : Expr} {fa fb : FE}
def cTupL : D → Option D
  | .list ds => some (.tuple ds)
  | _ => none
theorem n_tup {p : Pos} (m : X.mg "tuple" = none) (he : MF X own a fa) (hg : Gl X "tuple" := by rfl) (hse : starEach [a] X.env = (false, eval a X.env) :: starEach [] X.env := by rfl) (hpl : (backTo pos (starEach [] X.env)).any (·.1) = false := by rfl) : MN X own (.Call (.Name "tuple" p) [a] [] pos) (eCall1 cTupL fa) :=
  ⟨PE_imp (pe_callTy call_tuple_of hg m (by decide +kernel) (pa_cons he.pe pa_nil hse) (by decide) (by decide) hse hpl) fun σ H Q q => by
    obtain ⟨P, σd, ds, σd', g, hf, q⟩ := q
    unfold eCall1 at hf
    obtain ⟨⟨x, s1⟩, h1, hf⟩ := Option.bind_eq_some_iff.mp hf
    obtain ⟨c, h2, hf⟩ := Option.map_eq_some_iff.mp hf
    cases x with
    | list es =>
      cases h2
      cases hf
      refine ⟨P, σd, _, s1, g, h1, fun l H1 nl g1 g2 e1 ow => ?_⟩
      cases ow with
      | lst c r => exact ⟨l, _, rfl, .inl ⟨.inl (.inl c), fun p hp => q p _ _ (g1.same (same_new hp)) (e1.trans (Ext.new hp)) upd_same ((r.mono fun b z => z.1).new hp)⟩⟩
    | _ => cases h2⟩
theorem n_disp {es : List Expr} {x1} {f : FA} (h : MA X own es f) (n : es.length ≤ 1000000 := by decide) : MN X own (.Tuple es x1 pos) (eTup f) := ⟨PE_imp (pe_tup h.pa) fun σ H Q q => by
  obtain ⟨P, σd, ds, σd', g, hf, q⟩ := q
  unfold eTup at hf
  obtain ⟨⟨es', s1⟩, h1, hf⟩ := Option.map_eq_some_iff.mp hf
  cases hf
  refine ⟨P, σd, _, s1, g, h1, fun vs H1 g1 e1 r1 => ⟨?_, fun p hp => q p _ _ (g1.same (same_new hp)) (e1.trans (Ext.new hp)) upd_same (r1.new hp)⟩⟩
  rw [r1.len, h.len _ _ _ h1, sizeLine_eq]
  omega⟩
theorem n_rep (ha : MN X own a fa) (hb : ME X own b fb) : MN X own (.BinOp a .Mult b pos) (eBin dRep fa fb) := ⟨PE_imp (pe_op op_repW ha.pe hb.pe) fun σ H Q q => by
  obtain ⟨P, σd, ds, σd', g, hf, q⟩ := q
  obtain ⟨x, s1, y, h1, h2, h3⟩ := eBin_of hf
  unfold dRep at h3
  split at h3
  · rename_i es k
    split at h3
    · rename_i hk
      obtain ⟨k1, k2, k3, k4⟩ := hk
      cases h3
      refine ⟨P, σd, es, s1, g, h1, fun l H1 xs g1 e1 c r => tE_of g1 h2 fun v H2 g2 e2 r2 => ?_⟩
      cases r2
      have c2 : H2 l = some (.tup xs) := e2.k _ _ c fun _ z => z
      have r' := r.ext e2 g1.nw
      have hx : xs ≠ [] := fun z => k1 (r'.nil_iff.mp z)
      by_cases k0 : k = 0
      · subst k0
        exact .inl (.inl ⟨l, xs, rfl, rfl, .inl (.inl c2), hx, fun p hp => q p _ [] (g2.same (same_new hp)) ((e1.trans e2).trans (Ext.new hp)) upd_same .nil⟩)
      · by_cases k1' : k = 1
        · subst k1'
          refine .inl (.inr ⟨l, xs, rfl, rfl, .inl (.inl c2), q l H2 xs g2 (e1.trans e2) c2 ?_⟩)
          have : (List.replicate (1 : Int).toNat es).flatten = es := by simp
          rw [this]
          exact r'
        · exact .inr ⟨l, k, xs, rfl, rfl, .inl (.inl c2), hx, by omega, k3, by rw [r'.len]; exact k4, fun p hp => q p _ _ (g2.same (same_new hp)) ((e1.trans e2).trans (Ext.new hp)) upd_same ((r'.rep _).new hp)⟩
    · cases h3
  · cases h3⟩
end

/-! ### keys that are tuples -/
def keysD : List D → Option (List Key)
  | [] => some []
  | d :: r => (keyOf d).bind fun k => (keysD r).map (k :: ·)
theorem keysD_rp {K : PySem.W.Frag} {P : Addr → Prop} {H : Hp} : ∀ {ds : List D} {xs : List V} {ks : List Key}, keysD ds = some ks → RpA K P H xs ds → xs = ks.map kV ∧ ds = ks.map keyD
  | [], xs, ks, h, r => by
    cases h; cases r; exact ⟨rfl, rfl⟩
  | d :: ds, xs, ks, h, r => by
    unfold keysD at h
    obtain ⟨k, h1, h⟩ := Option.bind_eq_some_iff.mp h
    obtain ⟨m, h2, rfl⟩ := Option.map_eq_some_iff.mp h
    cases r with
    | cons r1 r2 =>
      obtain ⟨e1, e2⟩ := keysD_rp h2 r2
      rw [keyV_of r1 h1, e1, keyOf_D h1]
      exact ⟨rfl, by rw [List.map_cons, ← e2]⟩
theorem keysD_ints : ∀ ns : List Int, keysD (ns.map .int) = some (ns.map Sum.inl)
  | [] => rfl
  | n :: ns => by
    rw [List.map_cons]
    unfold keysD
    rw [keysD_ints ns]
    rfl
def eqA : List D → List D → Bool
  | [], [] => true
  | x :: xs, y :: ys => kEq x y && eqA xs ys
  | _, _ => false
theorem eqA_key : ∀ a b : List Key, eqA (a.map keyD) (b.map keyD) = decide (a = b)
  | [], [] => rfl
  | [], _ :: _ => (decide_eq_false fun z => nomatch z).symm
  | _ :: _, [] => (decide_eq_false fun z => nomatch z).symm
  | x :: xs, y :: ys => by
    rw [List.map_cons, List.map_cons]
    unfold eqA
    rw [kEq_key, eqA_key xs ys]
    by_cases e : x = y
    · subst e
      by_cases e2 : xs = ys
      · subst e2; simp
      · simp [e2]
    · simp [e]
def tEq : D → D → Bool
  | .tuple xs, .tuple ys => eqA xs ys
  | _, _ => false
def hasT : List (D × D) → D → Bool
  | [], _ => false
  | (k', _) :: r, k => tEq k' k || hasT r k
def replT : List (D × D) → D → D → List (D × D)
  | [], _, _ => []
  | (k', d) :: r, k, v => (if tEq k' k then (k', v) else (k', d)) :: replT r k v
def putT (kvs : List (D × D)) (k v : D) : List (D × D) := if hasT kvs k then replT kvs k v else kvs ++ [(k, v)]
section
variable {K : PySem.W.Frag} {P : Addr → Prop} {H : Hp}
theorem KtA.has {kvs : List (List Key × V)} {r : List (D × D)} (q : KtA K P H kvs r) (k : List Key) : hasT r (.tuple (k.map keyD)) = kvs.any fun kv => decide (kv.1 = k) := by
  induction q with
  | nil => rfl
  | @cons k' v' d' kvs r a _ ih =>
    unfold hasT
    rw [show tEq (.tuple (k'.map keyD)) (.tuple (k.map keyD)) = decide (k' = k) from eqA_key k' k, ih, List.any_cons]
theorem KtA.repl {kvs : List (List Key × V)} {r : List (D × D)} (q : KtA K P H kvs r) (k : List Key) {v : V} {d : D} (rv : Rp K P H v d) : KtA K P H (kvs.map fun kv => if kv.1 = k then (kv.1, v) else kv) (replT r (.tuple (k.map keyD)) d) := by
  induction q with
  | nil => exact .nil
  | @cons k' v' d' kvs r a _ ih =>
    unfold replT
    rw [show tEq (.tuple (k'.map keyD)) (.tuple (k.map keyD)) = decide (k' = k) from eqA_key k' k, List.map_cons]
    by_cases e : k' = k
    · rw [decide_eq_true e, if_pos rfl, if_pos e]
      exact .cons rv ih
    · rw [decide_eq_false e, if_neg Bool.false_ne_true, if_neg e]
      exact .cons a ih
theorem KtA.snoc {kvs : List (List Key × V)} {r : List (D × D)} (q : KtA K P H kvs r) (k : List Key) {v : V} {d : D} (rv : Rp K P H v d) : KtA K P H (kvs ++ [(k, v)]) (r ++ [(.tuple (k.map keyD), d)]) := by
  induction q with
  | nil => exact .cons rv .nil
  | cons a _ ih => exact .cons a ih
theorem KtA.put {kvs : List (List Key × V)} {r : List (D × D)} (q : KtA K P H kvs r) (k : List Key) {v : V} {d : D} (rv : Rp K P H v d) : KtA K P H (putK kvs k v) (putT r (.tuple (k.map keyD)) d) := by
  unfold putK putT
  rw [q.has k]
  split
  · exact q.repl k rv
  · exact q.snoc k rv
theorem KtA.len {kvs : List (List Key × V)} {r : List (D × D)} (q : KtA K P H kvs r) : kvs.length = r.length := by
  induction q with
  | nil => rfl
  | cons _ _ ih => simp only [List.length_cons, ih]
theorem keys_rp : ∀ ks : List Key, RpA K P H (ks.map kV) (ks.map keyD)
  | [] => .nil
  | .inl i :: ks => .cons (.int i) (keys_rp ks)
  | .inr x :: ks => .cons (.str x) (keys_rp ks)
/-- a key as it is handed out -/
def wkD : D → D
  | .tuple ds => wk ds
  | d => d
/-- the keys as a list of tuples -/
theorem KtA.keys {kvs : List (List Key × V)} {r : List (D × D)} (q : KtA K P H kvs r) : ∀ {bs : List Addr}, IsKeys H kvs bs → RpA K P H (bs.map V.ref) (r.map fun x => wkD x.1) := by
  induction q with
  | nil =>
    intro bs h
    cases h
    exact .nil
  | @cons k v d kvs r a _ ih =>
    intro bs h
    cases h with
    | @cons _ b _ bs h1 h2 =>
      rw [List.map_cons, List.map_cons]
      exact .cons (.wtup h1 (keys_rp k)) (ih h2)
/-- the keys as rows of ints -/
def rowsD : List D → Option (List (List Int))
  | [] => some []
  | .tuple ds :: r => (wholesOf ds).bind fun ns => (rowsD r).map (ns :: ·)
  | _ :: _ => none
theorem wholes_keys : ∀ {k : List Key} {ns : List Int}, wholesOf (k.map keyD) = some ns → k = ns.map Sum.inl
  | [], ns, h => by cases h; rfl
  | .inr x :: k, ns, h => by cases h
  | .inl i :: k, ns, h => by
    rw [List.map_cons] at h
    unfold keyD wholesOf at h
    obtain ⟨m, hm, rfl⟩ := Option.map_eq_some_iff.mp h
    rw [wholes_keys hm]
    rfl
theorem KtA.rows {kvs : List (List Key × V)} {r : List (D × D)} (q : KtA K P H kvs r) : ∀ {rs : List (List Int)}, rowsD (r.map (·.1)) = some rs → kvs.map (·.1) = rs.map fun r => r.map Sum.inl := by
  induction q with
  | nil => intro rs h; cases h; rfl
  | @cons k v d kvs r a _ ih =>
    intro rs h
    rw [List.map_cons] at h
    unfold rowsD at h
    obtain ⟨ns, h1, h⟩ := Option.bind_eq_some_iff.mp h
    obtain ⟨m, h2, rfl⟩ := Option.map_eq_some_iff.mp h
    rw [List.map_cons, List.map_cons, ih h2, wholes_keys h1]
theorem rows_back {rs : List (List Int)} {bs : List Addr} (h : Paired (fun (r : List Int) b => H b = some (.tup (r.map V.int))) rs bs) : RpA K P H (bs.map V.ref) (rs.map fun r => wk (r.map .int)) := by
  induction h with
  | nil => exact .nil
  | cons a _ ih => exact .cons (.wtup a (rpa_whole _)) ih
end
def eDt (k : Nat) (s : SD) : Option (List (D × D)) := match s[k]? with
  | some (some (.dict ((.none, .none) :: r))) => some r
  | _ => none
theorem eDt_of {k : Nat} {s : SD} {r : List (D × D)} (h : eDt k s = some r) : s[k]? = some (some (.dict ((.none, .none) :: r))) := by
  unfold eDt at h
  split at h
  · rename_i q
    cases h
    exact q
  · cases h
section
variable {X : Cx} {own io : List Nat} {fr : Bool} {pos : Pos} {fk fv : FE}
theorem Gd.own_dT {K : PySem.W.Frag} {P : Addr → Prop} {σd : SD} {σ : L2.St} {H : Hp} (g : Gd K own P σd σ H) {k : Nat} {r : List (D × D)} (hk : k ∈ own) (h : eDt k σd = some r) : ∃ a kvs, σ[k]? = some (some (.ref a)) ∧ H a = some (.dT kvs) ∧ KtA K P H kvs r ∧ ¬ P a := by
  obtain ⟨a, e, o, n⟩ := g.own_at hk (eDt_of h)
  cases o with
  | dct c r =>
    exfalso
    generalize eq : ((PyData.none, PyData.none) :: _ : List (D × D)) = l at r
    cases r with
    | nil => cases eq
    | @cons k v d kvs r a b =>
      cases k with
      | inl i => cases eq
      | inr x => cases eq
  | dtt c r => exact ⟨a, _, e, c, r, n⟩
def eDisT (fk fv : FE) : FE := fun s => (fk s).bind fun a => (fv a.2).bind fun b => match a.1 with
  | .tuple ds => (keysD ds).map fun _ => (.dict [(.none, .none), (.tuple ds, b.1)], b.2)
  | _ => none
theorem f_dispT {k v : Expr} (hu : X.A.units + 1 < cLine) (hk : MN X own k fk) (hv : ME X own v fv) : MF X own (.Dict [some k] [v] pos) (eDisT fk fv) := ⟨PE_imp (pe_dispT hu hk.pe hv.pe) fun σ H Q q => by
  obtain ⟨P, σd, d, σd', g, hf, q⟩ := q
  unfold eDisT at hf
  obtain ⟨⟨x, s1⟩, h1, hf⟩ := Option.bind_eq_some_iff.mp hf
  obtain ⟨⟨y, s2⟩, h2, hf⟩ := Option.bind_eq_some_iff.mp hf
  cases x with
  | tuple ds =>
    dsimp only at hf
    obtain ⟨ks, h3, hf⟩ := Option.map_eq_some_iff.mp hf
    cases hf
    intro p hp
    have nw : ¬ Wr own σ p := fun w => by
      obtain ⟨o, e, _⟩ := g.wr_there w
      rw [hp] at e; cases e
    have g0 := g.off (o := .dT []) hp
    refine ⟨_, σd, ds, s1, g0, h1, fun b H1 xs g1 e1 c r => tE_of g1 h2 fun w H2 g2 e2 r2 => ?_⟩
    obtain ⟨rfl, ed⟩ := keysD_rp h3 (r.ext e2 g1.nw)
    have ep1 : H1 p = some (.dT []) := e1.k _ _ upd_same fun w => absurd w nw
    have ep : H2 p = some (.dT []) := e2.k _ _ ep1 fun w => absurd w nw
    have c2 : H2 b = some (.tup (ks.map kV)) := e2.k _ _ c fun _ z => z
    refine ⟨b, ks, rfl, c2, ep, ?_⟩
    have ex : Ext (fun b => b = p) H2 (upd H2 p (.dT [(ks, w)])) := Ext.write rfl (by rw [ep]; trivial)
    have g3 := g2.elsewhere (p := p) (o := .dT [(ks, w)]) (fun z => z.2 rfl) nw ep trivial
    have ext : Ext (Wr own σ) H (upd H2 p (.dT [(ks, w)])) := Ext.join (Ext.refl _ H) (((Ext.new hp).trans ((e1.trans e2).weak fun b w => .inl w)).trans (ex.weak fun b e => .inr (e ▸ hp)))
    have kt : KtA X.K (fun b => P b ∧ b ≠ p) (upd H2 p (.dT [(ks, w)])) [(ks, w)] [(.tuple (ks.map keyD), y)] := .cons (r2.ext ex fun b e z => z.2 e) .nil
    rw [← ed] at kt
    exact q p _ hp (g3.weak (fun b z => z.1) g.nw) g3 ext (.dtt upd_same kt)
  | _ => cases hf⟩
def sDPT (k : Nat) (fv fi : FE) : FS := fun s => (fv s).bind fun r => (eDt k r.2).bind fun _ => (fi r.2).bind fun j => (eDt k j.2).bind fun kvs => match j.1 with
  | .tuple ds => (keysD ds).bind fun _ => if kvs.length < 1000000 then some (.nx (j.2.set k (some (.dict ((.none, .none) :: putT kvs (.tuple ds) r.1))))) else none
  | _ => none
theorem ms_dputT {st : Stmt} {k : Nat} {fi : FE} (hk : k ∈ own) (hp : PS X st (sDPut (tVar k) (tN X.K own fi) (tE X.K own fv))) : MS X own io fr st (sDPT k fv fi) := ⟨PS_imp hp fun D σ H q => by
  obtain ⟨P, σd, o, g, hf, q⟩ := q
  unfold sDPT at hf
  obtain ⟨⟨d, s1⟩, h1, hf⟩ := Option.bind_eq_some_iff.mp hf
  obtain ⟨r0, h0, hf⟩ := Option.bind_eq_some_iff.mp hf
  obtain ⟨⟨kd, s2⟩, h2, hf⟩ := Option.bind_eq_some_iff.mp hf
  obtain ⟨r1, h3, hf⟩ := Option.bind_eq_some_iff.mp hf
  cases kd with
  | tuple ds =>
    dsimp only at hf
    obtain ⟨ks, h4, hf⟩ := Option.bind_eq_some_iff.mp hf
    split at hf
    · rename_i hl
      cases hf
      refine tE_of g h1 fun v H1 g1 e1 rv => ?_
      obtain ⟨a, kvs0, ea, _, _, _⟩ := g1.own_dT hk h0
      refine ⟨.ref a, ea, P, s1, ds, s2, g1, h2, fun b H2 xs g2 e2 cb rb => ?_⟩
      obtain ⟨a', kvs, ea', c, ka, nP⟩ := g2.own_dT hk h3
      rw [ea] at ea'
      cases ea'
      obtain ⟨rfl, ed⟩ := keysD_rp h4 rb
      refine ⟨a, _, rfl, DPut.t c cb (by rw [ka.len]; exact lineL hl), ?_⟩
      have ex : Ext (fun b => b = a) H2 (upd H2 a (.dT (putK kvs ks v))) := Ext.write rfl (by rw [c]; trivial)
      have kt := (ka.put ks (rv.ext e2 g1.nw)).ext ex fun b e => e ▸ nP
      rw [← ed] at kt
      exact q P σ _ (g2.put hk ea (.dtt upd_same kt)) Sub.refl ((Stp.of (e1.trans e2)).trans (stp_put hk ea (by rw [c]; trivial)))
    · cases hf
  | _ => cases hf⟩
/-! list(d), sorted(d) -/
def eKeysT (k : Nat) : FE := fun s => (eDt k s).map fun r => (.list (r.map fun x => wkD x.1), s)
theorem f_listT {x : Str} {p p2 : Pos} {k : Nat} (hc : X.calm = true) (m : X.mg "list" = none) (hx : PE X (.Name x p2) (tVar k)) (hk : k ∈ own := by decide) (hg : Gl X "list" := by rfl) (hse : starEach [.Name x p2] X.env = (false, eval (.Name x p2) X.env) :: starEach [] X.env := by rfl) (hpl : (backTo pos (starEach [] X.env)).any (·.1) = false := by rfl) : MF X own (.Call (.Name "list" p) [.Name x p2] [] pos) (eKeysT k) :=
  ⟨PE_imp (pe_callTy (call_list_dT hc) hg m (by decide +kernel) (pa_cons hx pa_nil hse) (by decide) (by decide) hse hpl) fun σ H Q q => by
    obtain ⟨P, σd, d, σd', g, hf, q⟩ := q
    unfold eKeysT at hf
    obtain ⟨r, h1, hf⟩ := Option.map_eq_some_iff.mp hf
    cases hf
    obtain ⟨a, kvs, ea, c, ka, nP⟩ := g.own_dT hk h1
    exact ⟨_, ea, a, kvs, rfl, .inl c, fun p bs hp ik => q p _ hp (g.same (same_new hp)) (g.off hp) (Ext.new hp) (.lst upd_same (((ka.keys ik).off hp).new hp))⟩⟩
def leR (a b : List Int) : Bool := decide (a ≤ b)
def eSortT (k : Nat) : FE := fun s => (eDt k s).bind fun r => (rowsD (r.map (·.1))).bind fun rs => if rs.length ≤ 1 ∨ ∀ r ∈ rs, r ≠ [] then some (.list ((rs.mergeSort leR).map fun r => wk (r.map .int)), s) else none
theorem f_sortT {x : Str} {p p2 : Pos} {k : Nat} (hc : X.calm = true) (hu : X.A.units + 100 < cLine) (m : X.mg "sorted" = none) (hx : PE X (.Name x p2) (tVar k)) (hk : k ∈ own := by decide) (hg : Gl X "sorted" := by rfl) (hse : starEach [.Name x p2] X.env = (false, eval (.Name x p2) X.env) :: starEach [] X.env := by rfl) (hpl : (backTo pos (starEach [] X.env)).any (·.1) = false := by rfl) : MF X own (.Call (.Name "sorted" p) [.Name x p2] [] pos) (eSortT k) :=
  ⟨PE_imp (pe_callB (cr_sortDT hc hu) hg m (by decide +kernel) (pa_cons hx pa_nil hse) (by decide) (by decide) hse hpl) fun σ H Q q => by
    obtain ⟨P, σd, d, σd', g, hf, q⟩ := q
    unfold eSortT at hf
    obtain ⟨r, h1, hf⟩ := Option.bind_eq_some_iff.mp hf
    obtain ⟨rs, h2, hf⟩ := Option.bind_eq_some_iff.mp hf
    split at hf
    · rename_i hne
      cases hf
      obtain ⟨a, kvs, ea, c, ka, nP⟩ := g.own_dT hk h1
      exact ⟨_, ea, a, kvs, rs, rfl, .inl c, ka.rows h2, hne, fun p bs hp pb => q p _ hp (g.same (same_new hp)) (g.off hp) (Ext.new hp) (.lst upd_same (((rows_back pb).off hp).new hp))⟩
    · cases hf⟩
end
end Mi
set_option Elab.async false
set_option linter.all false
set_option maxRecDepth 100000
namespace Mi
open PySem PySem.Spec PyProof.Rows L2
/-! ### == of texts -/
def dEqS : D → D → Option D
  | .str a, .str b => some (.bool (decide (a = b)))
  | _, _ => none
theorem od_eqS {K : PySem.W.Frag} : OpD K rEq dEqS := fun P x y a b c H Q f rx ry e q => by
  unfold dEqS at e
  split at e
  · cases e
    cases rx with
    | rp rx =>
      cases ry with
      | rp ry =>
        cases rx
        cases ry
        rename_i u v
        have e : decide (V.str u = V.str v) = decide (u = v) := by
          by_cases z : u = v
          · subst z; simp
          · simp [z]
        refine ⟨rfl, ?_⟩
        rw [e]
        exact q _ H (Same.refl H) (.bl _)
  · cases e
section
variable {X : Cx} {own : List Nat} {pos : Pos} {a b : Expr} {fa fb : FE}
theorem v_eqS (ha : ME X own a fa) (hb : ME X own b fb) : ME X own (.Compare a [.Eq] [b] pos) (eBin dEqS fa fb) := me_cmp op_eq od_eqS ha hb.b (nomark _)
end
end Mi
set_option Elab.async false
set_option linter.all false
set_option maxRecDepth 100000
namespace Mi
open PySem PySem.Spec PyProof.Rows L2

section
variable {X : Cx} {own io : List Nat} {fr : Bool} {pos : Pos} {a b : Expr} {fa fb : FE}
/-! ### sum of a list of ints -/
def cSum : D → Option D
  | .list ds => (wholesOf ds).map fun ns => .int ns.sum
  | _ => none
theorem cd_sum {K : PySem.W.Frag} : CallD K (rSum K) cSum := fun P x a c H Q f rx e q => by
  cases a with
  | list ds =>
    unfold cSum at e
    obtain ⟨ns, h1, e⟩ := Option.map_eq_some_iff.mp e
    subst e
    obtain ⟨p, xs, rfl, s, r⟩ := rx.list
    obtain ⟨rfl, _⟩ := wholes_rp h1 r
    exact ⟨p, ns, rfl, s, q _ H (Same.refl H) (.int _)⟩
  | _ => cases e
theorem b_sum {p : Pos} (hc : X.calm = true) (m : X.mg "sum" = none) (he : MB X own a fa) (hg : Gl X "sum" := by rfl) (hse : starEach [a] X.env = (false, eval a X.env) :: starEach [] X.env := by rfl) (hpl : (backTo pos (starEach [] X.env)).any (·.1) = false := by rfl) : ME X own (.Call (.Name "sum" p) [a] [] pos) (eCall1 cSum fa) :=
  me_callB1 (cr_sum hc) cd_sum hg m (by decide +kernel) he (by decide) (by decide) hse hpl
/-! ### an int among ints -/
def intsOf : D → Option (List Int)
  | .list ds => wholesOf ds
  | .tuple ds => wholesOf ds
  | _ => none
theorem ints_seq {K : PySem.W.Frag} {P : Addr → Prop} {H : Hp} {v : V} {d : D} {ns : List Int} (h : intsOf d = some ns) (r : Bo K P H v d) : ∃ p, v = .ref p ∧ (SqL K H p (ns.map V.int) ∨ SqT K H p (ns.map V.int)) := by
  cases d with
  | list ds =>
    obtain ⟨p, xs, rfl, s, r⟩ := r.list
    obtain ⟨rfl, _⟩ := wholes_rp (show wholesOf ds = some ns from h) r
    exact ⟨p, rfl, .inl s⟩
  | tuple ds =>
    obtain ⟨p, xs, rfl, s, r⟩ := r.tuple
    obtain ⟨rfl, _⟩ := wholes_rp (show wholesOf ds = some ns from h) r
    exact ⟨p, rfl, .inr s⟩
  | _ => cases h
def dInI (neg : Bool) : D → D → Option D
  | .int i, d => (intsOf d).map fun ns => .bool (if neg then !decide (i ∈ ns) else decide (i ∈ ns))
  | _, _ => none
theorem inV_ints (i : Int) : ∀ ns : List Int, inV (.int i) (ns.map V.int) = decide (i ∈ ns)
  | [] => rfl
  | n :: ns => by
    have ih := inV_ints i ns
    unfold inV at ih ⊢
    rw [List.map_cons, List.any_cons, ih]
    show ((n == i) || decide (i ∈ ns)) = _
    by_cases e : n = i
    · subst e
      simp
    · rw [beq_eq_false_iff_ne.mpr e, Bool.false_or]
      have : (i ∈ n :: ns) ↔ i ∈ ns := by
        rw [List.mem_cons]
        exact ⟨fun h => h.elim (fun z => absurd z.symm e) id, .inr⟩
      exact decide_eq_decide.mpr this.symm
theorem flat_ints (ns : List Int) : (ns.map V.int).all flatV = true := by
  rw [List.all_map]
  exact List.all_eq_true.mpr fun _ _ => rfl
theorem od_inI {K : PySem.W.Frag} {neg : Bool} : OpD K (rIn K neg) (dInI neg) := fun P x y a b c H Q f rx ry e q => by
  cases a with
  | int i =>
    unfold dInI at e
    obtain ⟨ns, h1, e⟩ := Option.map_eq_some_iff.mp e
    subst e
    obtain rfl := rx.int
    obtain ⟨p, rfl, s⟩ := ints_seq h1 ry
    refine ⟨p, _, rfl, s, rfl, flat_ints ns, ?_⟩
    rw [inV_ints]
    exact q _ H (Same.refl H) (.bl _)
  | _ => cases e
theorem c_inI (ha : ME X own a fa) (hb : MB X own b fb) (hm : behindInMarks .In b = false := by rfl) : MT X own (.Compare a [.In] [b] pos) (eTst (eBin (dInI false) fa fb)) := mt_cmp op_in_seq od_inI ha hb hm
theorem c_ninI (ha : ME X own a fa) (hb : MB X own b fb) (hm : behindInMarks .NotIn b = false := by rfl) : MT X own (.Compare a [.NotIn] [b] pos) (eTst (eBin (dInI true) fa fb)) := mt_cmp op_notIn_seq od_inI ha hb hm
theorem v_inI (ha : ME X own a fa) (hb : MB X own b fb) (hm : behindInMarks .In b = false := by rfl) : ME X own (.Compare a [.In] [b] pos) (eBin (dInI false) fa fb) := me_cmp op_in_seq od_inI ha hb hm
theorem v_ninI (ha : ME X own a fa) (hb : MB X own b fb) (hm : behindInMarks .NotIn b = false := by rfl) : ME X own (.Compare a [.NotIn] [b] pos) (eBin (dInI true) fa fb) := me_cmp op_notIn_seq od_inI ha hb hm
/-! ### is None, is not None -/
def noneD : D → Bool
  | .none => true
  | _ => false
def dIsN (neg : Bool) : D → D → Option D
  | a, .none => some (.bool (if neg then !noneD a else noneD a))
  | _, _ => none
theorem none_rp {K : PySem.W.Frag} {P : Addr → Prop} {H : Hp} {v : V} {d : D} (r : Bo K P H v d) : decide (v = .non) = noneD d := by
  cases r with
  | rp r => cases r <;> first | rfl | exact decide_eq_false fun z => nomatch z
  | ow s r => exact decide_eq_false fun z => nomatch z
theorem od_isN {K : PySem.W.Frag} : OpD K (fun x y H Q => y = .non ∧ Q (.bl (decide (x = .non))) H) (dIsN false) := fun P x y a b c H Q f rx ry e q => by
  cases b with
  | none =>
    cases e
    refine ⟨by cases ry with | rp r => cases r; rfl, ?_⟩
    rw [none_rp rx]
    exact q _ H (Same.refl H) (.bl _)
  | _ => cases e
theorem od_notN {K : PySem.W.Frag} : OpD K (fun x y H Q => y = .non ∧ Q (.bl (!decide (x = .non))) H) (dIsN true) := fun P x y a b c H Q f rx ry e q => by
  cases b with
  | none =>
    cases e
    refine ⟨by cases ry with | rp r => cases r; rfl, ?_⟩
    rw [none_rp rx]
    exact q _ H (Same.refl H) (.bl _)
  | _ => cases e
theorem c_isN (ha : ME X own a fa) (hb : ME X own b fb) (hm : behindInMarks .Is b = false := by rfl) : MT X own (.Compare a [.Is] [b] pos) (eTst (eBin (dIsN false) fa fb)) := mt_cmp op_isN od_isN ha hb.b hm
theorem c_notN (ha : ME X own a fa) (hb : ME X own b fb) (hm : behindInMarks .IsNot b = false := by rfl) : MT X own (.Compare a [.IsNot] [b] pos) (eTst (eBin (dIsN true) fa fb)) := mt_cmp op_notN od_notN ha hb.b hm
theorem v_isN (ha : ME X own a fa) (hb : ME X own b fb) (hm : behindInMarks .Is b = false := by rfl) : ME X own (.Compare a [.Is] [b] pos) (eBin (dIsN false) fa fb) := me_cmp op_isN od_isN ha hb.b hm
theorem v_notN (ha : ME X own a fa) (hb : ME X own b fb) (hm : behindInMarks .IsNot b = false := by rfl) : ME X own (.Compare a [.IsNot] [b] pos) (eBin (dIsN true) fa fb) := me_cmp op_notN od_notN ha hb.b hm
/-! ### t.index(i) of a tuple of ints -/
def rIdxT (K : PySem.W.Frag) : V → List V → Hp → VK → Prop := fun x xs H Q => ∃ (p : Addr) (ns : List Int) (k : Int), x = .ref p ∧ xs = [.int k] ∧ SqT K H p (ns.map V.int) ∧ k ∈ ns ∧ Q (.int (ns.idxOf k : Nat)) H
theorem mt_idxT : MtR X "tuple.index" (rIdxT X.K) := by
  intro pins s σ H x xs v us Q I rx rs h
  obtain ⟨p, ns, k, rfl, rfl, hq, hk, q⟩ := h
  cases rx
  obtain ⟨u, rfl, t, rfl⟩ := vals1 rs
  obtain ⟨its, r, pl, hz⟩ := I.tuple hq
  exact PySem.SeqAt.tuple_index_ints pl (by simpa using r.ints) hk ⟨.int (ns.idxOf k : Nat), H, I.tok _, ⟨_, rfl⟩, q⟩
/-- a tuple that is known to have no dict of its own -/
def tyT (x : V) (H : Hp) : Prop := ∃ a xs, x = .ref a ∧ TupH H a xs
theorem ty_tup : TyOk X "tuple" tyT := fun pins σ H s x v I r ⟨a, xs, ex, o, ho, hd⟩ => by
  subst ex
  cases r
  obtain ⟨g, z, its, _, ⟨o', g', c, _⟩⟩ := I.hok a _ ho
  refine ⟨⟨o', g', c⟩, fun b e => ?_⟩
  cases e
  exact ⟨o, g, hd⟩
def dIdx : D → D → Option D
  | .tuple ds, .int k => (wholesOf ds).bind fun ns => if k ∈ ns then some (.int (ns.idxOf k : Nat)) else none
  | _, _ => none
theorem me_idxT {o e : Expr} {fo fe : FE} {apos : Pos} (ho : ME X own o fo) (he : ME X own e fe)
    (hp : PE X o (tE X.K own fo) → PA X [e] (tCons (tE X.K own fe) tNil) → PE X (.Call (.Attribute o "index" apos) [e] [] pos) (tMG tyT (rIdxT X.K) (tE X.K own fo) (tCons (tE X.K own fe) tNil))) (hse : starEach [e] X.env = (false, eval e X.env) :: starEach [] X.env := by rfl) :
    ME X own (.Call (.Attribute o "index" apos) [e] [] pos) (eBin dIdx fo fe) := ⟨PE_imp (hp ho.pe (pa_cons he.pe pa_nil hse)) fun σ H Q q => by
  obtain ⟨P, σd, d, σd', gd, hf, q⟩ := q
  obtain ⟨x, s1, y, h1, h2, h3⟩ := eBin_of hf
  unfold dIdx at h3
  split at h3
  · rename_i ds k
    obtain ⟨ns, h4, h3⟩ := Option.bind_eq_some_iff.mp h3
    split at h3
    · rename_i hk
      cases h3
      refine tE_of gd h1 fun v H1 g1 e1 r1 => ?_
      cases r1 with
      | @tup a xs _ s r =>
        refine ⟨⟨a, xs, rfl, s⟩, tE_of g1 h2 fun w H2 g2 e2 r2 => ?_⟩
        cases r2
        obtain ⟨rfl, _⟩ := wholes_rp h4 r
        exact ⟨a, ns, k, rfl, rfl, (tupH_ext e2 s).sq, hk, q _ H2 g2 (e1.trans e2) (.int _)⟩
    · cases h3
  · cases h3⟩
/-! ### three names -/
def sPar3 (i j l : Nat) (f g h : FE) : FS := fun s => (f s).bind fun a => (g a.2).bind fun b => (h b.2).map fun c => .nx (((c.2.set i (some a.1)).set j (some b.1)).set l (some c.1))
theorem ms_par3 {i j l : Nat} {a b c : Expr} {st : Stmt} {f g h : FE} (ha : ME X own a f) (hb : ME X own b g) (hcc : ME X own c h) (hp : PA X [a, b, c] (tCons (tE X.K own f) (tCons (tE X.K own g) (tCons (tE X.K own h) tNil))) → PS X st (tPar3 i j l (tCons (tE X.K own f) (tCons (tE X.K own g) (tCons (tE X.K own h) tNil)))))
    (hi : i ∉ own := by decide) (hj : j ∉ own := by decide) (hl : l ∉ own := by decide) (hio : i ∉ io := by decide) (hjo : j ∉ io := by decide) (hlo : l ∉ io := by decide) (hs : starEach [a, b, c] X.env = (false, eval a X.env) :: starEach [b, c] X.env := by rfl) (hs2 : starEach [b, c] X.env = (false, eval b X.env) :: starEach [c] X.env := by rfl) (hs3 : starEach [c] X.env = (false, eval c X.env) :: starEach [] X.env := by rfl) : MS X own io fr st (sPar3 i j l f g h) :=
  ⟨PS_imp (hp (pa_cons ha.pe (pa_cons hb.pe (pa_cons hcc.pe pa_nil hs3) hs2) hs)) fun D σ H q => by
    obtain ⟨P, σd, o, gd, hf, q⟩ := q
    unfold sPar3 at hf
    obtain ⟨⟨d1, s1⟩, h1, hf⟩ := Option.bind_eq_some_iff.mp hf
    obtain ⟨⟨d2, s2⟩, h2, hf⟩ := Option.bind_eq_some_iff.mp hf
    obtain ⟨⟨d3, s3⟩, h3, hf⟩ := Option.map_eq_some_iff.mp hf
    cases hf
    refine tE_of gd h1 fun v H1 g1 e1 r1 => tE_of g1 h2 fun w H2 g2 e2 r2 => tE_of g2 h3 fun u H3 g3 e3 r3 => ⟨v, w, u, rfl, ?_⟩
    have ne : ∀ k, k ∈ own → i ≠ k ∧ j ≠ k ∧ l ≠ k := fun k hk => ⟨fun e => hi (by rw [e]; exact hk), fun e => hj (by rw [e]; exact hk), fun e => hl (by rw [e]; exact hk)⟩
    have nf : ∀ k, k ∈ io → i ≠ k ∧ j ≠ k ∧ l ≠ k := fun k hk => ⟨fun e => hio (by rw [e]; exact hk), fun e => hjo (by rw [e]; exact hk), fun e => hlo (by rw [e]; exact hk)⟩
    exact q P _ H3 (((g3.set hi ((r1.ext e2 g1.nw).ext e3 g2.nw)).set hj (r2.ext e3 g2.nw)).set hl r3) Sub.refl ⟨(e1.trans e2).trans e3, fun b w => .inl (Wr.same (fun k hk => by rw [List.getElem?_set_ne (ne k hk).2.2, List.getElem?_set_ne (ne k hk).2.1, List.getElem?_set_ne (ne k hk).1]) w), fun k hk => by rw [List.getElem?_set_ne (nf k hk).2.2, List.getElem?_set_ne (nf k hk).2.1, List.getElem?_set_ne (nf k hk).1]⟩⟩
end
end Mi
set_option Elab.async false
set_option linter.all false
set_option maxRecDepth 100000
set_option maxHeartbeats 4000000
namespace Mi
open PySem PySem.Spec PyProof.Rows L2

/-! ### enumerate(t) of a tuple -/
theorem meets_enumT {v : Value} {o : Obj} {H : Heap → Prop} (B : Begins v o H) :
    Meets (Builtin.«enumerate.__new__» ⟨[.type "enumerate", v], []⟩) (fun _ R s => H s.heap ∧
      R (.ok (.ret (.ref (s.heap.push o).objs.size))) { s with heap := (s.heap.push o).push { cls := .type "enumerate", data := .fields #[.none, .bool false, .ref s.heap.objs.size, rawInt 0, .none, .none] } }) :=
  .of_wp fun prog w A R s h => by
    obtain ⟨hp, g, d, tk, os⟩ := s
    obtain ⟨h1, h⟩ := h
    have hsub := sub_enumerate
    have src : ∀ {A' : Around} {E : Value → Shared → Prop} {Q : Value → Shared → Prop}, Q (.ref hp.objs.size) ⟨hp.push o, g, d, tk, os⟩ → wpAny (model prog w) A' (pyIter v) Q E ⟨hp, g, d, tk, os⟩ :=
      fun q => B.iter prog w _ _ ⟨hp, g, d, tk, os⟩ _ h1 q
    wp_walk using src
    refine wpAny_stack_any fun stack => ?_
    refine wpAny_pure ?_
    split
    · rename_i c _ _ _ _ _
      generalize (c == Value.type "enumerate") = short
      cases short <;> (wp_walk using src; exact ⟨_, rfl, h⟩)
    · wp_walk using src
      exact ⟨_, rfl, h⟩
section
variable {prog : Program} {w : World} {A : Around} {E : Value → Shared → Prop} {s : Shared}
theorem call_enumT {v : Value} {o : Obj} {H : Heap → Prop} {Q : Value → Shared → Prop} (B : Begins v o H) (h1 : H s.heap)
    (h : ∀ h', IsEnum h' (s.heap.objs.size + 1) s.heap.objs.size 0 .none → h'.get? s.heap.objs.size = some o → (∀ b u, s.heap.get? b = some u → h'.get? b = some u) → Q (.ref (s.heap.objs.size + 1)) { s with heap := h' }) :
    wpAny (model prog w) A (call (.type "enumerate") [v]) Q E s := by
  have tc : checkTypeCall "enumerate" ⟨[v], []⟩ = pure () := by kernel_rfl
  have nc : checkBuiltinCall "enumerate.__new__" ⟨[.type "enumerate", v], []⟩ = pure () := by kernel_rfl
  refine callType_new F.called_enumerate (by decide) tc nc (fun obj => F.args_object_init_2 obj _) F.entry_enumerate_new (meets_enumT B) ⟨h1, ?_⟩
  have hz : (s.heap.push o).objs.size = s.heap.objs.size + 1 := Heap.size_push ..
  show _ ∧ _
  rw [hz]
  have he : IsEnum ((s.heap.push o).push { cls := .type "enumerate", data := .fields #[.none, .bool false, .ref s.heap.objs.size, rawInt 0, .none, .none] }) (s.heap.objs.size + 1) s.heap.objs.size 0 .none := by
    have q := Heap.get?_push_size (s.heap.push o) (o := { cls := .type "enumerate", data := .fields #[.none, .bool false, .ref s.heap.objs.size, rawInt 0, .none, .none] }) rfl
    rw [hz] at q
    exact q
  exact ⟨⟨_, he, rfl⟩, h _ he (Heap.get?_push_of_some _ (Heap.get?_push_size _ B.free)) fun b u q => Heap.get?_push_of_some _ (Heap.get?_push_of_some _ q)⟩
end
theorem two_fit : 2 ≤ sizeLine := by rw [sizeLine_eq]; decide
/-- the tuple at a, each item in a new pair with its number -/
def IteT (K : PySem.W.Frag) (a : Addr) : It :=
  ⟨fun i H => ∃ (xs : List V) (x : V), SqT K H a xs ∧ xs[i]? = some x, fun i H v H' => ∃ T x, v = .ref T ∧ H T = none ∧ H' = upd H T (.tup [.int (i : Nat), x]) ∧ ∀ xs, SqT K H a xs → xs[i]? = some x, fun i H => ∃ xs : List V, SqT K H a xs ∧ xs.length ≤ i⟩
theorem turn_enumT {P : Program} {w : World} {K : PySem.W.Frag} {elts : List Expr} {kk : Nat} {tpos : Pos} (a e it : Addr) :
    Turn P w K (.Tuple elts kk tpos) (IteT K a) [e, it] e (fun i h => (∃ old, IsEnum h e it ((i : Nat) : Int) old) ∧ h.IsTupleIter it a i ∧ e ≠ it ∧ e ≠ a ∧ it ≠ a) where
  mem := by simp
  obj := fun i h st b hb => by
    obtain ⟨⟨old, he⟩, ⟨o, ho, hc, hd⟩, _⟩ := st
    rcases (show b = e ∨ b = it by simpa using hb) with z | z
    · subst z
      exact ⟨_, he, fun v q => nomatch q⟩
    · subst z
      exact ⟨o, ho, fun v q => by rw [hd] at q; cases q⟩
  keep := fun i h h' st k => by
    obtain ⟨⟨old, he⟩, hi, n1, n2, n3⟩ := st
    exact ⟨⟨old, k e (by simp) _ he⟩, hi.at fun o q => k it (by simp) o q, n1, n2, n3⟩
  item := by
    intro X hP hw hK hc i pins s σ H E I hf st hg
    subst hP hw hK
    obtain ⟨⟨old, he⟩, hit, n1, n2, n3⟩ := st
    obtain ⟨xs, x, hq, hx⟩ := hg
    obtain ⟨its, rv, p, hz⟩ := I.tuple hq
    obtain ⟨u, hu, ru⟩ := rv.get hx
    have le : e < s.heap.objs.size := Heap.lt_size he
    have li : it < s.heap.objs.size := by
      obtain ⟨_, q, _⟩ := hit
      exact Heap.lt_size q
    have dr := Draws.tuple (prog := X.prog) (w := X.w) (A := X.A.in1) (I.ok.hd hc) it a (Ne.symm n3) its.toArray
    have small : i < its.toArray.size := by
      have := (List.getElem?_eq_some_iff.mp hu).1
      simpa using this
    refine wpAny_pyNext_enum_itemD dr he ⟨hit, p⟩ small n1 (by simp [n1, n2]) fun y h1 tk hy ho hst hT hsz hk => ?_
    have ey : y = u := by
      have hu2 : its.toArray[i]? = some u := by simpa using hu
      have hy2 : its.toArray[i]? = some y := hy
      rw [hu2] at hy2
      exact (Option.some.inj hy2).symm
    subst ey
    refine ⟨_, rfl, wpAny_letOwnedTupleGo_enum (s := { s with heap := h1, toks := tk + 1 }) ho fun h2 he2 sb => ?_⟩
    have hT2 : h2.get? s.heap.objs.size = some { cls := .type "tuple", data := .seq #[.int i tk, y] } := (sb.2 _ (Nat.ne_of_gt le)).trans hT
    have new : ObjOk X.prog X.w (upd H s.heap.objs.size (.tup [.int (i : Nat), x])) h2 s.heap.objs.size (.tup [.int (i : Nat), x]) := ⟨two_fit, [.int i tk, y], .cons ⟨_, rfl⟩ (.cons ru .nil), ⟨_, hT2, rfl, _, rfl⟩⟩
    have kp : ∀ b ob, b ∉ [e, it] → s.heap.get? b = some ob → h2.get? b = some ob := fun b ob hb q => by
      have b1 : b ≠ e := fun z => hb (by simp [z])
      have b2 : b ≠ it := fun z => hb (by simp [z])
      exact (sb.2 b b1).trans (hk b ob b1 b2 q)
    have I1 : Inv X pins σ (upd H s.heap.objs.size (.tup [.int (i : Nat), x])) { s with heap := h2, toks := tk + 1 } := I.turnedNew (ch := [e, it]) kp hf (Nat.le_refl _) new
    refine ⟨.ref s.heap.objs.size, _, I1, rfl, ⟨_, x, rfl, I.hok.fresh (Nat.le_refl _), rfl, fun ys hy => by rw [I.tuple_inj hy hq]; exact hx⟩, ⟨⟨y, ?_⟩, hst.1.at fun o q => (sb.2 it (Ne.symm n1)).trans q, n1, n2, n3⟩, fun b hb => ?_⟩
    · have ei : ((i + 1 : Nat) : Int) = (i : Int) + 1 := by omega
      rw [ei]
      exact he2
    · have lb : b < s.heap.objs.size := by
        rcases (show b = e ∨ b = it by simpa using hb) with z | z
        · rw [z]; exact le
        · rw [z]; exact li
      rw [upd_ne (Nat.ne_of_lt lb)]
      exact (hf b hb).1
  done := by
    intro X hP hw hK hc i pins s σ H E I hf st hg
    subst hP hw hK
    obtain ⟨⟨old, he⟩, hit, n1, n2, n3⟩ := st
    obtain ⟨xs, hq, hx⟩ := hg
    obtain ⟨its, rv, p, hz⟩ := I.tuple hq
    obtain ⟨f0, f1, f2, f3, f4, f5⟩ := hf it (by simp)
    have hl := rv.length
    have none_ : its.toArray[i]? = none := by
      rw [Array.getElem?_eq_none_iff]
      simp
      omega
    have ty : s.TypeIs (.ref e) "enumerate" := ⟨_, he, rfl⟩
    unfold pyNext
    refine wpAny_bind (wpAny_attempt (wpAny_callSpecial?_slot (name := Str.ofString "__next__") ty F.slot_enumerate_next (wpAny_call_entry F.slot_enumerate_next ty F.entry_enumerate_next ?_ (F.args_enumerate_next_1 _))))
    show wpAny (model X.prog X.w) _ (field (.ref e) 2 >>= _) _ _ s
    refine wpAny_bind (wpAny_field he rfl (x := .ref it) rfl (wpAny_bind (wpAny_nextOf_tuple_end (I.ok.hd hc) hit p none_ fun h1 ex eb ⟨o, ho, hcls⟩ => ?_)))
    refine wpAny_bind (wpAny_isInstance (T := "StopIteration") (b := true) ⟨o, ho, hcls⟩ isSubtype_stop (wpAny_pure ?_))
    exact ⟨rfl, I.turned (t' := s.toks) (fun b o hb q => eb b o hb q) f0 f1 f3 f4 f5⟩
  self := fun A i s Q E st h => by
    obtain ⟨⟨_, he⟩, _⟩ := st
    exact wpAny_pyIter_enum he h
def iEnumT (K : PySem.W.Frag) (ta : TA) : TI := fun σ H R => ta σ H fun vs H1 => ∃ a xs, vs = [.ref a] ∧ SqT K H1 a xs ∧ R (IteT K a) H1
theorem pi_enumT {X : Cx} {e : Expr} {ta : TA} {p pos tpos : Pos} {elts : List Expr} {kk : Nat} (hg : Gl X "enumerate") (hm : X.mg "enumerate" = none) (ha : PA X [e] ta) (hs : starEach [e] X.env = [(false, eval e X.env)] := by rfl) :
    PI X (.Tuple elts kk tpos) (.Call (.Name "enumerate" p) [e] [] pos) (iEnumT X.K ta) := by
  refine ⟨fun pins s σ H R I h => Call_ (ld_blt I hg hm boot_enumerate (PyProof.Rows.callWith_type1 (thn (ha.run pos pins s σ H _ I h) fun us s1 ⟨vs, H1, I1, r1, a, xs, ex, hq, q⟩ => ?_) hs rfl))⟩
  subst ex
  obtain ⟨u, eu, ru⟩ := vals1 r1
  subst eu
  cases ru
  obtain ⟨its, rv, p', hz⟩ := I1.tuple hq
  have la : a < s1.heap.objs.size := by
    obtain ⟨o, ho, _⟩ := p'
    exact Heap.lt_size ho
  refine call_enumT (begins_tuple a its.toArray) p' fun h2 he hit hk => wpAny_pyIter_enum he ?_
  have I2 : Inv X pins σ H1 { s1 with heap := h2 } := I1.kept (t' := s1.toks) hk
  refine ⟨s1.heap.objs.size + 1, [s1.heap.objs.size + 1, s1.heap.objs.size], _, _, H1, rfl, I2, turn_enumT a (s1.heap.objs.size + 1) s1.heap.objs.size, ⟨⟨.none, he⟩, ⟨_, hit, rfl, rfl⟩, Nat.succ_ne_self _, Nat.ne_of_gt (Nat.lt_succ_of_lt la), Nat.ne_of_gt la⟩, fun b hb => ?_, q⟩
  have le : s1.heap.objs.size ≤ b := by
    rcases (show b = s1.heap.objs.size + 1 ∨ b = s1.heap.objs.size by simpa using hb) with z | z
    · rw [z]; exact Nat.le_succ _
    · rw [z]; exact Nat.le_refl _
  exact I1.fpOk le (I1.hok.fresh le)
theorem walk_enumT {K : PySem.W.Frag} {a : Addr} {xs : List V} : Walk (IteT K a) xs.length (fun H => SqT K H a xs) (YPair (fun i => some (.int (i : Nat))) (fun i => xs[i]?)) := by
  constructor
  · exact fun i _ hi q => ⟨xs, xs[i], q, List.getElem?_eq_getElem hi⟩
  · exact fun _ q => ⟨xs, q, Nat.le_refl _⟩
  intro i H v H2 _ q y
  obtain ⟨T, x, h1, h2, h3, h4⟩ := y
  exact ⟨T, .int (i : Nat), x, h1, h2, h3, rfl, h4 xs q⟩
section
variable {X : Cx} {own : List Nat} {pos tpos : Pos} {elts : List Expr} {kk : Nat}
def iEnT (f : FE) : FA := fun s => (f s).bind fun a => (tupD a.1).map fun xs => (enD 0 xs, a.2)
theorem mi_enumT {p : Pos} {e : Expr} {f : FE} (h : ME X own e f) (hpi : ∀ {t : TA}, PA X [e] t → PI X (.Tuple elts kk tpos) (.Call (.Name "enumerate" p) [e] [] pos) (iEnumT X.K t)) (hse : starEach [e] X.env = (false, eval e X.env) :: starEach [] X.env := by rfl) :
    MI X own (.Tuple elts kk tpos) (.Call (.Name "enumerate" p) [e] [] pos) (iEnT f) := ⟨PI_imp (hpi (PA_sized (pa_cons h.pe pa_nil hse))) fun σ H R q => by
  obtain ⟨P, σd, d, σd', gd, hf, q⟩ := q
  unfold iEnT at hf
  obtain ⟨⟨a, s1⟩, h1, hf⟩ := Option.bind_eq_some_iff.mp hf
  obtain ⟨ds, h2, hf⟩ := Option.map_eq_some_iff.mp hf
  cases hf
  refine tE_of gd h1 fun v H1 g1 e1 r1 => ?_
  intro z
  obtain ⟨b, xs, rfl, sq, r⟩ := tupD_rp h2 r1
  refine ⟨_, _, rfl, sq, q _ H1 (fun H => SqT X.K H b xs ∧ RpA X.K (fun b => P b ∧ H1 b ≠ none) H xs ds) (YPair (fun i => some (.int (i : Nat))) (fun i => xs[i]?)) g1 e1 ⟨?_, ⟨sq, r.trk⟩, fun H3 H4 e g => ⟨sqT_ext e g.1, trk_ext e g.2⟩, fun i H3 x H4 hi g y => ?_, ?_⟩⟩
  · rw [enD_len, ← r.len]
    exact walk_enumT.mono (fun _ g => g.1) fun _ _ _ _ _ _ y => y
  · rw [enD_len] at hi
    have e1 : ds[i]? = some (ds[i]'hi) := List.getElem?_eq_getElem hi
    obtain ⟨sm, q⟩ := pair_item (K := X.K) (P := fun b => P b ∧ H1 b ≠ none) (a := .int (i : Nat)) (b := ds[i]'hi) y (fun v hv => by
      cases hv; exact .int _) (fun v hv => by
      obtain ⟨d, h1, h2⟩ := g.2.get' hv
      rw [e1] at h1; cases h1; exact h2)
    refine ⟨sm, _, enD_get e1, ?_⟩
    rw [Nat.zero_add]
    exact q
  · rw [enD_len, ← r.len]; exact z.2 _ _ sq⟩
end
end Mi
set_option Elab.async false
set_option linter.all false
set_option maxRecDepth 100000
namespace Mi
open PySem PySem.Spec PyProof.Rows L2

section
variable {X : Cx} {own io : List Nat} {fr : Bool} {pos : Pos} {a b : Expr} {fa fb : FE}
/-! ### x.extend(a new list) -/
def sExt (k : Nat) (f : FE) : FS := fun s => (eLi k s).bind fun _ => (f s).bind fun r => (eLi k r.2).bind fun ds => match r.1 with
  | .list es => if ds.length + es.length ≤ 1000000 then some (.nx (r.2.set k (some (.list (ds ++ es))))) else none
  | _ => none
theorem ms_extend {k : Nat} {st : Stmt} {f : FE} (hk : k ∈ own) (hp : PS X st (tDrop (tBM X.K "list" rExtend (tVar k) (tCons (tF X.K own f) tNil)))) : MS X own io fr st (sExt k f) := ⟨PS_imp hp fun D σ H q => by
  obtain ⟨P, σd, o, g, hf, q⟩ := q
  unfold sExt at hf
  obtain ⟨d0, h0, hf⟩ := Option.bind_eq_some_iff.mp hf
  obtain ⟨⟨d, s1⟩, h1, hf⟩ := Option.bind_eq_some_iff.mp hf
  obtain ⟨ds, h2, hf⟩ := Option.bind_eq_some_iff.mp hf
  obtain ⟨a, xs0, ea, c0, _, _⟩ := g.own_list hk h0
  refine ⟨.ref a, ea, .inl ⟨rfl, _, .inl (.inl c0)⟩, ?_⟩
  refine ⟨P, σd, d, s1, g, h1, fun p H1 np g1 g2 e1 ow => ?_⟩
  cases d with
  | list es =>
    dsimp only at hf
    split at hf
    · rename_i hl
      cases hf
      cases ow with
      | @lst ys _ cy ry =>
        obtain ⟨a', xs, ea', c, r, n⟩ := g1.own_list hk h2
        rw [ea] at ea'
        cases ea'
        refine ⟨a, p, xs, ys, rfl, rfl, c, cy, by rw [r.len, ry.len]; exact lineM hl, ?_⟩
        have ex : Ext (fun b => b = a) H1 (upd H1 a (.lst (xs ++ ys))) := Ext.write rfl (by rw [c]; trivial)
        exact q P σ _ (g1.put hk ea (.lst upd_same ((r.append (ry.mono fun b z => z.1)).ext ex fun b e => e ▸ n))) Sub.refl ((Stp.of e1).trans (stp_put hk ea (by rw [c]; trivial)))
    · cases hf
  | _ => cases hf⟩
/-! ### list + list, a new one -/
theorem f_catL (ha : ME X own a fa) (hb : ME X own b fb) : MF X own (.BinOp a .Add b pos) (eBin dCatL fa fb) := ⟨PE_imp (pe_op op_catL ha.pe hb.b.pe) fun σ H Q q => by
  obtain ⟨P, σd, d, σd', g, hf, q⟩ := q
  obtain ⟨x, s1, y, h1, h2, h3⟩ := eBin_of hf
  refine tE_of g h1 fun v H1 g1 e1 r1 => ⟨P, s1, y, σd', g1, h2, fun w H2 g2 e2 r2 => ?_⟩
  unfold dCatL at h3
  split at h3
  · split at h3
    · rename_i hl
      cases h3
      obtain ⟨p, xs, rfl, sx, rx⟩ := (Bo.rp (r1.ext e2 g1.nw)).list
      obtain ⟨p2, ys, rfl, sy, ry⟩ := r2.list
      exact ⟨p, p2, xs, ys, rfl, rfl, sx, sy, by rw [rx.len, ry.len]; exact lineM hl, fun l hn => q l _ ((e1.trans e2).g l hn) (g2.same (same_new hn)) (g2.off hn) ((e1.trans e2).trans (Ext.new hn)) (.lst upd_same (((rx.append ry).off hn).new hn))⟩
    · cases h3
  · cases h3⟩
/-! ### a, b = e, a new list -/
def sParO (i j : Nat) (f g : FE) : FS := fun s => (f s).bind fun a => (g a.2).bind fun b => if j < b.2.length then some (.nx ((b.2.set i (some a.1)).set j (some b.1))) else none
theorem ms_parO {i j : Nat} {st : Stmt} (ha : ME X own a fa) (hb : MF X own b fb) (hp : PA X [a, b] (tCons (tE X.K own fa) (tCons (tF X.K own fb) tNil)) → PS X st (tPar i j (tCons (tE X.K own fa) (tCons (tF X.K own fb) tNil))))
    (hi : i ∉ own := by decide) (hj : j ∈ own := by decide) (hio : i ∉ io := by decide) (hjo : j ∉ io := by decide) (hs : starEach [a, b] X.env = (false, eval a X.env) :: starEach [b] X.env := by rfl) (hs2 : starEach [b] X.env = (false, eval b X.env) :: starEach [] X.env := by rfl) : MS X own io fr st (sParO i j fa fb) :=
  ⟨PS_imp (hp (pa_cons ha.pe (pa_cons hb.pe pa_nil hs2) hs)) fun D σ H q => by
    obtain ⟨P, σd, o, gd, hf, q⟩ := q
    unfold sParO at hf
    obtain ⟨⟨d1, s1⟩, h1, hf⟩ := Option.bind_eq_some_iff.mp hf
    obtain ⟨⟨d2, s2⟩, h2, hf⟩ := Option.bind_eq_some_iff.mp hf
    split at hf
    · rename_i hl
      cases hf
      refine tE_of gd h1 fun v H1 g1 e1 r1 => ⟨P, s1, d2, s2, g1, h2, fun p H2 np g2 g3 e2 ow => ⟨v, .ref p, rfl, ?_⟩⟩
      have nw : ¬ Wr own σ p := fun w => by
        obtain ⟨o, e, _⟩ := g1.wr_there w
        rw [np] at e; cases e
      have r2 : Rp X.K (fun b => P b ∧ b ≠ p) H2 v d1 := (r1.off np).ext e2 fun b w z => g1.nw b w z.1
      have g4 := g3.set hi r2
      have ne : ∀ k, k ∈ own → i ≠ k := fun k hk e => hi (by rw [e]; exact hk)
      have nw2 : ¬ Wr own (σ.set i (some v)) p := fun w => nw (Wr.same (fun k hk => by rw [List.getElem?_set_ne (ne k hk)]) w)
      have g5 := g4.setO hj ow (fun z => z.2 rfl) nw2 (by rw [List.length_set, ← g2.len]; exact hl)
      have np0 : H p = none := e1.g p np
      refine q _ _ H2 g5 ⟨fun b z => z.1, fun b z n => ⟨z, fun e => n (e ▸ np0)⟩⟩ ⟨e1.trans e2, fun b ⟨k, hk, e⟩ => ?_, fun k hk => ?_⟩
      · rcases get_set e with ⟨_, e, _⟩ | ⟨nk, e⟩
        · cases e
          exact .inr np0
        · exact .inl (Wr.same (fun k hk => by rw [List.getElem?_set_ne (ne k hk)]) ⟨k, hk, e⟩)
      · rw [List.getElem?_set_ne (fun e => hjo (by rw [e]; exact hk)), List.getElem?_set_ne (fun e => hio (by rw [e]; exact hk))]
    · cases hf⟩
/-! ### y = x, x given up -/
theorem Gd.move {K : PySem.W.Frag} {P : Addr → Prop} {s : SD} {σ : L2.St} {H : Hp} {i j : Nat} {ds : List D} {a : Addr} {xs : List V} (g : Gd K (i :: own) P s σ H) (hi : i ∉ own) (hj : j ∉ own) (hij : i ≠ j) (ea : σ[i]? = some (some (.ref a))) (c : H a = some (.lst xs)) (r : RpA K P H xs ds) (hl : j < s.length) :
    Gd K own (fun b => P b ∨ b = a) ((s.set i none).set j (some (.list ds))) (σ.set j (some (.ref a))) H := by
  have lσ : j < σ.length := by rw [← g.len]; exact hl
  have na : ∀ k, k ∈ own → σ[k]? ≠ some (some (.ref a)) := fun k hk e => hi (by
    have := g.dj i k a List.mem_cons_self (List.mem_cons_of_mem _ hk) ea e
    rw [this]; exact hk)
  have ne : ∀ k, k ∈ own → i ≠ k ∧ j ≠ k := fun k hk => ⟨fun e => hi (e ▸ hk), fun e => hj (e ▸ hk)⟩
  have mono : ∀ {d : D} {v : V}, Rp K P H v d → Rp K (fun b => P b ∨ b = a) H v d := fun r => r.mono fun b z => .inl z
  refine ⟨by rw [List.length_set, List.length_set, List.length_set]; exact g.len, fun b hb => .inl (g.fresh b hb), fun b ⟨k, hk, e⟩ z => ?_, fun k d hk e => ?_, fun k hk v e => ?_, fun k d hk e => ?_, fun k l b hk hl e1 e2 => ?_⟩
  · rw [List.getElem?_set_ne (ne k hk).2] at e
    rcases z with z | z
    · exact g.nw b ⟨k, List.mem_cons_of_mem _ hk, e⟩ z
    · exact na k hk (by rw [← z]; exact e)
  · rcases get_set e with ⟨rfl, e, _⟩ | ⟨nk, e⟩
    · cases e
      exact ⟨.ref a, List.getElem?_set_self lσ, .lst (.inr rfl) (.inl c) (r.mono fun b z => .inl z)⟩
    · rcases get_set e with ⟨_, e, _⟩ | ⟨nk2, e⟩
      · cases e
      · obtain ⟨v, q1, q2⟩ := g.shr k d (fun z => (List.mem_cons.mp z).elim nk2 hk) e
        exact ⟨v, by rw [List.getElem?_set_ne (Ne.symm nk)]; exact q1, mono q2⟩
  · rw [List.getElem?_set_ne (ne k hk).2] at e
    obtain ⟨b, d, q1, q2, o⟩ := g.ows k (List.mem_cons_of_mem _ hk) v e
    exact ⟨b, d, q1, by rw [List.getElem?_set_ne (ne k hk).2, List.getElem?_set_ne (ne k hk).1]; exact q2, o.mono fun b z => .inl z⟩
  · rw [List.getElem?_set_ne (ne k hk).2, List.getElem?_set_ne (ne k hk).1] at e
    rw [List.getElem?_set_ne (ne k hk).2]
    exact g.owd k d (List.mem_cons_of_mem _ hk) e
  · rw [List.getElem?_set_ne (ne k hk).2] at e1
    rw [List.getElem?_set_ne (ne l hl).2] at e2
    exact g.dj k l b (List.mem_cons_of_mem _ hk) (List.mem_cons_of_mem _ hl) e1 e2
def sOwnMv (f : FE) (i : Nat) (g : FS) (j : Nat) : FS := fun s => (f s).bind fun r => if i < r.2.length then (g (r.2.set i (some r.1))).bind fun o => match o with
    | .nx s2 => (eLi i s2).bind fun ds => if j < s2.length then some (.nx ((s2.set i none).set j (some (.list ds)))) else none
    | _ => none
  else none
theorem mss_ownMv {i j : Nat} {s1 s2 s3 : Stmt} {f : FE} {g : FS} (hp : PS X s1 (tAsg (tF X.K own f) (gName i))) (hr : ∀ fr, MS X (i :: own) (i :: io) fr s2 g) (hm : PS X s3 (tAsg (tVar i) (gName j))) (hi : i ∉ own := by decide) (hj : j ∉ own := by decide) (hij : i ≠ j := by decide) (hio : i ∉ io := by decide) (hjo : j ∉ io := by decide) : MSs X own io fr [s1, s2, s3] (sOwnMv f i g j) :=
  ⟨PSs_imp (pss_cons hp (pss_cons (hr fr).ps (pss_one hm))) fun D σ H q => by
    obtain ⟨P, σd, o, gd, hf, q⟩ := q
    unfold sOwnMv at hf
    obtain ⟨⟨d, t1⟩, h1, hf⟩ := Option.bind_eq_some_iff.mp hf
    split at hf
    · rename_i hl
      obtain ⟨o1, h2, hf⟩ := Option.bind_eq_some_iff.mp hf
      cases o1 with
      | nx t2 =>
        obtain ⟨ds, h3, hf⟩ := Option.bind_eq_some_iff.mp hf
        split at hf
        · rename_i hl2
          cases hf
          refine ⟨P, σd, d, t1, gd, h1, fun a H1 na g1 g2 e1 ow => ?_⟩
          have nw : ¬ Wr own σ a := fun w => by
            obtain ⟨o, e, _⟩ := gd.wr_there w
            rw [na] at e; cases e
          have lσ : i < σ.length := by rw [← g1.len]; exact hl
          have ne : ∀ k, k ∈ own → i ≠ k := fun k hk e => hi (e ▸ hk)
          have wr : ∀ b, Wr (i :: own) (σ.set i (some (.ref a))) b → b = a ∨ Wr own σ b := fun b ⟨k, hk, e⟩ => by
            rcases List.mem_cons.mp hk with rfl | hk
            · rw [List.getElem?_set_self lσ] at e
              cases e
              exact .inl rfl
            · rw [List.getElem?_set_ne (ne k hk)] at e
              exact .inr ⟨k, hk, e⟩
          refine ⟨fun b => P b ∧ b ≠ a, t1.set i (some d), .nx t2, g2.adopt hi nw ow hl, h2, fun P' σ' H' g3 p t => ?_⟩
          obtain ⟨a', xs, ea, c, r, n⟩ := g3.own_list (k := i) List.mem_cons_self h3
          refine ⟨.ref a', ea, ?_⟩
          have fa : H a' = none := by
            have e := t.io i List.mem_cons_self
            rw [ea, List.getElem?_set_self lσ] at e
            cases e
            exact na
          refine q _ _ H' (g3.move hi hj hij ea c r hl2) ⟨fun b z => ?_, fun b z n => ?_⟩ ⟨⟨fun b o hb n => ?_, fun b z => e1.g b (t.ext.g b z)⟩, fun b ⟨k, hk, e⟩ => ?_, fun k hk => ?_⟩
          · rcases z with z | z
            · exact (p.le b z).1
            · rw [z]; exact gd.fresh _ fa
          · exact .inl (p.ge b ⟨z, fun e => n (e ▸ na)⟩ fun w => n (e1.g b w))
          · refine t.ext.k b o (e1.k b o hb n) fun w => ?_
            rcases wr b w with rfl | w
            · rw [na] at hb; cases hb
            · exact n w
          · rw [List.getElem?_set_ne (fun e => hj (by rw [e]; exact hk))] at e
            rcases t.wr b ⟨k, List.mem_cons_of_mem _ hk, e⟩ with w | z
            · rcases wr b w with rfl | w
              · exact .inr na
              · exact .inl w
            · exact .inr (e1.g b z)
          · rw [List.getElem?_set_ne (fun e => hjo (by rw [e]; exact hk)), t.io k (List.mem_cons_of_mem _ hk), List.getElem?_set_ne (fun e => hio (by rw [e]; exact hk))]
        · cases hf
      | _ => cases hf
    · cases hf⟩
end
end Mi
set_option Elab.async false
set_option linter.all false
set_option maxRecDepth 100000
namespace Mi
open PySem PySem.Spec PyProof.Rows L2

section
variable {K : PySem.W.Frag} {P : Addr → Prop} {H : Hp}
def lookT : List (D × D) → D → Option D
  | [], _ => none
  | (k, d) :: r, q => if tEq k q then some d else lookT r q
theorem KtA.look {kvs : List (List Key × V)} {r : List (D × D)} (q : KtA K P H kvs r) (k : List Key) : (valV kvs k = none ∧ lookT r (.tuple (k.map keyD)) = none) ∨ ∃ v d, valV kvs k = some v ∧ lookT r (.tuple (k.map keyD)) = some d ∧ Rp K P H v d := by
  induction q with
  | nil => exact .inl ⟨rfl, rfl⟩
  | @cons k0 v d kvs r a _ ih =>
    have e : tEq (.tuple (k0.map keyD)) (.tuple (k.map keyD)) = decide (k0 = k) := by
      show eqA (k0.map keyD) (k.map keyD) = _
      rw [eqA_key]
    by_cases c : k0 = k
    · subst c
      refine .inr ⟨v, d, ?_, ?_, a⟩
      · simp [valV]
      · unfold lookT
        rw [e, decide_eq_true rfl, if_pos rfl]
    · have e1 : valV ((k0, v) :: kvs) k = valV kvs k := by simp [valV, c]
      have e2 : lookT ((.tuple (k0.map keyD), d) :: r) (.tuple (k.map keyD)) = lookT r (.tuple (k.map keyD)) := by
        show (if tEq _ _ then _ else _) = _
        rw [e, decide_eq_false c, if_neg Bool.false_ne_true]
      rw [e1, e2]
      exact ih
end
section
variable {X : Cx} {own io : List Nat} {fr : Bool} {pos : Pos} {a b : Expr} {fa fb : FE}
/-! ### {}, d[k] = v, d.get(k) with tuples as keys -/
def eDnewT : FE := fun s => some (.dict [(.none, .none)], s)
theorem f_dnewT : MF X own (.Dict [] [] pos) eDnewT := ⟨PE_imp pe_dnewT fun σ H Q q => by
  obtain ⟨P, σd, d, σd', g, hf, q⟩ := q
  cases hf
  exact fun p hp => q p _ hp (g.same (same_new hp)) (g.off hp) (Ext.new hp) (.dtt upd_same .nil)⟩
def sDPW (k : Nat) (fv fi : FE) : FS := fun s => (fv s).bind fun r => (eDt k r.2).bind fun _ => (fi r.2).bind fun j => (eDt k j.2).bind fun kvs => match j.1 with
  | .dict [(.bool true, .tuple ds)] => (keysD ds).bind fun _ => if kvs.length < 1000000 then some (.nx (j.2.set k (some (.dict ((.none, .none) :: putT kvs (.tuple ds) r.1))))) else none
  | _ => none
theorem ms_dputW {st : Stmt} {k : Nat} {fv fi : FE} (hk : k ∈ own) (hp : PS X st (sDPut (tVar k) (tE X.K own fi) (tE X.K own fv))) : MS X own io fr st (sDPW k fv fi) := ⟨PS_imp hp fun D σ H q => by
  obtain ⟨P, σd, o, g, hf, q⟩ := q
  unfold sDPW at hf
  obtain ⟨⟨d, s1⟩, h1, hf⟩ := Option.bind_eq_some_iff.mp hf
  obtain ⟨r0, h0, hf⟩ := Option.bind_eq_some_iff.mp hf
  obtain ⟨⟨kd, s2⟩, h2, hf⟩ := Option.bind_eq_some_iff.mp hf
  obtain ⟨r1, h3, hf⟩ := Option.bind_eq_some_iff.mp hf
  dsimp only at hf
  split at hf
  · rename_i ds
    obtain ⟨ks, h4, hf⟩ := Option.bind_eq_some_iff.mp hf
    split at hf
    · rename_i hl
      cases hf
      refine tE_of g h1 fun v H1 g1 e1 rv => ?_
      obtain ⟨a, kvs0, ea, _, _, _⟩ := g1.own_dT hk h0
      refine ⟨.ref a, ea, tE_of g1 h2 fun y H2 g2 e2 ry => ?_⟩
      obtain ⟨a', kvs, ea', c, ka, nP⟩ := g2.own_dT hk h3
      rw [ea] at ea'
      cases ea'
      cases ry with
      | @wtup b xs _ cb rb =>
        obtain ⟨rfl, ed⟩ := keysD_rp h4 rb
        refine ⟨a, _, rfl, DPut.t c cb (by rw [ka.len]; exact lineL hl), ?_⟩
        have ex : Ext (fun b => b = a) H2 (upd H2 a (.dT (putK kvs ks v))) := Ext.write rfl (by rw [c]; trivial)
        have kt := (ka.put ks (rv.ext e2 g1.nw)).ext ex fun b e => e ▸ nP
        rw [← ed] at kt
        exact q P σ _ (g2.put hk ea (.dtt upd_same kt)) Sub.refl ((Stp.of (e1.trans e2)).trans (stp_put hk ea (by rw [c]; trivial)))
    · cases hf
  · cases hf⟩
def eGetW (k : Nat) (fi : FE) : FE := fun s => (eDt k s).bind fun _ => (fi s).bind fun j => (eDt k j.2).bind fun kvs => match j.1 with
  | .dict [(.bool true, .tuple ds)] => (keysD ds).map fun _ => ((lookT kvs (.tuple ds)).getD .none, j.2)
  | _ => none
theorem me_getW {x : Str} {p apos : Pos} {e : Expr} {k : Nat} {fi : FE} (hu : X.A.units + 1 < cLine) (hk : k ∈ own) (hx : PE X (.Name x p) (tVar k)) (he : ME X own e fi) (m : M1 X (.Name x p) "get" apos e pos) : ME X own (.Call (.Attribute (.Name x p) "get" apos) [e] [] pos) (eGetW k fi) := ⟨PE_imp (pe_dget1 hu hx he.pe m) fun σ H Q q => by
  obtain ⟨P, σd, d, σd', g, hf, q⟩ := q
  unfold eGetW at hf
  obtain ⟨r0, h0, hf⟩ := Option.bind_eq_some_iff.mp hf
  obtain ⟨⟨kd, s2⟩, h2, hf⟩ := Option.bind_eq_some_iff.mp hf
  obtain ⟨r1, h3, hf⟩ := Option.bind_eq_some_iff.mp hf
  dsimp only at hf
  split at hf
  · rename_i ds
    obtain ⟨ks, h4, hf⟩ := Option.map_eq_some_iff.mp hf
    cases hf
    obtain ⟨a, kvs0, ea, c0, _, _⟩ := g.own_dT hk h0
    refine ⟨.ref a, ea, a, rfl, .inr ⟨_, .inl c0⟩, tE_of g h2 fun y H2 g2 e2 ry => ?_⟩
    obtain ⟨a', kvs, ea', c, ka, nP⟩ := g2.own_dT hk h3
    rw [ea] at ea'
    cases ea'
    cases ry with
    | @wtup b xs _ cb rb =>
      obtain ⟨rfl, ed⟩ := keysD_rp h4 rb
      refine ⟨_, DGet.t c cb, ?_⟩
      rw [ed] at q
      rcases ka.look ks with ⟨z1, z2⟩ | ⟨v, d, z1, z2, rv⟩
      · rw [z2] at q
        rw [z1]
        exact q _ H2 g2 e2 .non
      · rw [z2] at q
        rw [z1]
        exact q _ H2 g2 e2 rv
  · cases hf⟩
/-! ### tuples that may be keys -/
def eWk (f : FE) : FE := fun s => (f s).bind fun r => match r.1 with
  | .tuple ds => some (wk ds, r.2)
  | _ => none
theorem me_wk {e : Expr} {f : FE} (h : MN X own e f) : ME X own e (eWk f) := ⟨PE_imp h.pe fun σ H Q q => by
  obtain ⟨P, σd, d, σd', g, hf, q⟩ := q
  unfold eWk at hf
  obtain ⟨⟨d0, s1⟩, h1, hf⟩ := Option.bind_eq_some_iff.mp hf
  dsimp only at hf
  split at hf
  · rename_i ds
    cases hf
    exact ⟨P, σd, ds, _, g, h1, fun p H1 xs g1 e1 c r => q _ H1 g1 e1 (.wtup c r)⟩
  · cases hf⟩
def dCatW : D → D → Option D
  | .dict [(.bool true, .tuple xs)], .dict [(.bool true, .tuple ys)] => if xs.length + ys.length ≤ 1000000 then some (wk (xs ++ ys)) else none
  | _, _ => none
theorem od_catW {K : PySem.W.Frag} : OpD K (rCatA K) dCatW := fun P x y a b c H Q f rx ry e q => by
  unfold dCatW at e
  split at e
  · split at e
    · rename_i hl
      cases e
      have go : ∀ {v : V} {ds : List D}, Bo K P H v (.dict [(.bool true, .tuple ds)]) → ∃ a xs, v = .ref a ∧ H a = some (.tup xs) ∧ RpA K P H xs ds := fun {v ds} r => by
        cases r with
        | rp r =>
          cases r with
          | wtup s r => exact ⟨_, _, rfl, s, r⟩
      obtain ⟨p, xs, rfl, s, r⟩ := go rx
      obtain ⟨p2, ys, rfl, s2, r2⟩ := go ry
      refine ⟨p, p2, xs, ys, rfl, rfl, .inl (.inl s), .inl (.inl s2), by rw [r.len, r2.len]; exact lineM hl, fun e => ?_, fun _ e => ?_, fun _ _ w hw => q _ _ (same_new hw) (.mkW hw (r.append r2))⟩
      · have z := r.nil_iff.mp e
        refine q _ H (Same.refl H) (.wtup s2 ?_)
        rw [z]; exact r2
      · have z := r2.nil_iff.mp e
        refine q _ H (Same.refl H) (.wtup s ?_)
        rw [z, List.append_nil]; exact r
    · cases e
  · cases e
theorem m_catW (ha : ME X own a fa) (hb : ME X own b fb) : ME X own (.BinOp a .Add b pos) (eBin dCatW fa fb) := me_bin op_catA od_catW ha hb.b
/-! ### repr(None), repr of any tuple -/
def cReprX : D → Option D
  | .none => some (.str "None")
  | .dict [(.bool true, .tuple ds)] => cRepr (.tuple ds)
  | d => cRepr d
def rReprX (K : PySem.W.Frag) : List V → Hp → VK → Prop := fun xs H Q => rRepr K xs H Q ∨ (xs = [.non] ∧ Q (.str "None") H)
theorem call_reprX (hG : X.A.guards = some []) (hu : X.A.units + 100 < cLine) : CallR X (.builtin "repr") (rReprX X.K) := fun pins s σ H vs us Q I r h => by
  rcases h with h | ⟨e, q⟩
  · exact call_reprD hG hu pins s σ H vs us Q I r h
  · subst e
    obtain ⟨u, eu, ru⟩ := vals1 r
    subst eu
    cases ru
    exact PySem.P.repr_of_none ⟨.str "None", H, I.tok _, ⟨_, rfl⟩, q⟩
theorem cd_reprX {K : PySem.W.Frag} : CallD K (rReprX K) cReprX := fun P x a c H Q f rx e q => by
  unfold cReprX at e
  split at e
  · cases e
    refine .inr ⟨?_, q _ H (Same.refl H) (.str _)⟩
    cases rx with
    | rp r => cases r; rfl
  · rename_i ds
    obtain ⟨p, xs, rfl, s, r⟩ := rx.weak
    unfold cRepr at e
    dsimp only at e
    split at e
    · rename_i hc
      cases e
      simp only [Bool.and_eq_true] at hc
      have lay : PyData.canLay0 (.tuple ds) = true := by
        have := hc.1.1
        unfold PyData.layable0 at this
        simp only [Bool.and_eq_true] at this
        exact this.1.1
      have hd := rx.dp
      have eu : un (.dict [(.bool true, .tuple ds)]) = .tuple ds := by
        unfold un
        rw [unA_lay (by simpa [PyData.canLay0] using lay)]
      rw [eu] at hd
      exact .inl ⟨p, _, rfl, hd, hc.1.1, hc.1.2, hc.2, q _ H (Same.refl H) (.str _)⟩
    · cases e
  · exact .inl (cd_repr P x a c H Q f rx e q)
theorem b_reprX {p : Pos} (hG : X.A.guards = some []) (hu : X.A.units + 100 < cLine) (m : X.mg "repr" = none) (he : MB X own a fa) (hg : Gl X "repr" := by rfl) (hse : starEach [a] X.env = (false, eval a X.env) :: starEach [] X.env := by rfl) (hpl : (backTo pos (starEach [] X.env)).any (·.1) = false := by rfl) : ME X own (.Call (.Name "repr" p) [a] [] pos) (eCall1 cReprX fa) :=
  me_callB1 (call_reprX hG hu) cd_reprX hg m (by decide +kernel) he (by decide) (by decide) hse hpl
/-! ### list(range(n)) -/
def eLrg (f : FE) : FE := fun s => (f s).bind fun r => match r.1 with
  | .int n => if 0 ≤ n ∧ n ≤ 1000000 then some (.list (rgD 0 n.toNat), r.2) else none
  | _ => none
theorem rg_rp {K : PySem.W.Frag} {P : Addr → Prop} {H : Hp} {n : Int} : RpA K P H (rgV 0 n) (rgD 0 n.toNat) := by
  unfold rgV rgD
  rw [Int.sub_zero]
  generalize List.range n.toNat = l
  induction l with
  | nil => exact .nil
  | cons x l ih => exact .cons (.int _) ih
theorem f_lrg {p p2 pos2 : Pos} (hc : X.calm = true) (m : X.mg "list" = none) (m2 : X.mg "range" = none) (ha : ME X own a fa) (hg : Gl X "list" := by rfl) (hg2 : Gl X "range" := by rfl) (hse : starEach [a] X.env = (false, eval a X.env) :: starEach [] X.env := by rfl)
    (hse2 : starEach [.Call (.Name "range" p2) [a] [] pos2] X.env = (false, eval (.Call (.Name "range" p2) [a] [] pos2) X.env) :: starEach [] X.env := by rfl) : MF X own (.Call (.Name "list" p) [.Call (.Name "range" p2) [a] [] pos2] [] pos) (eLrg fa) := ⟨PE_imp (pe_listRg hc hg m (prg_1 hg2 m2 ha.pe hse) hse2) fun σ H Q q => by
  obtain ⟨P, σd, d, σd', g, hf, q⟩ := q
  unfold eLrg at hf
  obtain ⟨⟨d0, s1⟩, h1, hf⟩ := Option.bind_eq_some_iff.mp hf
  cases d0 with
  | int n =>
    dsimp only at hf
    split at hf
    · rename_i hn
      cases hf
      refine tE_of g h1 fun v H1 g1 e1 r1 => ?_
      cases r1
      exact ⟨n, rfl, RgOk.of_le (by omega) (by omega) (by omega) (by omega), fun p hp => q p _ (e1.g p hp) (g1.same (same_new hp)) (g1.off hp) (e1.trans (Ext.new hp)) (.lst upd_same rg_rp)⟩
    · cases hf
  | _ => cases hf⟩
end
end Mi
set_option Elab.async false
set_option linter.all false
set_option maxRecDepth 100000
namespace Mi
open PySem PySem.Spec PyProof.Rows L2
section
variable {X : Cx} {own : List Nat}
def gThr (i j l : Nat) : FG := gTp (gsCons (gNm i) (gsCons (gNm j) (gsCons (gNm l) gsNil)))
theorem g_three {i j l : Nat} {a b c : Expr} {kk : Nat} {p : Pos} (hc : X.calm = true) (h1 : PG X a (gName i)) (h2 : PG X b (gName j)) (h3 : PG X c (gName l))
    (hp : ∀ t : TGs, PGs X [a, b, c] t → PG X (.Tuple [a, b, c] kk p) (gTup X.K 3 t)) (s1 : ∀ {g : TG} {t : TGs}, PG X a g → PGs X [b, c] t → PGs X [a, b, c] (gCons g t)) (s2 : ∀ {g : TG} {t : TGs}, PG X b g → PGs X [c] t → PGs X [b, c] (gCons g t)) (s3 : ∀ {g : TG} {t : TGs}, PG X c g → PGs X [] t → PGs X [c] (gCons g t))
    (hi : i ∉ own := by decide) (hj : j ∉ own := by decide) (hl : l ∉ own := by decide) : MG X own [i, j, l] (.Tuple [a, b, c] kk p) (gThr i j l) :=
  mg_tup (n := 3) (fun ds s s' h => gsCons_len (fun ds s s' h => gsCons_len (fun ds s s' h => gsCons_len (fun ds s s' h => gsNil_len h) h) h) h)
    (hp _ (mgs_cons (ts := [i]) (us := [j, l]) (mg_name h1 hi) (mgs_cons (ts := [j]) (us := [l]) (mg_name h2 hj) (mgs_cons (ts := [l]) (us := []) (mg_name h3 hl) (mgs_nil pgs_nil) s3) s2) s1).pg) (by
    intro k hk
    rcases List.mem_cons.mp hk with rfl | hk
    · exact hi
    · rcases List.mem_cons.mp hk with rfl | hk
      · exact hj
      · rcases List.mem_cons.mp hk with rfl | hk
        · exact hl
        · cases hk)
end
section
variable {X : Cx} {own io : List Nat} {fr : Bool} {a b : Expr} {fa fb : FE}
/-- a, b = e, a new list, where one of the names is not a plain one -/
theorem ms_parOG {i j : Nat} {st : Stmt} {k2 : Nat} {pt2 : Pos} (ha : ME X own a fa) (hb : MF X own b fb) (hp : PE X (.Tuple [a, b] k2 pt2) (tTupS (tCons (tE X.K own fa) (tCons (tF X.K own fb) tNil))) → PS X st (tAsg (tTupS (tCons (tE X.K own fa) (tCons (tF X.K own fb) tNil))) (gTup X.K 2 (gCons (gName i) (gCons (gName j) gNil)))))
    (hi : i ∉ own := by decide) (hj : j ∈ own := by decide) (hio : i ∉ io := by decide) (hjo : j ∉ io := by decide) (hs : starEach [a, b] X.env = (false, eval a X.env) :: starEach [b] X.env := by rfl) (hs2 : starEach [b] X.env = (false, eval b X.env) :: starEach [] X.env := by rfl) : MS X own io fr st (sParO i j fa fb) :=
  ⟨PS_imp (hp (pe_tupS (pa_cons ha.pe (pa_cons hb.pe pa_nil hs2) hs))) fun D σ H q => by
    obtain ⟨P, σd, o, gd, hf, q⟩ := q
    unfold sParO at hf
    obtain ⟨⟨d1, s1⟩, h1, hf⟩ := Option.bind_eq_some_iff.mp hf
    obtain ⟨⟨d2, s2⟩, h2, hf⟩ := Option.bind_eq_some_iff.mp hf
    split at hf
    · rename_i hl
      cases hf
      refine tE_of gd h1 fun v H1 g1 e1 r1 => ⟨P, s1, d2, s2, g1, h2, fun p H2 np g2 g3 e2 ow => ⟨by show 2 ≤ sizeLine; exact two_fit, fun t ob nt hd => ⟨t, [v, .ref p], rfl, .inl (.inr ⟨ob, upd_same⟩), rfl, v, [.ref p], rfl, .ref p, [], rfl, rfl, ?_⟩⟩⟩
      have np0 : H p = none := e1.g p np
      have pt : p ≠ t := fun e => by
        obtain ⟨o, ho, _⟩ := ow.there
        rw [e, nt] at ho; cases ho
      have nw : ¬ Wr own σ p := fun w => by
        obtain ⟨o, e, _⟩ := g1.wr_there w
        rw [np] at e; cases e
      have r2 : Rp X.K (fun b => P b ∧ b ≠ p) H2 v d1 := (r1.off np).ext e2 fun b w z => g1.nw b w z.1
      have g4 := (g3.same (same_new (o := .frz ob (.tup [v, .ref p])) nt)).set hi (r2.new nt)
      have ne : ∀ k, k ∈ own → i ≠ k := fun k hk e => hi (by rw [e]; exact hk)
      have nw2 : ¬ Wr own (σ.set i (some v)) p := fun w => nw (Wr.same (fun k hk => by rw [List.getElem?_set_ne (ne k hk)]) w)
      have ow2 : Ow X.K (fun b => P b ∧ b ≠ p) (upd H2 t (.frz ob (.tup [v, .ref p]))) p d2 := ow.keep (same_ext nt) (fun _ z => z.elim) fun o q => same_new nt p o q
      have g5 := g4.setO hj ow2 (fun z => z.2 rfl) nw2 (by rw [List.length_set, ← g2.len]; exact hl)
      refine q _ _ _ g5 ⟨fun b z => z.1, fun b z n => ⟨z, fun e => n (e ▸ np0)⟩⟩ ⟨(e1.trans e2).trans (Ext.new nt), fun b ⟨k, hk, e⟩ => ?_, fun k hk => ?_⟩
      · rcases get_set e with ⟨_, e, _⟩ | ⟨nk, e⟩
        · cases e
          exact .inr np0
        · exact .inl (Wr.same (fun k hk => by rw [List.getElem?_set_ne (ne k hk)]) ⟨k, hk, e⟩)
      · rw [List.getElem?_set_ne (fun e => hjo (by rw [e]; exact hk)), List.getElem?_set_ne (fun e => hio (by rw [e]; exact hk))]
    · cases hf⟩
end
end Mi
set_option Elab.async false
set_option linter.all false
set_option maxRecDepth 100000
namespace Mi
open PySem PySem.Spec PyProof.Rows L2
/-! ### an owned list lent for the while of an expression -/
def hideD (own : List Nat) (k : Nat) (s : SD) : SD := s.mapIdx fun i x => if i ∈ own ∧ i ≠ k then none else x
theorem hide_get {own : List Nat} {k i : Nat} {s : SD} : (hideD own k s)[i]? = (s[i]?).map fun x => if i ∈ own ∧ i ≠ k then none else x := by
  unfold hideD
  rw [List.getElem?_mapIdx]
def eBor (own : List Nat) (k : Nat) (f : FE) : FE := fun s => (eLi k s).bind fun _ => (f (hideD own k s)).bind fun r => if imm r.1 then some (r.1, s) else none
section
variable {X : Cx} {own : List Nat} {e : Expr} {f : FE}
theorem me_bor {k : Nat} (h : ME X [] e f) (hk : k ∈ own := by decide) : ME X own e (eBor own k f) := ⟨PE_imp h.pe fun σ H Q q => by
  obtain ⟨P, σd, d, σd', g, hf, q⟩ := q
  unfold eBor at hf
  obtain ⟨ds, h0, hf⟩ := Option.bind_eq_some_iff.mp hf
  obtain ⟨⟨d1, s1⟩, h1, hf⟩ := Option.bind_eq_some_iff.mp hf
  split at hf
  · rename_i hm
    cases hf
    obtain ⟨a, xs, ea, c, r, n⟩ := g.own_list hk h0
    have g1 : Gd X.K [] (fun b => P b ∨ b = a) (hideD own k σd) σ H := by
      refine ⟨by unfold hideD; rw [List.length_mapIdx]; exact g.len, fun b hb => .inl (g.fresh b hb), fun b ⟨i, hi, _⟩ => (nomatch hi), fun i d _ hi => ?_, fun i hi => (nomatch hi), fun i d hi => (nomatch hi), fun i j b hi => (nomatch hi)⟩
      rw [hide_get] at hi
      obtain ⟨x, hx, hi⟩ := Option.map_eq_some_iff.mp hi
      split at hi
      · cases hi
      · rename_i nc
        subst hi
        by_cases ik : i = k
        · subst ik
          have e2 := eLi_of h0
          rw [e2] at hx
          cases hx
          exact ⟨_, ea, .lst (.inr rfl) (.inl c) (r.mono fun b z => .inl z)⟩
        · have ni : i ∉ own := fun z => nc ⟨z, ik⟩
          obtain ⟨v, q1, q2⟩ := g.shr i d ni hx
          exact ⟨v, q1, q2.mono fun b z => .inl z⟩
    refine ⟨_, _, d1, s1, g1, h1, fun v H2 g2 e2 r2 => ?_⟩
    have sm : L2.Same H H2 := fun b o hb => e2.k b o hb fun ⟨i, hi, _⟩ => (nomatch hi)
    exact q v H2 (g.same sm) (e2.weak fun b ⟨i, hi, _⟩ => (nomatch hi)) (r2.imm hm)
  · cases hf⟩
end
end Mi
set_option Elab.async false
set_option linter.all false
set_option maxRecDepth 100000
namespace Pf
open PySem PySem.Spec PyProof.Rows L2 Mi
def topS (i : Nat) : Stmt := PySem.Challenge.pw_patchrooms_k02_whole_columns_led_back.main.body.getD i (.Pass ⟨0, 0, 0, 0⟩)
section
variable {P : Program} {w : World} {K : PySem.W.Frag} {mg : Str → Option Value} {base : Heap}
abbrev s__law_begun : Stmt := topS 11
abbrev N__law_begun : List Str := ["script", "k", "cells", "great", "seed", "cell"]
theorem sc__law_begun : FnScope N__law_begun ["script", "k"] (defScope s__law_begun) := ⟨rfl, rfl, rfl, by decide +kernel, rfl, by decide +kernel, by decide +kernel⟩
def g__law_begun : FS := (sCons (sAs (eBin dPlus (eSl (eVar 0) (oIn (eVar 1)) oNo) (eSl (eVar 0) oNo (oIn (eVar 1)))) (gNm 2))
    (sCons (sAs (eF (eLc (iS (eVar 2)) (gNm 5) (eTst (eBin dGe (eVar 5) (eBin dPow (eC (.int 10)) (eC (.int 18))))) (eVar 5) [5])) (gNm 3))
    (sCons (sAs (eBin dPlus (eC (.int 71)) (eVar 1)) (gNm 4))
    (sCons (sFor (iS (eVar 2)) (gNm 5) (sAs (eBin dMod (eCall1 cInt (eBin dPlus (eBin dMul (eVar 4) (eC (.int 48271))) (eVar 5))) (eC (.int 2147483647))) (gNm 4)))
    (sRt (eDis [((.inr "left"), (eIf (eTst (eBin dNe (eVar 3) (eF (eLst aNil)))) (eBin dIx (eVar 3) (eC (.int 0))) (eC (.int 0)))), ((.inr "seed"), (eVar 4)), ((.inr "cells"), (eBin dPlus (eVar 2) (eF (eLst (aCons (eBin dPlus (eBin dMul (eC (.int 53)) (eVar 1)) (eC (.int 11))) aNil))))), ((.inr "spot"), (eC (.int 0)))]))))))
def F__law_begun : FF := runF 6 g__law_begun
theorem ok__law_begun {f : Addr} {fd : FuncData} (F : Fun K "_law_begun" "_law_begun" s__law_begun f fd) (m_int : mg "int" = none) : FnM P w K mg base 1 f fd ["script", "k"] (spD K 2 [] true F__law_begun) :=
  fn_mini (own := []) F sc__law_begun rfl (by decide) (by decide) (fun cd A fs s H hr hG => by
    have hu : A.units + 3 + 64 < cLine := by have := hr.un; exact Nat.lt_of_le_of_lt (by show A.units + 3 + 64 ≤ (A.units + 3) + 16 * 0 + 200; omega) this
    have hu1 : A.units + 3 + 1 < cLine := by omega
    have hu2 : A.units + 3 + 100 < cLine := by have := hr.un; exact Nat.lt_of_le_of_lt (by show A.units + 3 + 100 ≤ (A.units + 3) + 16 * 0 + 200; omega) this
    exact (mss_cons (ms_set (ps_set (i := 2) sc__law_begun.nd rfl (.inl rfl) (ME.pe (m_add (me_slice (m_v (pv 0)) (mo_some (m_v (pv 1)) po_some) mo_none) (me_slice (m_v (pv 0)) mo_none (mo_some (m_v (pv 1)) po_some))))) (by decide) (by decide))
    (mss_cons (ms_setLc (ts := [5]) (vs := [5]) (ps_setLc (i := 3) (own := [("cell", 5)]) rfl sc__law_begun.nd rfl rfl (sw_true rfl rfl rfl (by decide +kernel)) (MI.pi (mi_seq (m_v (pv 2)))) (blkOk_by (N := N__law_begun) (sc := defScope s__law_begun) (own := [("cell", 5)]) (by decide +kernel)) (fun _ _ _ _ _ => MG.pg (mg_name (pg_name (i := 5) sc__law_begun.nd rfl (by first | exact .inl rfl | exact .inr rfl)) (by decide))) (fun _ _ _ _ _ => MTs.pt (mts_one (c_ge (m_v (pv 5)) (m_pow me_int me_int)) pts_one)) (fun _ _ _ _ _ => ME.pe (m_v (pv 5)))))
    (mss_cons (ms_set (ps_set (i := 4) sc__law_begun.nd rfl (.inl rfl) (ME.pe (m_add me_int (m_v (pv 1))))) (by decide) (by decide))
    (mss_cons (s_for PassesOwn.never rfl (mi_seq (m_v (pv 2))) (mg_name (pg_name (i := 5) sc__law_begun.nd rfl (by first | exact .inl rfl | exact .inr rfl)) (by decide)) (mss_one (ms_set (ps_set (i := 4) sc__law_begun.nd rfl (.inl rfl) (ME.pe (m_mod (b_int m_int (ME.b (m_add (m_mul (m_v (pv 4)) me_int) (m_v (pv 5))))) me_int))) (by decide) (by decide))))
    (mss_one (ms_retF (mf_disp (l := [((.inr "left"), (eIf (eTst (eBin dNe (eVar 3) (eF (eLst aNil)))) (eBin dIx (eVar 3) (eC (.int 0))) (eC (.int 0)))), ((.inr "seed"), (eVar 4)), ((.inr "cells"), (eBin dPlus (eVar 2) (eF (eLst (aCons (eBin dPlus (eBin dMul (eC (.int 53)) (eVar 1)) (eC (.int 11))) aNil))))), ((.inr "spot"), (eC (.int 0)))]) (pe_disp (pps_cons pe_str (ME.pe (me_if (c_ne hu (m_v (pv 3)) (me_fresh (mf_lst ma_nil))) (m_ix (m_v (pv 3)) me_int) me_int)) (pps_cons pe_str (ME.pe (m_v (pv 4))) (pps_cons pe_str (ME.pe (m_add (m_v (pv 2)) (me_fresh (mf_lst (ma_cons (m_add (m_mul me_int (m_v (pv 1))) me_int) ma_nil))))) (pps_cons pe_str (ME.pe me_int) pps_nil)))) rfl rfl (by simp) (by decide)) (by decide +kernel) (by decide))))))))) (fun _ => (nx_cons (nx_cons (nx_cons (nx_cons nx_ret)))))
abbrev s__law_like : Stmt := topS 15
abbrev N__law_like : List Str := ["got", "due"]
theorem sc__law_like : FnScope N__law_like ["got", "due"] (defScope s__law_like) := ⟨rfl, rfl, rfl, by decide +kernel, rfl, by decide +kernel, by decide +kernel⟩
def g__law_like : FS := (sRt (eBin dEqS (eCall1 cReprX (eVar 0)) (eCall1 cReprX (eVar 1))))
def F__law_like : FF := runF 2 g__law_like
theorem ok__law_like {f : Addr} {fd : FuncData} (F : Fun K "_law_like" "_law_like" s__law_like f fd) (m_repr : mg "repr" = none) : FnM P w K mg base 1 f fd ["got", "due"] (spD K 2 [] false F__law_like) :=
  fn_mini (own := []) F sc__law_like rfl (by decide) (by decide) (fun cd A fs s H hr hG => by
    have hu : A.units + 3 + 64 < cLine := by have := hr.un; exact Nat.lt_of_le_of_lt (by show A.units + 3 + 64 ≤ (A.units + 3) + 16 * 0 + 200; omega) this
    have hu1 : A.units + 3 + 1 < cLine := by omega
    have hu2 : A.units + 3 + 100 < cLine := by have := hr.un; exact Nat.lt_of_le_of_lt (by show A.units + 3 + 100 ≤ (A.units + 3) + 16 * 0 + 200; omega) this
    exact (mss_one (ms_ret (v_eqS (b_reprX hG hu2 m_repr (ME.b (m_v (pv 0)))) (b_reprX hG hu2 m_repr (ME.b (m_v (pv 1)))))))) (by intro h; cases h)
abbrev s__law_draw : Stmt := topS 12
abbrev N__law_draw : List Str := ["m", "bound", "found", "spot", "cells", "extra", "cell", "blend"]
theorem sc__law_draw : FnScope N__law_draw ["m", "bound"] (defScope s__law_draw) := ⟨rfl, rfl, rfl, by decide +kernel, rfl, by decide +kernel, by decide +kernel⟩
def g__law_draw : FS := (sCons (sIf (eTst (eBin dGt (eDG 0 (eC (.str "left"))) (eC (.int 0)))) (sCons (sAs (eBin dMod (eCall1 cInt (eDG 0 (eC (.str "left")))) (eVar 1)) (gNm 2))
    (sCons (sDP 0 (eBin dDiv (eDG 0 (eC (.str "left"))) (eVar 1)) (eC (.str "left")))
    (sRt (eVar 2)))) sNil)
    (sCons (sAs (eDG 0 (eC (.str "spot"))) (gNm 3))
    (sCons (sDP 0 (eBin dPlus (eVar 3) (eC (.int 1))) (eC (.str "spot")))
    (sCons (sPar 4 5 (eDG 0 (eC (.str "cells"))) (eBin dPlus (eDG 0 (eC (.str "seed"))) (eBin dMul (eBin dMul (eC (.int 40503)) (eVar 3)) (eVar 3))))
    (sCons (sAs (eBin dIx (eVar 4) (eBin dMod (eCall1 cInt (eVar 3)) (eCall1 cLen (eVar 4)))) (gNm 6))
    (sCons (sAs (eBin dMod (eCall1 cInt (eBin dPlus (eBin dMul (eVar 6) (eBin dPlus (eBin dMul (eC (.int 2)) (eVar 3)) (eC (.int 3)))) (eVar 5))) (eC (.int 2147483647))) (gNm 7))
    (sCons (sAs (eBin dMod (eCall1 cInt (eBin dPlus (eBin dPlus (eBin dMul (eVar 7) (eVar 7)) (eBin dMul (eC (.int 69621)) (eVar 3))) (eDG 0 (eC (.str "seed"))))) (eC (.int 2147483629))) (gNm 7))
    (sRt (eBin dMod (eBin dDiv (eBin dMod (eCall1 cInt (eBin dPlus (eBin dMul (eVar 7) (eC (.int 48271))) (eVar 3))) (eC (.int 2147483647))) (eC (.int 11))) (eVar 1))))))))))
def F__law_draw : FF := runF 8 g__law_draw
theorem ok__law_draw {f : Addr} {fd : FuncData} (F : Fun K "_law_draw" "_law_draw" s__law_draw f fd) (m_int : mg "int" = none) (m_len : mg "len" = none) : FnM P w K mg base 1 f fd ["m", "bound"] (spD K 2 [0] false F__law_draw) :=
  fn_mini (own := [0]) F sc__law_draw rfl (by decide) (by decide) (fun cd A fs s H hr hG => by
    have hu : A.units + 3 + 64 < cLine := by have := hr.un; exact Nat.lt_of_le_of_lt (by show A.units + 3 + 64 ≤ (A.units + 3) + 16 * 0 + 200; omega) this
    have hu1 : A.units + 3 + 1 < cLine := by omega
    have hu2 : A.units + 3 + 100 < cLine := by have := hr.un; exact Nat.lt_of_le_of_lt (by show A.units + 3 + 100 ≤ (A.units + 3) + 16 * 0 + 200; omega) this
    exact (mss_cons (ms_if (c_gt (me_dget (by decide) (pe_dget hu1 (pv 0) (ME.pe me_str) (fun _ _ => rfl))) me_int) (mss_cons (ms_set (ps_set (i := 2) sc__law_draw.nd rfl (.inl rfl) (ME.pe (m_mod (b_int m_int (ME.b (me_dget (by decide) (pe_dget hu1 (pv 0) (ME.pe me_str) (fun _ _ => rfl))))) (m_v (pv 1))))) (by decide) (by decide))
    (mss_cons (ms_dput (by decide) (ps_dput hu1 (pv 0) (ME.pe me_str) (ME.pe (m_div (me_dget (by decide) (pe_dget hu1 (pv 0) (ME.pe me_str) (fun _ _ => rfl))) (m_v (pv 1)))) rfl))
    (mss_one (ms_ret (m_v (pv 2)))))) mss_nil)
    (mss_cons (ms_set (ps_set (i := 3) sc__law_draw.nd rfl (.inl rfl) (ME.pe (me_dget (by decide) (pe_dget hu1 (pv 0) (ME.pe me_str) (fun _ _ => rfl))))) (by decide) (by decide))
    (mss_cons (ms_dput (by decide) (ps_dput hu1 (pv 0) (ME.pe me_str) (ME.pe (m_add (m_v (pv 3)) me_int)) rfl))
    (mss_cons (ms_par (me_dget (by decide) (pe_dget hu1 (pv 0) (ME.pe me_str) (fun _ _ => rfl))) (m_add (me_dget (by decide) (pe_dget hu1 (pv 0) (ME.pe me_str) (fun _ _ => rfl))) (m_mul (m_mul me_int (m_v (pv 3))) (m_v (pv 3)))) (fun h => ps_par rfl sc__law_draw.nd rfl rfl (by decide) rfl rfl h rfl))
    (mss_cons (ms_set (ps_set (i := 6) sc__law_draw.nd rfl (.inl rfl) (ME.pe (m_ix (m_v (pv 4)) (m_mod (b_int m_int (ME.b (m_v (pv 3)))) (b_len m_len (ME.b (m_v (pv 4)))))))) (by decide) (by decide))
    (mss_cons (ms_set (ps_set (i := 7) sc__law_draw.nd rfl (.inl rfl) (ME.pe (m_mod (b_int m_int (ME.b (m_add (m_mul (m_v (pv 6)) (m_add (m_mul me_int (m_v (pv 3))) me_int)) (m_v (pv 5))))) me_int))) (by decide) (by decide))
    (mss_cons (ms_set (ps_set (i := 7) sc__law_draw.nd rfl (.inl rfl) (ME.pe (m_mod (b_int m_int (ME.b (m_add (m_add (m_mul (m_v (pv 7)) (m_v (pv 7))) (m_mul me_int (m_v (pv 3)))) (me_dget (by decide) (pe_dget hu1 (pv 0) (ME.pe me_str) (fun _ _ => rfl)))))) me_int))) (by decide) (by decide))
    (mss_one (ms_ret (m_mod (m_div (m_mod (b_int m_int (ME.b (m_add (m_mul (m_v (pv 7)) me_int) (m_v (pv 3))))) me_int) me_int) (m_v (pv 1))))))))))))) (by intro h; cases h)
abbrev s__law_of : Stmt := topS 13
abbrev N__law_of : List Str := ["m", "some"]
theorem sc__law_of : FnScope N__law_of ["m", "some"] (defScope s__law_of) := ⟨rfl, rfl, rfl, by decide +kernel, rfl, by decide +kernel, by decide +kernel⟩
def g__law_of : FS := (sRt (eBin dIx (eVar 1) (eCall F__law_draw [.ow 0, .sh (eCall1 cLen (eVar 1))])))
def F__law_of : FF := runF 2 g__law_of
theorem ok__law_of {f : Addr} {fd : FuncData} (F : Fun K "_law_of" "_law_of" s__law_of f fd) (C__law_draw : Cal P w K mg base 1 "_law_draw" ["m", "bound"] [0] false F__law_draw) (m_len : mg "len" = none) : FnM P w K mg base 2 f fd ["m", "some"] (spD K 2 [0] false F__law_of) :=
  fn_mini (own := [0]) F sc__law_of rfl (by decide) (by decide) (fun cd A fs s H hr hG => by
    have hu : A.units + 3 + 64 < cLine := by have := hr.un; exact Nat.lt_of_le_of_lt (by show A.units + 3 + 64 ≤ (A.units + 3) + 16 * 1 + 200; omega) this
    have hu1 : A.units + 3 + 1 < cLine := by omega
    have hu2 : A.units + 3 + 100 < cLine := by have := hr.un; exact Nat.lt_of_le_of_lt (by show A.units + 3 + 100 ≤ (A.units + 3) + 16 * 1 + 200; omega) this
    exact (mss_one (ms_ret (m_ix (m_v (pv 1)) (m_call C__law_draw (hr.mono (by decide)) hG (k_ow (pv 0) (k_sh (b_len m_len (ME.b (m_v (pv 1)))) k_nil))))))) (by intro h; cases h)
abbrev s__law_small_prime : Stmt := topS 26
abbrev N__law_small_prime : List Str := ["m"]
theorem sc__law_small_prime : FnScope N__law_small_prime ["m"] (defScope s__law_small_prime) := ⟨rfl, rfl, rfl, by decide +kernel, rfl, by decide +kernel, by decide +kernel⟩
def g__law_small_prime : FS := (sRt (eCall F__law_of [.ow 0, .sh (eF (eLst (aCons (eC (.int 2)) (aCons (eC (.int 3)) (aCons (eC (.int 5)) (aCons (eC (.int 2)) (aCons (eC (.int 3)) (aCons (eC (.int 7)) aNil))))))))]))
def F__law_small_prime : FF := runF 1 g__law_small_prime
theorem ok__law_small_prime {f : Addr} {fd : FuncData} (F : Fun K "_law_small_prime" "_law_small_prime" s__law_small_prime f fd) (C__law_of : Cal P w K mg base 2 "_law_of" ["m", "some"] [0] false F__law_of) : FnM P w K mg base 3 f fd ["m"] (spD K 1 [0] false F__law_small_prime) :=
  fn_mini (own := [0]) F sc__law_small_prime rfl (by decide) (by decide) (fun cd A fs s H hr hG => by
    have hu : A.units + 3 + 64 < cLine := by have := hr.un; exact Nat.lt_of_le_of_lt (by show A.units + 3 + 64 ≤ (A.units + 3) + 16 * 2 + 200; omega) this
    have hu1 : A.units + 3 + 1 < cLine := by omega
    have hu2 : A.units + 3 + 100 < cLine := by have := hr.un; exact Nat.lt_of_le_of_lt (by show A.units + 3 + 100 ≤ (A.units + 3) + 16 * 2 + 200; omega) this
    exact (mss_one (ms_ret (m_call C__law_of (hr.mono (by decide)) hG (k_ow (pv 0) (k_sh (me_fresh (mf_lst (ma_cons me_int (ma_cons me_int (ma_cons me_int (ma_cons me_int (ma_cons me_int (ma_cons me_int ma_nil)))))))) k_nil)))))) (by intro h; cases h)
abbrev s__law_column : Stmt := topS 27
abbrev N__law_column : List Str := ["m", "p", "size_so", "spot"]
theorem sc__law_column : FnScope N__law_column ["m", "p", "size_so"] (defScope s__law_column) := ⟨rfl, rfl, rfl, by decide +kernel, rfl, by decide +kernel, by decide +kernel⟩
def g__law_column : FS := (sRt (eCall1 cTup (eF (eLc (iR1 (eVar 2)) (gNm 3) tYs (eIf (eTst (eBin dEq (eCall F__law_draw [.ow 0, .sh (eC (.int 3))]) (eC (.int 0)))) (eC (.int 0)) (eCall F__law_draw [.ow 0, .sh (eVar 1)])) [3]))))
def F__law_column : FF := runF 4 g__law_column
theorem ok__law_column {f : Addr} {fd : FuncData} (F : Fun K "_law_column" "_law_column" s__law_column f fd) (C__law_draw : Cal P w K mg base 1 "_law_draw" ["m", "bound"] [0] false F__law_draw) (m_range : mg "range" = none) (m_tuple : mg "tuple" = none) : FnM P w K mg base 2 f fd ["m", "p", "size_so"] (spD K 3 [0] false F__law_column) :=
  fn_mini (own := [0]) F sc__law_column rfl (by decide) (by decide) (fun cd A fs s H hr hG => by
    have hu : A.units + 3 + 64 < cLine := by have := hr.un; exact Nat.lt_of_le_of_lt (by show A.units + 3 + 64 ≤ (A.units + 3) + 16 * 1 + 200; omega) this
    have hu1 : A.units + 3 + 1 < cLine := by omega
    have hu2 : A.units + 3 + 100 < cLine := by have := hr.un; exact Nat.lt_of_le_of_lt (by show A.units + 3 + 100 ≤ (A.units + 3) + 16 * 1 + 200; omega) this
    exact (mss_one (ms_ret (b_tup m_tuple (ME.b (me_fresh (mf_lc (ts := [3]) (vs := [3]) (pe_lc (own := [("spot", 3)]) rfl sc__law_column.nd (MI.pi (i_rg1 m_range (m_v (pv 2)))) (blkOk_by (N := N__law_column) (sc := defScope s__law_column) (own := [("spot", 3)]) (by decide +kernel)) (fun _ _ _ _ _ => MG.pg (mg_name (pg_name (i := 3) sc__law_column.nd rfl (by first | exact .inl rfl | exact .inr rfl)) (by decide))) (fun _ _ _ _ _ => MTs.pt (mts_nil pts_nil)) (fun _ _ _ _ _ => ME.pe (me_if (c_eq hu (m_call C__law_draw (hr.mono (by decide)) hG (k_ow (pv 0) (k_sh me_int k_nil))) me_int) me_int (m_call C__law_draw (hr.mono (by decide)) hG (k_ow (pv 0) (k_sh (m_v (pv 1)) k_nil)))))) (by decide) (by decide)))))))) (by intro h; cases h)
def g__law_of_01 : FS := (sRt (eBinO dIx 1 (eCall F__law_draw [.ow 0, .sh (eCall1 cLen (eF (eVar 1)))])))
def F__law_of_01 : FF := runF 2 g__law_of_01
theorem ok__law_of_01 {f : Addr} {fd : FuncData} (F : Fun K "_law_of" "_law_of" s__law_of f fd) (C__law_draw : Cal P w K mg base 1 "_law_draw" ["m", "bound"] [0] false F__law_draw) (m_len : mg "len" = none) : FnM P w K mg base 2 f fd ["m", "some"] (spD K 2 [0, 1] false F__law_of_01) :=
  fn_mini (own := [0, 1]) F sc__law_of rfl (by decide) (by decide) (fun cd A fs s H hr hG => by
    have hu : A.units + 3 + 64 < cLine := by have := hr.un; exact Nat.lt_of_le_of_lt (by show A.units + 3 + 64 ≤ (A.units + 3) + 16 * 1 + 200; omega) this
    have hu1 : A.units + 3 + 1 < cLine := by omega
    have hu2 : A.units + 3 + 100 < cLine := by have := hr.un; exact Nat.lt_of_le_of_lt (by show A.units + 3 + 100 ≤ (A.units + 3) + 16 * 1 + 200; omega) this
    exact (mss_one (ms_ret (m_ixO (pv 1) (m_call C__law_draw (hr.mono (by decide)) hG (k_ow (pv 0) (k_sh (b_len m_len (b_o (pv 1))) k_nil))))))) (by intro h; cases h)
abbrev s__law_table : Stmt := topS 28
abbrev N__law_table : List Str := ["m", "p", "lines", "size_so", "found", "turn", "line", "other", "entry"]
theorem sc__law_table : FnScope N__law_table ["m", "p", "lines", "size_so"] (defScope s__law_table) := ⟨rfl, rfl, rfl, by decide +kernel, rfl, by decide +kernel, by decide +kernel⟩
def g__law_table : FS := (sCons (sAsO (eLst aNil) 4)
    (sCons (sFor (iR1 (eVar 2)) (gNm 5) (sCons (sAs (eCall F__law_column [.ow 0, .sh (eVar 1), .sh (eVar 3)]) (gNm 6))
    (sCons (sIf (tAn (eTst (eBinO dNe 4 (eF (eLst aNil)))) (eTst (eBin dEq (eCall F__law_draw [.ow 0, .sh (eC (.int 3))]) (eC (.int 0))))) (sCons (sAs (eCall F__law_of_01 [.ow 0, .ow 4]) (gNm 7))
    (sAs (eCall1 cTup (eF (eLc (iS (eVar 7)) (gNm 8) tYs (eBin dMod (eCall1 cInt (eBin dMul (eC (.int 2)) (eVar 8))) (eVar 1)) [8]))) (gNm 6))) sNil)
    (sApp 4 (eVar 6)))))
    (sRt (eCall1 cTup (eF (eVar 4))))))
def F__law_table : FF := runF 9 g__law_table
theorem ok__law_table {f : Addr} {fd : FuncData} (F : Fun K "_law_table" "_law_table" s__law_table f fd) (C__law_column : Cal P w K mg base 2 "_law_column" ["m", "p", "size_so"] [0] false F__law_column) (C__law_draw : Cal P w K mg base 1 "_law_draw" ["m", "bound"] [0] false F__law_draw) (C__law_of_01 : Cal P w K mg base 2 "_law_of" ["m", "some"] [0, 1] false F__law_of_01) (m_int : mg "int" = none) (m_range : mg "range" = none) (m_tuple : mg "tuple" = none) : FnM P w K mg base 3 f fd ["m", "p", "lines", "size_so"] (spD K 4 [0] false F__law_table) :=
  fn_mini (own := [0, 4]) F sc__law_table rfl (by decide) (by decide) (fun cd A fs s H hr hG => by
    have hu : A.units + 3 + 64 < cLine := by have := hr.un; exact Nat.lt_of_le_of_lt (by show A.units + 3 + 64 ≤ (A.units + 3) + 16 * 2 + 200; omega) this
    have hu1 : A.units + 3 + 1 < cLine := by omega
    have hu2 : A.units + 3 + 100 < cLine := by have := hr.un; exact Nat.lt_of_le_of_lt (by show A.units + 3 + 100 ≤ (A.units + 3) + 16 * 2 + 200; omega) this
    exact (mss_cons (ms_setO (ps_set (i := 4) sc__law_table.nd rfl (.inl rfl) (MF.pe (mf_lst ma_nil))) (by decide) (by decide))
    (mss_cons (s_for PassesOwn.never rfl (i_rg1 m_range (m_v (pv 2))) (mg_name (pg_name (i := 5) sc__law_table.nd rfl (by first | exact .inl rfl | exact .inr rfl)) (by decide)) (mss_cons (ms_set (ps_set (i := 6) sc__law_table.nd rfl (.inl rfl) (ME.pe (m_call C__law_column (hr.mono (by decide)) hG (k_ow (pv 0) (k_sh (m_v (pv 1)) (k_sh (m_v (pv 3)) k_nil)))))) (by decide) (by decide))
    (mss_cons (ms_if (MW.t (mw_and (mt_cmpO (by decide) (pv 4) (op_neD hu) od_ne dNe_dict (ME.b (me_fresh (mf_lst ma_nil))) (nomark _)) (mw_and1 (c_eq hu (m_call C__law_draw (hr.mono (by decide)) hG (k_ow (pv 0) (k_sh me_int k_nil))) me_int)))) (mss_cons (ms_set (ps_set (i := 7) sc__law_table.nd rfl (.inl rfl) (ME.pe (m_call C__law_of_01 (hr.mono (by decide)) hG (k_ow (pv 0) (k_ow (pv 4) k_nil))))) (by decide) (by decide))
    (mss_one (ms_set (ps_set (i := 6) sc__law_table.nd rfl (.inl rfl) (ME.pe (b_tup m_tuple (ME.b (me_fresh (mf_lc (ts := [8]) (vs := [8]) (pe_lc (own := [("entry", 8)]) rfl sc__law_table.nd (MI.pi (mi_seq (m_v (pv 7)))) (blkOk_by (N := N__law_table) (sc := defScope s__law_table) (own := [("entry", 8)]) (by decide +kernel)) (fun _ _ _ _ _ => MG.pg (mg_name (pg_name (i := 8) sc__law_table.nd rfl (by first | exact .inl rfl | exact .inr rfl)) (by decide))) (fun _ _ _ _ _ => MTs.pt (mts_nil pts_nil)) (fun _ _ _ _ _ => ME.pe (m_mod (b_int m_int (ME.b (m_mul me_int (m_v (pv 8))))) (m_v (pv 1))))) (by decide) (by decide))))))) (by decide) (by decide)))) mss_nil)
    (mss_one (ms_append (k := 4) (by decide) (ps_expr (pe_bm PySem.F.plainAttrs_list PySem.F.slot_list_append PySem.F.type_list_append mt_append (pv 4) (pa_cons (ME.pe (m_v (pv 6))) pa_nil))))))))
    (mss_one (ms_ret (b_tup m_tuple (b_o (pv 4)))))))) (by intro h; cases h)
abbrev s__law_leads : Stmt := topS 19
abbrev N__law_leads : List Str := ["basis", "row", "k"]
theorem sc__law_leads : FnScope N__law_leads ["basis"] (defScope s__law_leads) := ⟨rfl, rfl, rfl, by decide +kernel, rfl, by decide +kernel, by decide +kernel⟩
def g__law_leads : FS := (sRt (eLc (iS (eVar 0)) (gNm 1) tYs (eBin dIx (eF (eLc (iR1 (eCall1 cLen (eVar 1))) (gNm 2) (eTst (eBin dNe (eBin dIx (eVar 1) (eVar 2)) (eC (.int 0)))) (eVar 2) [2])) (eC (.int 0))) [1]))
def F__law_leads : FF := runF 3 g__law_leads
theorem ok__law_leads {f : Addr} {fd : FuncData} (F : Fun K "_law_leads" "_law_leads" s__law_leads f fd) (m_len : mg "len" = none) (m_range : mg "range" = none) : FnM P w K mg base 1 f fd ["basis"] (spD K 1 [] true F__law_leads) :=
  fn_mini (own := []) F sc__law_leads rfl (by decide) (by decide) (fun cd A fs s H hr hG => by
    have hu : A.units + 3 + 64 < cLine := by have := hr.un; exact Nat.lt_of_le_of_lt (by show A.units + 3 + 64 ≤ (A.units + 3) + 16 * 0 + 200; omega) this
    have hu1 : A.units + 3 + 1 < cLine := by omega
    have hu2 : A.units + 3 + 100 < cLine := by have := hr.un; exact Nat.lt_of_le_of_lt (by show A.units + 3 + 100 ≤ (A.units + 3) + 16 * 0 + 200; omega) this
    exact (mss_one (ms_retF (mf_lc (ts := [1]) (vs := [1]) (pe_lc (own := [("row", 1)]) rfl sc__law_leads.nd (MI.pi (mi_seq (m_v (pv 0)))) (blkOk_by (N := N__law_leads) (sc := defScope s__law_leads) (own := [("row", 1)]) (by decide +kernel)) (fun _ _ _ _ _ => MG.pg (mg_name (pg_name (i := 1) sc__law_leads.nd rfl (by first | exact .inl rfl | exact .inr rfl)) (by decide))) (fun _ _ _ _ _ => MTs.pt (mts_nil pts_nil)) (fun _ _ _ _ _ => ME.pe (m_ix (me_fresh (mf_lc (ts := [2]) (vs := [2]) (pe_lc (own := [("k", 2)]) rfl sc__law_leads.nd (MI.pi (i_rg1 m_range (b_len m_len (ME.b (m_v (pv 1)))))) (blkOk_by (own := [("k", 2)]) (by rfl)) (fun _ _ _ _ _ => MG.pg (mg_name (pg_name (i := 2) sc__law_leads.nd rfl (by first | exact .inl rfl | exact .inr rfl)) (by decide))) (fun _ _ _ _ _ => MTs.pt (mts_one (c_ne hu (m_ix (m_v (pv 1)) (m_v (pv 2))) me_int) pts_one)) (fun _ _ _ _ _ => ME.pe (m_v (pv 2)))) (by decide) (by decide))) me_int))) (by decide) (by decide))))) (fun _ => nx_ret)
abbrev s__law_back : Stmt := topS 16
abbrev N__law_back : List Str := ["p", "x", "k"]
theorem sc__law_back : FnScope N__law_back ["p", "x"] (defScope s__law_back) := ⟨rfl, rfl, rfl, by decide +kernel, rfl, by decide +kernel, by decide +kernel⟩
def g__law_back : FS := (sRt (eBin dIx (eF (eLc (iR2 (eC (.int 1)) (eVar 0)) (gNm 2) (eTst (eBin dEq (eBin dMod (eCall1 cInt (eBin dMul (eVar 2) (eVar 1))) (eVar 0)) (eC (.int 1)))) (eVar 2) [2])) (eC (.int 0))))
def F__law_back : FF := runF 3 g__law_back
theorem ok__law_back {f : Addr} {fd : FuncData} (F : Fun K "_law_back" "_law_back" s__law_back f fd) (m_int : mg "int" = none) (m_range : mg "range" = none) : FnM P w K mg base 1 f fd ["p", "x"] (spD K 2 [] false F__law_back) :=
  fn_mini (own := []) F sc__law_back rfl (by decide) (by decide) (fun cd A fs s H hr hG => by
    have hu : A.units + 3 + 64 < cLine := by have := hr.un; exact Nat.lt_of_le_of_lt (by show A.units + 3 + 64 ≤ (A.units + 3) + 16 * 0 + 200; omega) this
    have hu1 : A.units + 3 + 1 < cLine := by omega
    have hu2 : A.units + 3 + 100 < cLine := by have := hr.un; exact Nat.lt_of_le_of_lt (by show A.units + 3 + 100 ≤ (A.units + 3) + 16 * 0 + 200; omega) this
    exact (mss_one (ms_ret (m_ix (me_fresh (mf_lc (ts := [2]) (vs := [2]) (pe_lc (own := [("k", 2)]) rfl sc__law_back.nd (MI.pi (i_rg2 m_range me_int (m_v (pv 0)))) (blkOk_by (N := N__law_back) (sc := defScope s__law_back) (own := [("k", 2)]) (by decide +kernel)) (fun _ _ _ _ _ => MG.pg (mg_name (pg_name (i := 2) sc__law_back.nd rfl (by first | exact .inl rfl | exact .inr rfl)) (by decide))) (fun _ _ _ _ _ => MTs.pt (mts_one (c_eq hu (m_mod (b_int m_int (ME.b (m_mul (m_v (pv 2)) (m_v (pv 1))))) (m_v (pv 0))) me_int) pts_one)) (fun _ _ _ _ _ => ME.pe (m_v (pv 2)))) (by decide) (by decide))) me_int)))) (by intro h; cases h)
abbrev s__law_off : Stmt := topS 17
abbrev N__law_off : List Str := ["p", "row", "first", "spot", "k", "j"]
theorem sc__law_off : FnScope N__law_off ["p", "row", "first", "spot"] (defScope s__law_off) := ⟨rfl, rfl, rfl, by decide +kernel, rfl, by decide +kernel, by decide +kernel⟩
def g__law_off : FS := (sCons (sAs (eBin dIx (eVar 1) (eVar 3)) (gNm 4))
    (sRt (eCall1 cTup (eF (eLc (iR1 (eCall1 cLen (eVar 1))) (gNm 5) tYs (eBin dMod (eCall1 cInt (eBin dSub (eBin dIx (eVar 1) (eVar 5)) (eBin dMul (eVar 4) (eBin dIx (eVar 2) (eVar 5))))) (eVar 0)) [5])))))
def F__law_off : FF := runF 6 g__law_off
theorem ok__law_off {f : Addr} {fd : FuncData} (F : Fun K "_law_off" "_law_off" s__law_off f fd) (m_int : mg "int" = none) (m_len : mg "len" = none) (m_range : mg "range" = none) (m_tuple : mg "tuple" = none) : FnM P w K mg base 1 f fd ["p", "row", "first", "spot"] (spD K 4 [] false F__law_off) :=
  fn_mini (own := []) F sc__law_off rfl (by decide) (by decide) (fun cd A fs s H hr hG => by
    have hu : A.units + 3 + 64 < cLine := by have := hr.un; exact Nat.lt_of_le_of_lt (by show A.units + 3 + 64 ≤ (A.units + 3) + 16 * 0 + 200; omega) this
    have hu1 : A.units + 3 + 1 < cLine := by omega
    have hu2 : A.units + 3 + 100 < cLine := by have := hr.un; exact Nat.lt_of_le_of_lt (by show A.units + 3 + 100 ≤ (A.units + 3) + 16 * 0 + 200; omega) this
    exact (mss_cons (ms_set (ps_set (i := 4) sc__law_off.nd rfl (.inr rfl) (ME.pe (m_ix (m_v (pv 1)) (m_v (pv 3))))) (by decide) (by decide))
    (mss_one (ms_ret (b_tup m_tuple (ME.b (me_fresh (mf_lc (ts := [5]) (vs := [5]) (pe_lc (own := [("j", 5)]) rfl sc__law_off.nd (MI.pi (i_rg1 m_range (b_len m_len (ME.b (m_v (pv 1)))))) (blkOk_by (N := N__law_off) (sc := defScope s__law_off) (own := [("j", 5)]) (by decide +kernel)) (fun _ _ _ _ _ => MG.pg (mg_name (pg_name (i := 5) sc__law_off.nd rfl (by first | exact .inl rfl | exact .inr rfl)) (by decide))) (fun _ _ _ _ _ => MTs.pt (mts_nil pts_nil)) (fun _ _ _ _ _ => ME.pe (m_mod (b_int m_int (ME.b (m_sub (m_ix (m_v (pv 1)) (m_v (pv 5))) (m_mul (m_v (pv 4)) (m_ix (m_v (pv 2)) (m_v (pv 5))))))) (m_v (pv 0))))) (by decide) (by decide))))))))) (by intro h; cases h)
abbrev s__law_reduced : Stmt := topS 18
abbrev N__law_reduced : List Str := ["p", "rows", "size_so", "left", "found", "spot", "some", "first", "times", "row", "k", "x"]
theorem sc__law_reduced : FnScope N__law_reduced ["p", "rows", "size_so"] (defScope s__law_reduced) := ⟨rfl, rfl, rfl, by decide +kernel, rfl, by decide +kernel, by decide +kernel⟩
def g__law_reduced : FS := (sCons (sAs (eTup (aCons (eF (eLc (iS (eVar 1)) (gNm 9) tYs (eCall1 cTup (eVar 9)) [9])) (aCons (eF (eLst aNil)) aNil))) (gTp (gsCons (gNm 3) (gsCons (gNm 4) gsNil))))
    (sCons (sFor (iR1 (eVar 2)) (gNm 5) (sCons (sAs (eF (eLc (iR1 (eCall1 cLen (eVar 3))) (gNm 10) (eTst (eBin dNe (eBin dIx (eBin dIx (eVar 3) (eVar 10)) (eVar 5)) (eC (.int 0)))) (eVar 10) [10])) (gNm 6))
    (sIf (eTst (eBin dNe (eVar 6) (eF (eLst aNil)))) (sCons (sAs (eBin dIx (eVar 3) (eBin dIx (eVar 6) (eC (.int 0)))) (gNm 7))
    (sCons (sAs (eCall F__law_back [.sh (eVar 0), .sh (eBin dIx (eVar 7) (eVar 5))]) (gNm 8))
    (sCons (sAs (eCall1 cTup (eF (eLc (iS (eVar 7)) (gNm 11) tYs (eBin dMod (eCall1 cInt (eBin dMul (eVar 8) (eVar 11))) (eVar 0)) [11]))) (gNm 7))
    (sCons (sAs (eF (eLc (iR1 (eCall1 cLen (eVar 3))) (gNm 10) (eTst (eBin dNe (eVar 10) (eBin dIx (eVar 6) (eC (.int 0))))) (eCall F__law_off [.sh (eVar 0), .sh (eBin dIx (eVar 3) (eVar 10)), .sh (eVar 7), .sh (eVar 5)]) [10])) (gNm 3))
    (sAs (eBin dPlus (eF (eLc (iS (eVar 4)) (gNm 9) tYs (eCall F__law_off [.sh (eVar 0), .sh (eVar 9), .sh (eVar 7), .sh (eVar 5)]) [9])) (eF (eLst (aCons (eVar 7) aNil)))) (gNm 4)))))) sNil)))
    (sRt (eCall1 cTup (eVar 4)))))
def F__law_reduced : FF := runF 12 g__law_reduced
theorem ok__law_reduced {f : Addr} {fd : FuncData} (F : Fun K "_law_reduced" "_law_reduced" s__law_reduced f fd) (C__law_back : Cal P w K mg base 1 "_law_back" ["p", "x"] [] false F__law_back) (C__law_off : Cal P w K mg base 1 "_law_off" ["p", "row", "first", "spot"] [] false F__law_off) (m_int : mg "int" = none) (m_len : mg "len" = none) (m_range : mg "range" = none) (m_tuple : mg "tuple" = none) : FnM P w K mg base 2 f fd ["p", "rows", "size_so"] (spD K 3 [] false F__law_reduced) :=
  fn_mini (own := []) F sc__law_reduced rfl (by decide) (by decide) (fun cd A fs s H hr hG => by
    have hu : A.units + 3 + 64 < cLine := by have := hr.un; exact Nat.lt_of_le_of_lt (by show A.units + 3 + 64 ≤ (A.units + 3) + 16 * 1 + 200; omega) this
    have hu1 : A.units + 3 + 1 < cLine := by omega
    have hu2 : A.units + 3 + 100 < cLine := by have := hr.un; exact Nat.lt_of_le_of_lt (by show A.units + 3 + 100 ≤ (A.units + 3) + 16 * 1 + 200; omega) this
    exact (mss_cons (ms_asg (ps_asg (ME.pe (me_tup (ma_cons (me_fresh (mf_lc (ts := [9]) (vs := [9]) (pe_lc (own := [("row", 9)]) rfl sc__law_reduced.nd (MI.pi (mi_seq (m_v (pv 1)))) (blkOk_by (N := N__law_reduced) (sc := defScope s__law_reduced) (own := [("row", 9)]) (by decide +kernel)) (fun _ _ _ _ _ => MG.pg (mg_name (pg_name (i := 9) sc__law_reduced.nd rfl (by first | exact .inl rfl | exact .inr rfl)) (by decide))) (fun _ _ _ _ _ => MTs.pt (mts_nil pts_nil)) (fun _ _ _ _ _ => ME.pe (b_tup m_tuple (ME.b (m_v (pv 9)))))) (by decide) (by decide))) (ma_cons (me_fresh (mf_lst ma_nil)) ma_nil)))) (MG.pg (g_two rfl (pg_name (i := 3) sc__law_reduced.nd rfl (by first | exact .inl rfl | exact .inr rfl)) (pg_name (i := 4) sc__law_reduced.nd rfl (by first | exact .inl rfl | exact .inr rfl)) (fun h => pg_tup rfl h) (fun h r => pgs_cons h r) (fun h r => pgs_cons h r)))) (by decide) (by decide))
    (mss_cons (s_for PassesOwn.never rfl (i_rg1 m_range (m_v (pv 2))) (mg_name (pg_name (i := 5) sc__law_reduced.nd rfl (by first | exact .inl rfl | exact .inr rfl)) (by decide)) (mss_cons (ms_set (ps_set (i := 6) sc__law_reduced.nd rfl (.inr rfl) (ME.pe (me_fresh (mf_lc (ts := [10]) (vs := [10]) (pe_lc (own := [("k", 10)]) rfl sc__law_reduced.nd (MI.pi (i_rg1 m_range (b_len m_len (ME.b (m_v (pv 3)))))) (blkOk_by (N := N__law_reduced) (sc := defScope s__law_reduced) (own := [("k", 10)]) (by decide +kernel)) (fun _ _ _ _ _ => MG.pg (mg_name (pg_name (i := 10) sc__law_reduced.nd rfl (by first | exact .inl rfl | exact .inr rfl)) (by decide))) (fun _ _ _ _ _ => MTs.pt (mts_one (c_ne hu (m_ix (m_ix (m_v (pv 3)) (m_v (pv 10))) (m_v (pv 5))) me_int) pts_one)) (fun _ _ _ _ _ => ME.pe (m_v (pv 10)))) (by decide) (by decide))))) (by decide) (by decide))
    (mss_one (ms_if (c_ne hu (m_v (pv 6)) (me_fresh (mf_lst ma_nil))) (mss_cons (ms_set (ps_set (i := 7) sc__law_reduced.nd rfl (.inr rfl) (ME.pe (m_ix (m_v (pv 3)) (m_ix (m_v (pv 6)) me_int)))) (by decide) (by decide))
    (mss_cons (ms_set (ps_set (i := 8) sc__law_reduced.nd rfl (.inr rfl) (ME.pe (m_call C__law_back (hr.mono (by decide)) hG (k_sh (m_v (pv 0)) (k_sh (m_ix (m_v (pv 7)) (m_v (pv 5))) k_nil))))) (by decide) (by decide))
    (mss_cons (ms_set (ps_set (i := 7) sc__law_reduced.nd rfl (.inr rfl) (ME.pe (b_tup m_tuple (ME.b (me_fresh (mf_lc (ts := [11]) (vs := [11]) (pe_lc (own := [("x", 11)]) rfl sc__law_reduced.nd (MI.pi (mi_seq (m_v (pv 7)))) (blkOk_by (N := N__law_reduced) (sc := defScope s__law_reduced) (own := [("x", 11)]) (by decide +kernel)) (fun _ _ _ _ _ => MG.pg (mg_name (pg_name (i := 11) sc__law_reduced.nd rfl (by first | exact .inl rfl | exact .inr rfl)) (by decide))) (fun _ _ _ _ _ => MTs.pt (mts_nil pts_nil)) (fun _ _ _ _ _ => ME.pe (m_mod (b_int m_int (ME.b (m_mul (m_v (pv 8)) (m_v (pv 11))))) (m_v (pv 0))))) (by decide) (by decide))))))) (by decide) (by decide))
    (mss_cons (ms_set (ps_set (i := 3) sc__law_reduced.nd rfl (.inr rfl) (ME.pe (me_fresh (mf_lc (ts := [10]) (vs := [10]) (pe_lc (own := [("k", 10)]) rfl sc__law_reduced.nd (MI.pi (i_rg1 m_range (b_len m_len (ME.b (m_v (pv 3)))))) (blkOk_by (N := N__law_reduced) (sc := defScope s__law_reduced) (own := [("k", 10)]) (by decide +kernel)) (fun _ _ _ _ _ => MG.pg (mg_name (pg_name (i := 10) sc__law_reduced.nd rfl (by first | exact .inl rfl | exact .inr rfl)) (by decide))) (fun _ _ _ _ _ => MTs.pt (mts_one (c_ne hu (m_v (pv 10)) (m_ix (m_v (pv 6)) me_int)) pts_one)) (fun _ _ _ _ _ => ME.pe (m_call C__law_off (hr.mono (by decide)) hG (k_sh (m_v (pv 0)) (k_sh (m_ix (m_v (pv 3)) (m_v (pv 10))) (k_sh (m_v (pv 7)) (k_sh (m_v (pv 5)) k_nil))))))) (by decide) (by decide))))) (by decide) (by decide))
    (mss_one (ms_set (ps_set (i := 4) sc__law_reduced.nd rfl (.inl rfl) (ME.pe (m_add (me_fresh (mf_lc (ts := [9]) (vs := [9]) (pe_lc (own := [("row", 9)]) rfl sc__law_reduced.nd (MI.pi (mi_seq (m_v (pv 4)))) (blkOk_by (N := N__law_reduced) (sc := defScope s__law_reduced) (own := [("row", 9)]) (by decide +kernel)) (fun _ _ _ _ _ => MG.pg (mg_name (pg_name (i := 9) sc__law_reduced.nd rfl (by first | exact .inl rfl | exact .inr rfl)) (by decide))) (fun _ _ _ _ _ => MTs.pt (mts_nil pts_nil)) (fun _ _ _ _ _ => ME.pe (m_call C__law_off (hr.mono (by decide)) hG (k_sh (m_v (pv 0)) (k_sh (m_v (pv 9)) (k_sh (m_v (pv 7)) (k_sh (m_v (pv 5)) k_nil))))))) (by decide) (by decide))) (me_fresh (mf_lst (ma_cons (m_v (pv 7)) ma_nil)))))) (by decide) (by decide))))))) mss_nil))))
    (mss_one (ms_ret (b_tup m_tuple (ME.b (m_v (pv 4))))))))) (by intro h; cases h)
abbrev s__law_kernel : Stmt := topS 20
abbrev N__law_kernel : List Str := ["p", "table_so", "size_so", "basis", "leads", "found", "free", "column_so", "k"]
theorem sc__law_kernel : FnScope N__law_kernel ["p", "table_so", "size_so"] (defScope s__law_kernel) := ⟨rfl, rfl, rfl, by decide +kernel, rfl, by decide +kernel, by decide +kernel⟩
def g__law_kernel : FS := (sCons (sAs (eCall F__law_reduced [.sh (eVar 0), .sh (eVar 1), .sh (eVar 2)]) (gNm 3))
    (sCons (sParO 4 5 (eF (eCall F__law_leads [.sh (eVar 3)])) (eLst aNil))
    (sCons (sFor (iS (eF (eLc (iR1 (eVar 2)) (gNm 8) (eTst (eBin (dInI true) (eVar 8) (eVar 4))) (eVar 8) [8]))) (gNm 6) (sCons (sAsO (eRepL (eLst (aCons (eC (.int 0)) aNil)) (eVar 2)) 7)
    (sCons (sSt 7 (eC (.int 1)) (eVar 6))
    (sCons (sFor (iR1 (eCall1 cLen (eVar 4))) (gNm 8) (sSt 7 (eBin dMod (eCall1 cInt (eNeg (eBin dIx (eBin dIx (eVar 3) (eVar 8)) (eVar 6)))) (eVar 0)) (eBin dIx (eVar 4) (eVar 8))))
    (sApp 5 (eCall1 cTup (eF (eVar 7))))))))
    (sRt (eBor [5, 7] 5 (eCall F__law_reduced [.sh (eVar 0), .sh (eVar 5), .sh (eVar 2)]))))))
def F__law_kernel : FF := runF 9 g__law_kernel
theorem ok__law_kernel {f : Addr} {fd : FuncData} (F : Fun K "_law_kernel" "_law_kernel" s__law_kernel f fd) (C__law_leads : Cal P w K mg base 1 "_law_leads" ["basis"] [] true F__law_leads) (C__law_reduced : Cal P w K mg base 2 "_law_reduced" ["p", "rows", "size_so"] [] false F__law_reduced) (m_int : mg "int" = none) (m_len : mg "len" = none) (m_range : mg "range" = none) (m_tuple : mg "tuple" = none) : FnM P w K mg base 3 f fd ["p", "table_so", "size_so"] (spD K 3 [] false F__law_kernel) :=
  fn_mini (own := [5, 7]) F sc__law_kernel rfl (by decide) (by decide) (fun cd A fs s H hr hG => by
    have hu : A.units + 3 + 64 < cLine := by have := hr.un; exact Nat.lt_of_le_of_lt (by show A.units + 3 + 64 ≤ (A.units + 3) + 16 * 2 + 200; omega) this
    have hu1 : A.units + 3 + 1 < cLine := by omega
    have hu2 : A.units + 3 + 100 < cLine := by have := hr.un; exact Nat.lt_of_le_of_lt (by show A.units + 3 + 100 ≤ (A.units + 3) + 16 * 2 + 200; omega) this
    exact (mss_cons (ms_set (ps_set (i := 3) sc__law_kernel.nd rfl (.inl rfl) (ME.pe (m_call C__law_reduced (hr.mono (by decide)) hG (k_sh (m_v (pv 0)) (k_sh (m_v (pv 1)) (k_sh (m_v (pv 2)) k_nil)))))) (by decide) (by decide))
    (mss_cons (ms_parOG (me_fresh (f_call C__law_leads (hr.mono (by decide)) hG (k_sh (m_v (pv 3)) k_nil))) (mf_lst ma_nil) (fun h => ps_asg h (pg_tup rfl (pgs_cons (pg_name (i := 4) sc__law_kernel.nd rfl (by first | exact .inl rfl | exact .inr rfl)) (pgs_cons (pg_name (i := 5) sc__law_kernel.nd rfl (by first | exact .inl rfl | exact .inr rfl)) pgs_nil)))))
    (mss_cons (s_for PassesOwn.never rfl (mi_seq (me_fresh (mf_lc (ts := [8]) (vs := [8]) (pe_lc (own := [("k", 8)]) rfl sc__law_kernel.nd (MI.pi (i_rg1 m_range (m_v (pv 2)))) (blkOk_by (N := N__law_kernel) (sc := defScope s__law_kernel) (own := [("k", 8)]) (by decide +kernel)) (fun _ _ _ _ _ => MG.pg (mg_name (pg_name (i := 8) sc__law_kernel.nd rfl (by first | exact .inl rfl | exact .inr rfl)) (by decide))) (fun _ _ _ _ _ => MTs.pt (mts_one (c_ninI (m_v (pv 8)) (ME.b (m_v (pv 4)))) pts_one)) (fun _ _ _ _ _ => ME.pe (m_v (pv 8)))) (by decide) (by decide)))) (mg_name (pg_name (i := 6) sc__law_kernel.nd rfl (by first | exact .inl rfl | exact .inr rfl)) (by decide)) (mss_cons (ms_setO (ps_set (i := 7) sc__law_kernel.nd rfl (.inl rfl) (MF.pe (f_repL (mf_lst (ma_cons me_int ma_nil)) (m_v (pv 2))))) (by decide) (by decide))
    (mss_cons (ms_store (by decide) (ps_asg (ME.pe me_int) (pg_sub (pv 7) (ME.pe (m_v (pv 6))) set_list)))
    (mss_cons (s_for PassesOwn.never rfl (i_rg1 m_range (b_len m_len (ME.b (m_v (pv 4))))) (mg_name (pg_name (i := 8) sc__law_kernel.nd rfl (by first | exact .inl rfl | exact .inr rfl)) (by decide)) (mss_one (ms_store (by decide) (ps_asg (ME.pe (m_mod (b_int m_int (ME.b (m_neg (m_ix (m_ix (m_v (pv 3)) (m_v (pv 8))) (m_v (pv 6)))))) (m_v (pv 0)))) (pg_sub (pv 7) (ME.pe (m_ix (m_v (pv 4)) (m_v (pv 8)))) set_list)))))
    (mss_one (ms_append (k := 5) (by decide) (ps_expr (pe_bm PySem.F.plainAttrs_list PySem.F.slot_list_append PySem.F.type_list_append mt_append (pv 5) (pa_cons (ME.pe (b_tup m_tuple (b_o (pv 7)))) pa_nil)))))))))
    (mss_one (ms_ret (me_bor (k := 5) (m_call C__law_reduced (hr.mono (by decide)) hG (k_sh (m_v (pv 0)) (k_sh (m_v (pv 5)) (k_sh (m_v (pv 2)) k_nil))))))))))) (by intro h; cases h)
abbrev s__law_every : Stmt := topS 29
abbrev N__law_every : List Str := ["p", "size_so", "found", "spot", "longer", "column_so", "x"]
theorem sc__law_every : FnScope N__law_every ["p", "size_so"] (defScope s__law_every) := ⟨rfl, rfl, rfl, by decide +kernel, rfl, by decide +kernel, by decide +kernel⟩
def g__law_every : FS := (sCons (sAs (eF (eLst (aCons (eWk (eTup aNil)) aNil))) (gNm 2))
    (sCons (sFor (iR1 (eVar 1)) (gNm 3) (sOwnMv (eLst aNil) 4 (sFor (iS (eVar 2)) (gNm 5) (sExt 4 (eLc (iR1 (eVar 0)) (gNm 6) tYs (eBin dCatW (eVar 5) (eWk (eTup (aCons (eVar 6) aNil)))) [6]))) 2))
    (sRt (eVar 2))))
def F__law_every : FF := runF 7 g__law_every
theorem ok__law_every {f : Addr} {fd : FuncData} (F : Fun K "_law_every" "_law_every" s__law_every f fd) (m_range : mg "range" = none) : FnM P w K mg base 1 f fd ["p", "size_so"] (spD K 2 [] false F__law_every) :=
  fn_mini (own := []) F sc__law_every rfl (by decide) (by decide) (fun cd A fs s H hr hG => by
    have hu : A.units + 3 + 64 < cLine := by have := hr.un; exact Nat.lt_of_le_of_lt (by show A.units + 3 + 64 ≤ (A.units + 3) + 16 * 0 + 200; omega) this
    have hu1 : A.units + 3 + 1 < cLine := by omega
    have hu2 : A.units + 3 + 100 < cLine := by have := hr.un; exact Nat.lt_of_le_of_lt (by show A.units + 3 + 100 ≤ (A.units + 3) + 16 * 0 + 200; omega) this
    exact (mss_cons (ms_set (ps_set (i := 2) sc__law_every.nd rfl (.inl rfl) (ME.pe (me_fresh (mf_lst (ma_cons (me_wk (n_disp ma_nil)) ma_nil))))) (by decide) (by decide))
    (mss_cons (s_for PassesOwn.never rfl (i_rg1 m_range (m_v (pv 1))) (mg_name (pg_name (i := 3) sc__law_every.nd rfl (by first | exact .inl rfl | exact .inr rfl)) (by decide)) (mss_ownMv (i := 4) (j := 2) (ps_set (i := 4) sc__law_every.nd rfl (.inl rfl) (MF.pe (mf_lst ma_nil))) (fun _ => (s_for PassesOwn.never rfl (mi_seq (m_v (pv 2))) (mg_name (pg_name (i := 5) sc__law_every.nd rfl (by first | exact .inl rfl | exact .inr rfl)) (by decide)) (mss_one (ms_extend (k := 4) (by decide) (ps_expr (pe_bm PySem.F.plainAttrs_list PySem.F.slot_list_extend PySem.F.type_list_extend mt_extend (pv 4) (pa_cons (MF.pe (mf_lc (ts := [6]) (vs := [6]) (pe_lc (own := [("x", 6)]) rfl sc__law_every.nd (MI.pi (i_rg1 m_range (m_v (pv 0)))) (blkOk_by (N := N__law_every) (sc := defScope s__law_every) (own := [("x", 6)]) (by decide +kernel)) (fun _ _ _ _ _ => MG.pg (mg_name (pg_name (i := 6) sc__law_every.nd rfl (by first | exact .inl rfl | exact .inr rfl)) (by decide))) (fun _ _ _ _ _ => MTs.pt (mts_nil pts_nil)) (fun _ _ _ _ _ => ME.pe (m_catW (m_v (pv 5)) (me_wk (n_disp (ma_cons (m_v (pv 6)) ma_nil)))))) (by decide) (by decide))) pa_nil))))))) (ps_set (i := 2) sc__law_every.nd rfl (.inl rfl) (pv 4))))
    (mss_one (ms_ret (m_v (pv 2))))))) (by intro h; cases h)
abbrev s__law_led : Stmt := topS 22
abbrev N__law_led : List Str := ["p", "table_so", "column_so", "row", "j"]
theorem sc__law_led : FnScope N__law_led ["p", "table_so", "column_so"] (defScope s__law_led) := ⟨rfl, rfl, rfl, by decide +kernel, rfl, by decide +kernel, by decide +kernel⟩
def g__law_led : FS := (sRt (eWk (eCall1 cTupL (eLc (iS (eVar 1)) (gNm 3) tYs (eBin dMod (eCall1 cInt (eCall1 cSum (eF (eLc (iR1 (eCall1 cLen (eVar 2))) (gNm 4) tYs (eBin dMul (eBin dIx (eVar 3) (eVar 4)) (eBin dIx (eVar 2) (eVar 4))) [4])))) (eVar 0)) [3]))))
def F__law_led : FF := runF 5 g__law_led
theorem ok__law_led {f : Addr} {fd : FuncData} (F : Fun K "_law_led" "_law_led" s__law_led f fd) (m_int : mg "int" = none) (m_len : mg "len" = none) (m_range : mg "range" = none) (m_sum : mg "sum" = none) (m_tuple : mg "tuple" = none) : FnM P w K mg base 1 f fd ["p", "table_so", "column_so"] (spD K 3 [] false F__law_led) :=
  fn_mini (own := []) F sc__law_led rfl (by decide) (by decide) (fun cd A fs s H hr hG => by
    have hu : A.units + 3 + 64 < cLine := by have := hr.un; exact Nat.lt_of_le_of_lt (by show A.units + 3 + 64 ≤ (A.units + 3) + 16 * 0 + 200; omega) this
    have hu1 : A.units + 3 + 1 < cLine := by omega
    have hu2 : A.units + 3 + 100 < cLine := by have := hr.un; exact Nat.lt_of_le_of_lt (by show A.units + 3 + 100 ≤ (A.units + 3) + 16 * 0 + 200; omega) this
    exact (mss_one (ms_ret (me_wk (n_tup m_tuple (mf_lc (ts := [3]) (vs := [3]) (pe_lc (own := [("row", 3)]) rfl sc__law_led.nd (MI.pi (mi_seq (m_v (pv 1)))) (blkOk_by (N := N__law_led) (sc := defScope s__law_led) (own := [("row", 3)]) (by decide +kernel)) (fun _ _ _ _ _ => MG.pg (mg_name (pg_name (i := 3) sc__law_led.nd rfl (by first | exact .inl rfl | exact .inr rfl)) (by decide))) (fun _ _ _ _ _ => MTs.pt (mts_nil pts_nil)) (fun _ _ _ _ _ => ME.pe (m_mod (b_int m_int (ME.b (b_sum rfl m_sum (ME.b (me_fresh (mf_lc (ts := [4]) (vs := [4]) (pe_lc (own := [("j", 4)]) rfl sc__law_led.nd (MI.pi (i_rg1 m_range (b_len m_len (ME.b (m_v (pv 2)))))) (blkOk_by (own := [("j", 4)]) (by rfl)) (fun _ _ _ _ _ => MG.pg (mg_name (pg_name (i := 4) sc__law_led.nd rfl (by first | exact .inl rfl | exact .inr rfl)) (by decide))) (fun _ _ _ _ _ => MTs.pt (mts_nil pts_nil)) (fun _ _ _ _ _ => ME.pe (m_mul (m_ix (m_v (pv 3)) (m_v (pv 4))) (m_ix (m_v (pv 2)) (m_v (pv 4)))))) (by decide) (by decide))))))) (m_v (pv 0))))) (by decide) (by decide))))))) (by intro h; cases h)
abbrev s_zeros : Stmt := topS 1
abbrev N_zeros : List Str := ["size"]
theorem sc_zeros : FnScope N_zeros ["size"] (defScope s_zeros) := ⟨rfl, rfl, rfl, by decide +kernel, rfl, by decide +kernel, by decide +kernel⟩
def g_zeros : FS := (sRt (eBin dRep (eTup (aCons (eC (.int 0)) aNil)) (eVar 0)))
def F_zeros : FF := runF 1 g_zeros
theorem ok_zeros {f : Addr} {fd : FuncData} (F : Fun K "zeros" "zeros" s_zeros f fd) : FnM P w K mg base 1 f fd ["size"] (spD K 1 [] false F_zeros) :=
  fn_mini (own := []) F sc_zeros rfl (by decide) (by decide) (fun cd A fs s H hr hG => by
    have hu : A.units + 3 + 64 < cLine := by have := hr.un; exact Nat.lt_of_le_of_lt (by show A.units + 3 + 64 ≤ (A.units + 3) + 16 * 0 + 200; omega) this
    have hu1 : A.units + 3 + 1 < cLine := by omega
    have hu2 : A.units + 3 + 100 < cLine := by have := hr.un; exact Nat.lt_of_le_of_lt (by show A.units + 3 + 100 ≤ (A.units + 3) + 16 * 0 + 200; omega) this
    exact (mss_one (ms_ret (m_repT (me_tup (ma_cons me_int ma_nil)) (m_v (pv 0)))))) (by intro h; cases h)
abbrev s_inverse : Stmt := topS 5
abbrev N_inverse : List Str := ["prime", "number", "k"]
theorem sc_inverse : FnScope N_inverse ["prime", "number"] (defScope s_inverse) := ⟨rfl, rfl, rfl, by decide +kernel, rfl, by decide +kernel, by decide +kernel⟩
def g_inverse : FS := (sRt (eBin dIx (eF (eLc (iR2 (eC (.int 1)) (eVar 0)) (gNm 2) (eTst (eBin dEq (eBin dMod (eBin dMul (eVar 2) (eVar 1)) (eVar 0)) (eC (.int 1)))) (eVar 2) [2])) (eC (.int 0))))
def F_inverse : FF := runF 3 g_inverse
theorem ok_inverse {f : Addr} {fd : FuncData} (F : Fun K "inverse" "inverse" s_inverse f fd) (m_range : mg "range" = none) : FnM P w K mg base 1 f fd ["prime", "number"] (spD K 2 [] false F_inverse) :=
  fn_mini (own := []) F sc_inverse rfl (by decide) (by decide) (fun cd A fs s H hr hG => by
    have hu : A.units + 3 + 64 < cLine := by have := hr.un; exact Nat.lt_of_le_of_lt (by show A.units + 3 + 64 ≤ (A.units + 3) + 16 * 0 + 200; omega) this
    have hu1 : A.units + 3 + 1 < cLine := by omega
    have hu2 : A.units + 3 + 100 < cLine := by have := hr.un; exact Nat.lt_of_le_of_lt (by show A.units + 3 + 100 ≤ (A.units + 3) + 16 * 0 + 200; omega) this
    exact (mss_one (ms_ret (m_ix (me_fresh (mf_lc (ts := [2]) (vs := [2]) (pe_lc (own := [("k", 2)]) rfl sc_inverse.nd (MI.pi (i_rg2 m_range me_int (m_v (pv 0)))) (blkOk_by (N := N_inverse) (sc := defScope s_inverse) (own := [("k", 2)]) (by decide +kernel)) (fun _ _ _ _ _ => MG.pg (mg_name (pg_name (i := 2) sc_inverse.nd rfl (by first | exact .inl rfl | exact .inr rfl)) (by decide))) (fun _ _ _ _ _ => MTs.pt (mts_one (c_eq hu (m_mod (m_mul (m_v (pv 2)) (m_v (pv 1))) (m_v (pv 0))) me_int) pts_one)) (fun _ _ _ _ _ => ME.pe (m_v (pv 2)))) (by decide) (by decide))) me_int)))) (by intro h; cases h)
abbrev s_scaled : Stmt := topS 6
abbrev N_scaled : List Str := ["prime", "column", "place", "factor", "a"]
theorem sc_scaled : FnScope N_scaled ["prime", "column", "place"] (defScope s_scaled) := ⟨rfl, rfl, rfl, by decide +kernel, rfl, by decide +kernel, by decide +kernel⟩
def g_scaled : FS := (sCons (sAs (eCall F_inverse [.sh (eVar 0), .sh (eBin dIx (eVar 1) (eVar 2))]) (gNm 3))
    (sRt (eCall1 cTup (eF (eLc (iS (eVar 1)) (gNm 4) tYs (eBin dMod (eBin dMul (eVar 3) (eVar 4)) (eVar 0)) [4])))))
def F_scaled : FF := runF 5 g_scaled
theorem ok_scaled {f : Addr} {fd : FuncData} (F : Fun K "scaled" "scaled" s_scaled f fd) (C_inverse : Cal P w K mg base 1 "inverse" ["prime", "number"] [] false F_inverse) (m_tuple : mg "tuple" = none) : FnM P w K mg base 2 f fd ["prime", "column", "place"] (spD K 3 [] false F_scaled) :=
  fn_mini (own := []) F sc_scaled rfl (by decide) (by decide) (fun cd A fs s H hr hG => by
    have hu : A.units + 3 + 64 < cLine := by have := hr.un; exact Nat.lt_of_le_of_lt (by show A.units + 3 + 64 ≤ (A.units + 3) + 16 * 1 + 200; omega) this
    have hu1 : A.units + 3 + 1 < cLine := by omega
    have hu2 : A.units + 3 + 100 < cLine := by have := hr.un; exact Nat.lt_of_le_of_lt (by show A.units + 3 + 100 ≤ (A.units + 3) + 16 * 1 + 200; omega) this
    exact (mss_cons (ms_set (ps_set (i := 3) sc_scaled.nd rfl (.inr rfl) (ME.pe (m_call C_inverse (hr.mono (by decide)) hG (k_sh (m_v (pv 0)) (k_sh (m_ix (m_v (pv 1)) (m_v (pv 2))) k_nil))))) (by decide) (by decide))
    (mss_one (ms_ret (b_tup m_tuple (ME.b (me_fresh (mf_lc (ts := [4]) (vs := [4]) (pe_lc (own := [("a", 4)]) rfl sc_scaled.nd (MI.pi (mi_seq (m_v (pv 1)))) (blkOk_by (N := N_scaled) (sc := defScope s_scaled) (own := [("a", 4)]) (by decide +kernel)) (fun _ _ _ _ _ => MG.pg (mg_name (pg_name (i := 4) sc_scaled.nd rfl (by first | exact .inl rfl | exact .inr rfl)) (by decide))) (fun _ _ _ _ _ => MTs.pt (mts_nil pts_nil)) (fun _ _ _ _ _ => ME.pe (m_mod (m_mul (m_v (pv 3)) (m_v (pv 4))) (m_v (pv 0))))) (by decide) (by decide))))))))) (by intro h; cases h)
abbrev s_less_times : Stmt := topS 4
abbrev N_less_times : List Str := ["prime", "column", "factor", "taken", "a", "b"]
theorem sc_less_times : FnScope N_less_times ["prime", "column", "factor", "taken"] (defScope s_less_times) := ⟨rfl, rfl, rfl, by decide +kernel, rfl, by decide +kernel, by decide +kernel⟩
def g_less_times : FS := (sRt (eCall1 cTup (eF (eLc (iZ (eVar 1) (eVar 3)) (gTp (gsCons (gNm 4) (gsCons (gNm 5) gsNil))) tYs (eBin dMod (eBin dSub (eVar 4) (eBin dMul (eVar 2) (eVar 5))) (eVar 0)) [4, 5]))))
def F_less_times : FF := runF 6 g_less_times
theorem ok_less_times {f : Addr} {fd : FuncData} (F : Fun K "less_times" "less_times" s_less_times f fd) (m_tuple : mg "tuple" = none) (m_zip : mg "zip" = none) : FnM P w K mg base 1 f fd ["prime", "column", "factor", "taken"] (spD K 4 [] false F_less_times) :=
  fn_mini (own := []) F sc_less_times rfl (by decide) (by decide) (fun cd A fs s H hr hG => by
    have hu : A.units + 3 + 64 < cLine := by have := hr.un; exact Nat.lt_of_le_of_lt (by show A.units + 3 + 64 ≤ (A.units + 3) + 16 * 0 + 200; omega) this
    have hu1 : A.units + 3 + 1 < cLine := by omega
    have hu2 : A.units + 3 + 100 < cLine := by have := hr.un; exact Nat.lt_of_le_of_lt (by show A.units + 3 + 100 ≤ (A.units + 3) + 16 * 0 + 200; omega) this
    exact (mss_one (ms_ret (b_tup m_tuple (ME.b (me_fresh (mf_lc (ts := [4, 5]) (vs := [4, 5]) (pe_lc (own := [("a", 4), ("b", 5)]) rfl sc_less_times.nd (MI.pi (i_zip m_zip (m_v (pv 1)) (m_v (pv 3)))) (blkOk_by (N := N_less_times) (sc := defScope s_less_times) (own := [("a", 4), ("b", 5)]) (by decide +kernel)) (fun _ _ _ _ _ => MG.pg (g_two rfl (pg_name (i := 4) sc_less_times.nd rfl (by first | exact .inl rfl | exact .inr rfl)) (pg_name (i := 5) sc_less_times.nd rfl (by first | exact .inl rfl | exact .inr rfl)) (fun h => pg_tup rfl h) (fun h r => pgs_cons h r) (fun h r => pgs_cons h r))) (fun _ _ _ _ _ => MTs.pt (mts_nil pts_nil)) (fun _ _ _ _ _ => ME.pe (m_mod (m_sub (m_v (pv 4)) (m_mul (m_v (pv 2)) (m_v (pv 5)))) (m_v (pv 0))))) (by decide) (by decide)))))))) (by intro h; cases h)
abbrev s_reduced : Stmt := topS 7
abbrev N_reduced : List Str := ["prime", "columns", "size", "found", "done", "place", "fitting", "pivot", "at", "column"]
theorem sc_reduced : FnScope N_reduced ["prime", "columns", "size"] (defScope s_reduced) := ⟨rfl, rfl, rfl, by decide +kernel, rfl, by decide +kernel, by decide +kernel⟩
def g_reduced : FS := (sCons (sAsO (eCall1 cList (eVar 1)) 3)
    (sCons (sAs (eC (.int 0)) (gNm 4))
    (sCons (sFor (iR1 (eVar 2)) (gNm 5) (sCons (sAs (eF (eLc (iR2 (eVar 4) (eCall1 cLen (eF (eVar 3)))) (gNm 8) (eTst (eBin dNe (eBin dIx (eBinO dIx 3 (eVar 8)) (eVar 5)) (eC (.int 0)))) (eVar 8) [8])) (gNm 6))
    (sCons (sIf (tNt (eTru (eVar 6))) sCt sNil)
    (sCons (sAs (eCall F_scaled [.sh (eVar 0), .sh (eBinO dIx 3 (eBin dIx (eVar 6) (eC (.int 0)))), .sh (eVar 5)]) (gNm 7))
    (sCons (sSt 3 (eBinO dIx 3 (eVar 4)) (eBin dIx (eVar 6) (eC (.int 0))))
    (sCons (sSt 3 (eVar 7) (eVar 4))
    (sCons (sFor (iEn (eF (eCall1 cList (eF (eVar 3))))) (gTp (gsCons (gNm 8) (gsCons (gNm 9) gsNil))) (sIf (tAn (eTst (eBin dNe (eVar 8) (eVar 4))) (eTst (eBin dNe (eBin dIx (eVar 9) (eVar 5)) (eC (.int 0))))) (sSt 3 (eCall F_less_times [.sh (eVar 0), .sh (eVar 9), .sh (eBin dIx (eVar 9) (eVar 5)), .sh (eVar 7)]) (eVar 8)) sNil))
    (sAug 4 (dI fun a b => .int (a + b)) (eC (.int 1))))))))))
    (sRt (eCall1 cTup (eSlO 3 oNo (oIn (eVar 4))))))))
def F_reduced : FF := runF 10 g_reduced
theorem ok_reduced {f : Addr} {fd : FuncData} (F : Fun K "reduced" "reduced" s_reduced f fd) (C_less_times : Cal P w K mg base 1 "less_times" ["prime", "column", "factor", "taken"] [] false F_less_times) (C_scaled : Cal P w K mg base 2 "scaled" ["prime", "column", "place"] [] false F_scaled) (m_enumerate : mg "enumerate" = none) (m_len : mg "len" = none) (m_list : mg "list" = none) (m_range : mg "range" = none) (m_tuple : mg "tuple" = none) : FnM P w K mg base 3 f fd ["prime", "columns", "size"] (spD K 3 [] false F_reduced) :=
  fn_mini (own := [3]) F sc_reduced rfl (by decide) (by decide) (fun cd A fs s H hr hG => by
    have hu : A.units + 3 + 64 < cLine := by have := hr.un; exact Nat.lt_of_le_of_lt (by show A.units + 3 + 64 ≤ (A.units + 3) + 16 * 2 + 200; omega) this
    have hu1 : A.units + 3 + 1 < cLine := by omega
    have hu2 : A.units + 3 + 100 < cLine := by have := hr.un; exact Nat.lt_of_le_of_lt (by show A.units + 3 + 100 ≤ (A.units + 3) + 16 * 2 + 200; omega) this
    exact (mss_cons (ms_setO (ps_set (i := 3) sc_reduced.nd rfl (.inr rfl) (MF.pe (f_list m_list (ME.b (m_v (pv 1)))))) (by decide) (by decide))
    (mss_cons (ms_set (ps_set (i := 4) sc_reduced.nd rfl (.inl rfl) (ME.pe me_int)) (by decide) (by decide))
    (mss_cons (s_for PassesOwn.never rfl (i_rg1 m_range (m_v (pv 2))) (mg_name (pg_name (i := 5) sc_reduced.nd rfl (by first | exact .inl rfl | exact .inr rfl)) (by decide)) (mss_cons (ms_setLc (ts := [8]) (vs := [8]) (ps_setLc (i := 6) (own := [("at", 8)]) rfl sc_reduced.nd rfl rfl (sw_true rfl rfl rfl (by decide +kernel)) (MI.pi (i_rg2 m_range (m_v (pv 4)) (b_len m_len (b_o (pv 3))))) (blkOk_by (N := N_reduced) (sc := defScope s_reduced) (own := [("at", 8)]) (by decide +kernel)) (fun _ _ _ _ _ => MG.pg (mg_name (pg_name (i := 8) sc_reduced.nd rfl (by first | exact .inl rfl | exact .inr rfl)) (by decide))) (fun _ _ _ _ _ => MTs.pt (mts_one (c_ne hu (m_ix (m_ixO (pv 3) (m_v (pv 8))) (m_v (pv 5))) me_int) pts_one)) (fun _ _ _ _ _ => ME.pe (m_v (pv 8)))))
    (mss_cons (ms_if (mt_not (mt_truth (ME.b (m_v (pv 6))) (fun _ => rfl))) (mss_one ms_continue) mss_nil)
    (mss_cons (ms_set (ps_set (i := 7) sc_reduced.nd rfl (.inl rfl) (ME.pe (m_call C_scaled (hr.mono (by decide)) hG (k_sh (m_v (pv 0)) (k_sh (m_ixO (pv 3) (m_ix (m_v (pv 6)) me_int)) (k_sh (m_v (pv 5)) k_nil)))))) (by decide) (by decide))
    (mss_cons (ms_store (by decide) (ps_asg (ME.pe (m_ixO (pv 3) (m_v (pv 4)))) (pg_sub (pv 3) (ME.pe (m_ix (m_v (pv 6)) me_int)) set_list)))
    (mss_cons (ms_store (by decide) (ps_asg (ME.pe (m_v (pv 7))) (pg_sub (pv 3) (ME.pe (m_v (pv 4))) set_list)))
    (mss_cons (s_for PassesOwn.never rfl (i_enum m_enumerate (me_fresh (f_list m_list (b_o (pv 3))))) (g_two rfl (pg_name (i := 8) sc_reduced.nd rfl (by first | exact .inl rfl | exact .inr rfl)) (pg_name (i := 9) sc_reduced.nd rfl (by first | exact .inl rfl | exact .inr rfl)) (fun h => pg_tup rfl h) (fun h r => pgs_cons h r) (fun h r => pgs_cons h r)) (mss_one (ms_if (MW.t (mw_and (c_ne hu (m_v (pv 8)) (m_v (pv 4))) (mw_and1 (c_ne hu (m_ix (m_v (pv 9)) (m_v (pv 5))) me_int)))) (mss_one (ms_store (by decide) (ps_asg (ME.pe (m_call C_less_times (hr.mono (by decide)) hG (k_sh (m_v (pv 0)) (k_sh (m_v (pv 9)) (k_sh (m_ix (m_v (pv 9)) (m_v (pv 5))) (k_sh (m_v (pv 7)) k_nil)))))) (pg_sub (pv 3) (ME.pe (m_v (pv 8))) set_list)))) mss_nil)))
    (mss_one (ms_augI (ps_aug (i := 4) sc_reduced.nd rfl (.inl rfl) (ME.pe me_int) ip_add) (by decide) (by decide))))))))))
    (mss_one (ms_ret (b_tup m_tuple (ME.b (me_sliceO (by decide) (pv 3) mo_none (mo_some (m_v (pv 4)) po_some)))))))))) (by intro h; cases h)
abbrev s_solved : Stmt := topS 8
abbrev N_solved : List Str := ["prime", "table", "size", "column", "wide", "found", "line", "place", "entry"]
theorem sc_solved : FnScope N_solved ["prime", "table", "size", "column"] (defScope s_solved) := ⟨rfl, rfl, rfl, by decide +kernel, rfl, by decide +kernel, by decide +kernel⟩
def g_solved : FS := (sCons (sAs (eCall1 cTup (eF (eLc (iZ (eVar 1) (eVar 3)) (gTp (gsCons (gNm 6) (gsCons (gNm 8) gsNil))) tYs (eBin dPlus (eRev (eVar 6)) (eTup (aCons (eVar 8) aNil))) [6, 8]))) (gNm 4))
    (sCons (sAsO (eCall1 cList (eCall F_zeros [.sh (eVar 2)])) 5)
    (sCons (sFor (iS (eCall F_reduced [.sh (eVar 0), .sh (eVar 4), .sh (eBin dPlus (eVar 2) (eC (.int 1)))])) (gNm 6) (sCons (sAs (eBin dIdx (eVar 6) (eC (.int 1))) (gNm 7))
    (sCons (sIf (eTst (eBin dEq (eVar 7) (eVar 2))) (sRt (eC .none)) sNil)
    (sSt 5 (eBin dIx (eVar 6) (eVar 2)) (eBin dSub (eBin dSub (eVar 2) (eC (.int 1))) (eVar 7))))))
    (sRt (eCall1 cTup (eF (eVar 5)))))))
def F_solved : FF := runF 9 g_solved
theorem ok_solved {f : Addr} {fd : FuncData} (F : Fun K "solved" "solved" s_solved f fd) (C_reduced : Cal P w K mg base 3 "reduced" ["prime", "columns", "size"] [] false F_reduced) (C_zeros : Cal P w K mg base 1 "zeros" ["size"] [] false F_zeros) (m_list : mg "list" = none) (m_tuple : mg "tuple" = none) (m_zip : mg "zip" = none) : FnM P w K mg base 4 f fd ["prime", "table", "size", "column"] (spD K 4 [] false F_solved) :=
  fn_mini (own := [5]) F sc_solved rfl (by decide) (by decide) (fun cd A fs s H hr hG => by
    have hu : A.units + 3 + 64 < cLine := by have := hr.un; exact Nat.lt_of_le_of_lt (by show A.units + 3 + 64 ≤ (A.units + 3) + 16 * 3 + 200; omega) this
    have hu1 : A.units + 3 + 1 < cLine := by omega
    have hu2 : A.units + 3 + 100 < cLine := by have := hr.un; exact Nat.lt_of_le_of_lt (by show A.units + 3 + 100 ≤ (A.units + 3) + 16 * 3 + 200; omega) this
    exact (mss_cons (ms_set (ps_set (i := 4) sc_solved.nd rfl (.inl rfl) (ME.pe (b_tup m_tuple (ME.b (me_fresh (mf_lc (ts := [6, 8]) (vs := [6, 8]) (pe_lc (own := [("line", 6), ("entry", 8)]) rfl sc_solved.nd (MI.pi (i_zip m_zip (m_v (pv 1)) (m_v (pv 3)))) (blkOk_by (N := N_solved) (sc := defScope s_solved) (own := [("line", 6), ("entry", 8)]) (by decide +kernel)) (fun _ _ _ _ _ => MG.pg (g_two rfl (pg_name (i := 6) sc_solved.nd rfl (by first | exact .inl rfl | exact .inr rfl)) (pg_name (i := 8) sc_solved.nd rfl (by first | exact .inl rfl | exact .inr rfl)) (fun h => pg_tup rfl h) (fun h r => pgs_cons h r) (fun h r => pgs_cons h r))) (fun _ _ _ _ _ => MTs.pt (mts_nil pts_nil)) (fun _ _ _ _ _ => ME.pe (m_add (m_rev (m_v (pv 6))) (me_tup (ma_cons (m_v (pv 8)) ma_nil))))) (by decide) (by decide))))))) (by decide) (by decide))
    (mss_cons (ms_setO (ps_set (i := 5) sc_solved.nd rfl (.inl rfl) (MF.pe (f_list m_list (ME.b (m_call C_zeros (hr.mono (by decide)) hG (k_sh (m_v (pv 2)) k_nil)))))) (by decide) (by decide))
    (mss_cons (s_for PassesOwn.never rfl (mi_seq (m_call C_reduced (hr.mono (by decide)) hG (k_sh (m_v (pv 0)) (k_sh (m_v (pv 4)) (k_sh (m_add (m_v (pv 2)) me_int) k_nil))))) (mg_name (pg_name (i := 6) sc_solved.nd rfl (by first | exact .inl rfl | exact .inr rfl)) (by decide)) (mss_cons (ms_set (ps_set (i := 7) sc_solved.nd rfl (.inl rfl) (ME.pe (me_idxT (m_v (pv 6)) me_int (fun a b => pe_mG ty_tup PySem.F.plainAttrs_tuple PySem.F.slot_tuple_index PySem.F.type_tuple_index mt_idxT a b)))) (by decide) (by decide))
    (mss_cons (ms_if (c_eq hu (m_v (pv 7)) (m_v (pv 2))) (mss_one (ms_ret me_non)) mss_nil)
    (mss_one (ms_store (by decide) (ps_asg (ME.pe (m_ix (m_v (pv 6)) (m_v (pv 2)))) (pg_sub (pv 5) (ME.pe (m_sub (m_sub (m_v (pv 2)) me_int) (m_v (pv 7)))) set_list)))))))
    (mss_one (ms_ret (b_tup m_tuple (b_o (pv 5))))))))) (by intro h; cases h)
abbrev s__law_all_right : Stmt := topS 31
abbrev N__law_all_right : List Str := ["m", "p", "size_so", "lines", "table_so", "leads", "due", "column_so", "spot"]
theorem sc__law_all_right : FnScope N__law_all_right ["m"] (defScope s__law_all_right) := ⟨rfl, rfl, rfl, by decide +kernel, rfl, by decide +kernel, by decide +kernel⟩
def g__law_all_right : FS := (sCons (sAs (eCall F__law_small_prime [.ow 0]) (gNm 1))
    (sCons (sPar 2 3 (eCall F__law_draw [.ow 0, .sh (eIf (eTst (eBin dLt (eVar 1) (eC (.int 5)))) (eC (.int 5)) (eC (.int 4)))]) (eCall F__law_draw [.ow 0, .sh (eIf (eTst (eBin dLt (eVar 1) (eC (.int 5)))) (eC (.int 5)) (eC (.int 4)))]))
    (sCons (sAs (eCall F__law_table [.ow 0, .sh (eVar 1), .sh (eVar 3), .sh (eVar 2)]) (gNm 4))
    (sCons (sAs (eF (eCall F__law_leads [.sh (eCall F__law_kernel [.sh (eVar 1), .sh (eVar 4), .sh (eVar 2)])])) (gNm 5))
    (sCons (sAsO eDnewT 6)
    (sCons (sFor (iS (eCall F__law_every [.sh (eVar 1), .sh (eVar 2)])) (gNm 7) (sIf (eTst (eBin dEq (eF (eLc (iS (eVar 5)) (gNm 8) (eTst (eBin dNe (eBin dIx (eVar 7) (eVar 8)) (eC (.int 0)))) (eC (.int 1)) [8])) (eF (eLst aNil)))) (sDPW 6 (eVar 7) (eCall F__law_led [.sh (eVar 1), .sh (eVar 4), .sh (eVar 7)])) sNil))
    (sCons (sFor (iS (eCall F__law_every [.sh (eVar 1), .sh (eVar 3)])) (gNm 7) (sIf (tNt (eTru (eCall F__law_like [.sh (eCall F_solved [.sh (eVar 1), .sh (eVar 4), .sh (eVar 2), .sh (eVar 7)]), .sh (eGetW 6 (eVar 7))]))) (sRt (eC (.bool false))) sNil))
    (sRt (eC (.bool true))))))))))
def F__law_all_right : FF := runF 9 g__law_all_right
theorem ok__law_all_right {f : Addr} {fd : FuncData} (F : Fun K "_law_all_right" "_law_all_right" s__law_all_right f fd) (C__law_draw : Cal P w K mg base 1 "_law_draw" ["m", "bound"] [0] false F__law_draw) (C__law_every : Cal P w K mg base 1 "_law_every" ["p", "size_so"] [] false F__law_every) (C__law_kernel : Cal P w K mg base 3 "_law_kernel" ["p", "table_so", "size_so"] [] false F__law_kernel) (C__law_leads : Cal P w K mg base 1 "_law_leads" ["basis"] [] true F__law_leads) (C__law_led : Cal P w K mg base 1 "_law_led" ["p", "table_so", "column_so"] [] false F__law_led) (C__law_like : Cal P w K mg base 1 "_law_like" ["got", "due"] [] false F__law_like) (C__law_small_prime : Cal P w K mg base 3 "_law_small_prime" ["m"] [0] false F__law_small_prime) (C__law_table : Cal P w K mg base 3 "_law_table" ["m", "p", "lines", "size_so"] [0] false F__law_table) (C_solved : Cal P w K mg base 4 "solved" ["prime", "table", "size", "column"] [] false F_solved) : FnM P w K mg base 5 f fd ["m"] (spD K 1 [0] false F__law_all_right) :=
  fn_mini (own := [0, 6]) F sc__law_all_right rfl (by decide) (by decide) (fun cd A fs s H hr hG => by
    have hu : A.units + 3 + 64 < cLine := by have := hr.un; exact Nat.lt_of_le_of_lt (by show A.units + 3 + 64 ≤ (A.units + 3) + 16 * 4 + 200; omega) this
    have hu1 : A.units + 3 + 1 < cLine := by omega
    have hu2 : A.units + 3 + 100 < cLine := by have := hr.un; exact Nat.lt_of_le_of_lt (by show A.units + 3 + 100 ≤ (A.units + 3) + 16 * 4 + 200; omega) this
    exact (mss_cons (ms_set (ps_set (i := 1) sc__law_all_right.nd rfl (.inl rfl) (ME.pe (m_call C__law_small_prime (hr.mono (by decide)) hG (k_ow (pv 0) k_nil)))) (by decide) (by decide))
    (mss_cons (ms_par (m_call C__law_draw (hr.mono (by decide)) hG (k_ow (pv 0) (k_sh (me_if (c_lt (m_v (pv 1)) me_int) me_int me_int) k_nil))) (m_call C__law_draw (hr.mono (by decide)) hG (k_ow (pv 0) (k_sh (me_if (c_lt (m_v (pv 1)) me_int) me_int me_int) k_nil))) (fun h => ps_par rfl sc__law_all_right.nd rfl rfl (by decide) rfl rfl h rfl))
    (mss_cons (ms_set (ps_set (i := 4) sc__law_all_right.nd rfl (.inl rfl) (ME.pe (m_call C__law_table (hr.mono (by decide)) hG (k_ow (pv 0) (k_sh (m_v (pv 1)) (k_sh (m_v (pv 3)) (k_sh (m_v (pv 2)) k_nil))))))) (by decide) (by decide))
    (mss_cons (ms_set (ps_set (i := 5) sc__law_all_right.nd rfl (.inl rfl) (ME.pe (me_fresh (f_call C__law_leads (hr.mono (by decide)) hG (k_sh (m_call C__law_kernel (hr.mono (by decide)) hG (k_sh (m_v (pv 1)) (k_sh (m_v (pv 4)) (k_sh (m_v (pv 2)) k_nil)))) k_nil))))) (by decide) (by decide))
    (mss_cons (ms_setO (ps_set (i := 6) sc__law_all_right.nd rfl (.inl rfl) (MF.pe f_dnewT)) (by decide) (by decide))
    (mss_cons (s_for PassesOwn.never rfl (mi_seq (m_call C__law_every (hr.mono (by decide)) hG (k_sh (m_v (pv 1)) (k_sh (m_v (pv 2)) k_nil)))) (mg_name (pg_name (i := 7) sc__law_all_right.nd rfl (by first | exact .inl rfl | exact .inr rfl)) (by decide)) (mss_one (ms_if (c_eq hu (me_fresh (mf_lc (ts := [8]) (vs := [8]) (pe_lc (own := [("spot", 8)]) rfl sc__law_all_right.nd (MI.pi (mi_seq (m_v (pv 5)))) (blkOk_by (N := N__law_all_right) (sc := defScope s__law_all_right) (own := [("spot", 8)]) (by decide +kernel)) (fun _ _ _ _ _ => MG.pg (mg_name (pg_name (i := 8) sc__law_all_right.nd rfl (by first | exact .inl rfl | exact .inr rfl)) (by decide))) (fun _ _ _ _ _ => MTs.pt (mts_one (c_ne hu (m_ix (m_v (pv 7)) (m_v (pv 8))) me_int) pts_one)) (fun _ _ _ _ _ => ME.pe me_int)) (by decide) (by decide))) (me_fresh (mf_lst ma_nil))) (mss_one (ms_dputW (by decide) (ps_dput hu1 (pv 6) (ME.pe (m_call C__law_led (hr.mono (by decide)) hG (k_sh (m_v (pv 1)) (k_sh (m_v (pv 4)) (k_sh (m_v (pv 7)) k_nil))))) (ME.pe (m_v (pv 7))) rfl))) mss_nil)))
    (mss_cons (s_for PassesOwn.never rfl (mi_seq (m_call C__law_every (hr.mono (by decide)) hG (k_sh (m_v (pv 1)) (k_sh (m_v (pv 3)) k_nil)))) (mg_name (pg_name (i := 7) sc__law_all_right.nd rfl (by first | exact .inl rfl | exact .inr rfl)) (by decide)) (mss_one (ms_if (mt_not (mt_truth (ME.b (m_call C__law_like (hr.mono (by decide)) hG (k_sh (m_call C_solved (hr.mono (by decide)) hG (k_sh (m_v (pv 1)) (k_sh (m_v (pv 4)) (k_sh (m_v (pv 2)) (k_sh (m_v (pv 7)) k_nil))))) (k_sh (me_getW hu1 (by decide) (pv 6) (m_v (pv 7)) ⟨rfl, rfl, rfl, rfl⟩) k_nil)))) (fun _ => rfl))) (mss_one (ms_ret me_bl)) mss_nil)))
    (mss_one (ms_ret me_bl)))))))))) (by intro h; cases h)
abbrev s__law_prime : Stmt := topS 25
abbrev N__law_prime : List Str := ["m"]
theorem sc__law_prime : FnScope N__law_prime ["m"] (defScope s__law_prime) := ⟨rfl, rfl, rfl, by decide +kernel, rfl, by decide +kernel, by decide +kernel⟩
def g__law_prime : FS := (sRt (eCall F__law_of [.ow 0, .sh (eF (eLst (aCons (eC (.int 2)) (aCons (eC (.int 3)) (aCons (eC (.int 5)) (aCons (eC (.int 7)) (aCons (eC (.int 11)) (aCons (eC (.int 13)) aNil))))))))]))
def F__law_prime : FF := runF 1 g__law_prime
theorem ok__law_prime {f : Addr} {fd : FuncData} (F : Fun K "_law_prime" "_law_prime" s__law_prime f fd) (C__law_of : Cal P w K mg base 2 "_law_of" ["m", "some"] [0] false F__law_of) : FnM P w K mg base 3 f fd ["m"] (spD K 1 [0] false F__law_prime) :=
  fn_mini (own := [0]) F sc__law_prime rfl (by decide) (by decide) (fun cd A fs s H hr hG => by
    have hu : A.units + 3 + 64 < cLine := by have := hr.un; exact Nat.lt_of_le_of_lt (by show A.units + 3 + 64 ≤ (A.units + 3) + 16 * 2 + 200; omega) this
    have hu1 : A.units + 3 + 1 < cLine := by omega
    have hu2 : A.units + 3 + 100 < cLine := by have := hr.un; exact Nat.lt_of_le_of_lt (by show A.units + 3 + 100 ≤ (A.units + 3) + 16 * 2 + 200; omega) this
    exact (mss_one (ms_ret (m_call C__law_of (hr.mono (by decide)) hG (k_ow (pv 0) (k_sh (me_fresh (mf_lst (ma_cons me_int (ma_cons me_int (ma_cons me_int (ma_cons me_int (ma_cons me_int (ma_cons me_int ma_nil)))))))) k_nil)))))) (by intro h; cases h)
abbrev s__law_unit : Stmt := topS 24
abbrev N__law_unit : List Str := ["size_so", "i", "j"]
theorem sc__law_unit : FnScope N__law_unit ["size_so"] (defScope s__law_unit) := ⟨rfl, rfl, rfl, by decide +kernel, rfl, by decide +kernel, by decide +kernel⟩
def g__law_unit : FS := (sRt (eCall1 cTup (eF (eLc (iR1 (eVar 0)) (gNm 1) tYs (eCall1 cTup (eF (eLc (iR1 (eVar 0)) (gNm 2) tYs (eIf (eTst (eBin dEq (eVar 1) (eVar 2))) (eC (.int 1)) (eC (.int 0))) [2]))) [1]))))
def F__law_unit : FF := runF 3 g__law_unit
theorem ok__law_unit {f : Addr} {fd : FuncData} (F : Fun K "_law_unit" "_law_unit" s__law_unit f fd) (m_range : mg "range" = none) (m_tuple : mg "tuple" = none) : FnM P w K mg base 1 f fd ["size_so"] (spD K 1 [] false F__law_unit) :=
  fn_mini (own := []) F sc__law_unit rfl (by decide) (by decide) (fun cd A fs s H hr hG => by
    have hu : A.units + 3 + 64 < cLine := by have := hr.un; exact Nat.lt_of_le_of_lt (by show A.units + 3 + 64 ≤ (A.units + 3) + 16 * 0 + 200; omega) this
    have hu1 : A.units + 3 + 1 < cLine := by omega
    have hu2 : A.units + 3 + 100 < cLine := by have := hr.un; exact Nat.lt_of_le_of_lt (by show A.units + 3 + 100 ≤ (A.units + 3) + 16 * 0 + 200; omega) this
    exact (mss_one (ms_ret (b_tup m_tuple (ME.b (me_fresh (mf_lc (ts := [1]) (vs := [1]) (pe_lc (own := [("i", 1)]) rfl sc__law_unit.nd (MI.pi (i_rg1 m_range (m_v (pv 0)))) (blkOk_by (N := N__law_unit) (sc := defScope s__law_unit) (own := [("i", 1)]) (by decide +kernel)) (fun _ _ _ _ _ => MG.pg (mg_name (pg_name (i := 1) sc__law_unit.nd rfl (by first | exact .inl rfl | exact .inr rfl)) (by decide))) (fun _ _ _ _ _ => MTs.pt (mts_nil pts_nil)) (fun _ _ _ _ _ => ME.pe (b_tup m_tuple (ME.b (me_fresh (mf_lc (ts := [2]) (vs := [2]) (pe_lc (own := [("j", 2)]) rfl sc__law_unit.nd (MI.pi (i_rg1 m_range (m_v (pv 0)))) (blkOk_by (own := [("j", 2)]) (by rfl)) (fun _ _ _ _ _ => MG.pg (mg_name (pg_name (i := 2) sc__law_unit.nd rfl (by first | exact .inl rfl | exact .inr rfl)) (by decide))) (fun _ _ _ _ _ => MTs.pt (mts_nil pts_nil)) (fun _ _ _ _ _ => ME.pe (me_if (c_eq hu (m_v (pv 1)) (m_v (pv 2))) me_int me_int))) (by decide) (by decide))))))) (by decide) (by decide)))))))) (by intro h; cases h)
abbrev s__law_shuffled : Stmt := topS 14
abbrev N__law_shuffled : List Str := ["m", "count", "left", "found", "k", "one", "other"]
theorem sc__law_shuffled : FnScope N__law_shuffled ["m", "count"] (defScope s__law_shuffled) := ⟨rfl, rfl, rfl, by decide +kernel, rfl, by decide +kernel, by decide +kernel⟩
def g__law_shuffled : FS := (sCons (sParO 2 3 (eF (eLrg (eVar 1))) (eLst aNil))
    (sCons (sFor (iR1 (eVar 1)) (gNm 4) (sCons (sAs (eCall F__law_of [.ow 0, .sh (eVar 2)]) (gNm 5))
    (sCons (sAs (eF (eLc (iS (eVar 2)) (gNm 6) (eTst (eBin dNe (eVar 6) (eVar 5))) (eVar 6) [6])) (gNm 2))
    (sApp 3 (eVar 5)))))
    (sRt (eCall1 cTup (eF (eVar 3))))))
def F__law_shuffled : FF := runF 7 g__law_shuffled
theorem ok__law_shuffled {f : Addr} {fd : FuncData} (F : Fun K "_law_shuffled" "_law_shuffled" s__law_shuffled f fd) (C__law_of : Cal P w K mg base 2 "_law_of" ["m", "some"] [0] false F__law_of) (m_list : mg "list" = none) (m_range : mg "range" = none) (m_tuple : mg "tuple" = none) : FnM P w K mg base 3 f fd ["m", "count"] (spD K 2 [0] false F__law_shuffled) :=
  fn_mini (own := [0, 3]) F sc__law_shuffled rfl (by decide) (by decide) (fun cd A fs s H hr hG => by
    have hu : A.units + 3 + 64 < cLine := by have := hr.un; exact Nat.lt_of_le_of_lt (by show A.units + 3 + 64 ≤ (A.units + 3) + 16 * 2 + 200; omega) this
    have hu1 : A.units + 3 + 1 < cLine := by omega
    have hu2 : A.units + 3 + 100 < cLine := by have := hr.un; exact Nat.lt_of_le_of_lt (by show A.units + 3 + 100 ≤ (A.units + 3) + 16 * 2 + 200; omega) this
    exact (mss_cons (ms_parO (me_fresh (f_lrg rfl m_list m_range (m_v (pv 1)))) (mf_lst ma_nil) (fun h => ps_par rfl sc__law_shuffled.nd rfl rfl (by decide) rfl rfl h rfl))
    (mss_cons (s_for PassesOwn.never rfl (i_rg1 m_range (m_v (pv 1))) (mg_name (pg_name (i := 4) sc__law_shuffled.nd rfl (by first | exact .inl rfl | exact .inr rfl)) (by decide)) (mss_cons (ms_set (ps_set (i := 5) sc__law_shuffled.nd rfl (.inr rfl) (ME.pe (m_call C__law_of (hr.mono (by decide)) hG (k_ow (pv 0) (k_sh (m_v (pv 2)) k_nil))))) (by decide) (by decide))
    (mss_cons (ms_setLc (ts := [6]) (vs := [6]) (ps_setLc (i := 2) (own := [("other", 6)]) rfl sc__law_shuffled.nd rfl rfl (sw_true rfl rfl rfl (by decide +kernel)) (MI.pi (mi_seq (m_v (pv 2)))) (blkOk_by (N := N__law_shuffled) (sc := defScope s__law_shuffled) (own := [("other", 6)]) (by decide +kernel)) (fun _ _ _ _ _ => MG.pg (mg_name (pg_name (i := 6) sc__law_shuffled.nd rfl (by first | exact .inl rfl | exact .inr rfl)) (by decide))) (fun _ _ _ _ _ => MTs.pt (mts_one (c_ne hu (m_v (pv 6)) (m_v (pv 5))) pts_one)) (fun _ _ _ _ _ => ME.pe (m_v (pv 6)))))
    (mss_one (ms_append (k := 3) (by decide) (ps_expr (pe_bm PySem.F.plainAttrs_list PySem.F.slot_list_append PySem.F.type_list_append mt_append (pv 3) (pa_cons (ME.pe (m_v (pv 5))) pa_nil))))))))
    (mss_one (ms_ret (b_tup m_tuple (b_o (pv 3)))))))) (by intro h; cases h)
abbrev s__law_steps : Stmt := topS 30
abbrev N__law_steps : List Str := ["m", "p", "size_so", "lines", "turn", "i", "j", "k", "near", "far", "order", "line", "spot", "x"]
theorem sc__law_steps : FnScope N__law_steps ["m", "p", "size_so"] (defScope s__law_steps) := ⟨rfl, rfl, rfl, by decide +kernel, rfl, by decide +kernel, by decide +kernel⟩
def g__law_steps : FS := (sCons (sAsO (eLc (iS (eCall F__law_unit [.sh (eVar 2)])) (gNm 11) tYs (eF (eCall1 cList (eVar 11))) [11]) 3)
    (sCons (sFor (iR1 (eBin dMul (eC (.int 3)) (eVar 2))) (gNm 4) (sCons (sAs (eTup (aCons (eCall F__law_draw [.ow 0, .sh (eVar 2)]) (aCons (eCall F__law_draw [.ow 0, .sh (eVar 2)]) (aCons (eCall F__law_draw [.ow 0, .sh (eVar 1)]) aNil)))) (gThr 5 6 7))
    (sIf (eTst (eBin dNe (eVar 5) (eVar 6))) (sCons (sAs (eTup (aCons (eBinO dIx 3 (eVar 5)) (aCons (eBinO dIx 3 (eVar 6)) aNil))) (gTp (gsCons (gNm 8) (gsCons (gNm 9) gsNil))))
    (sSt 3 (eF (eLc (iR1 (eVar 2)) (gNm 12) tYs (eBin dMod (eCall1 cInt (eBin dPlus (eBin dIx (eVar 8) (eVar 12)) (eBin dMul (eVar 7) (eBin dIx (eVar 9) (eVar 12))))) (eVar 1)) [12])) (eVar 5))) (sIf (eTst (eBin dGt (eVar 7) (eC (.int 0)))) (sSt 3 (eF (eLc (iS (eBinO dIx 3 (eVar 5))) (gNm 13) tYs (eBin dMod (eCall1 cInt (eBin dMul (eVar 7) (eVar 13))) (eVar 1)) [13])) (eVar 5)) sNil))))
    (sCons (sAs (eCall F__law_shuffled [.ow 0, .sh (eVar 2)]) (gNm 10))
    (sRt (eCall1 cTup (eF (eLc (iS (eVar 10)) (gNm 12) tYs (eCall1 cTup (eBinO dIx 3 (eVar 12))) [12])))))))
def F__law_steps : FF := runF 14 g__law_steps
theorem ok__law_steps {f : Addr} {fd : FuncData} (F : Fun K "_law_steps" "_law_steps" s__law_steps f fd) (C__law_draw : Cal P w K mg base 1 "_law_draw" ["m", "bound"] [0] false F__law_draw) (C__law_shuffled : Cal P w K mg base 3 "_law_shuffled" ["m", "count"] [0] false F__law_shuffled) (C__law_unit : Cal P w K mg base 1 "_law_unit" ["size_so"] [] false F__law_unit) (m_int : mg "int" = none) (m_list : mg "list" = none) (m_range : mg "range" = none) (m_tuple : mg "tuple" = none) : FnM P w K mg base 4 f fd ["m", "p", "size_so"] (spD K 3 [0] false F__law_steps) :=
  fn_mini (own := [0, 3]) F sc__law_steps rfl (by decide) (by decide) (fun cd A fs s H hr hG => by
    have hu : A.units + 3 + 64 < cLine := by have := hr.un; exact Nat.lt_of_le_of_lt (by show A.units + 3 + 64 ≤ (A.units + 3) + 16 * 3 + 200; omega) this
    have hu1 : A.units + 3 + 1 < cLine := by omega
    have hu2 : A.units + 3 + 100 < cLine := by have := hr.un; exact Nat.lt_of_le_of_lt (by show A.units + 3 + 100 ≤ (A.units + 3) + 16 * 3 + 200; omega) this
    exact (mss_cons (ms_setO (ps_set (i := 3) sc__law_steps.nd rfl (.inr rfl) (MF.pe (mf_lc (ts := [11]) (vs := [11]) (pe_lc (own := [("line", 11)]) rfl sc__law_steps.nd (MI.pi (mi_seq (m_call C__law_unit (hr.mono (by decide)) hG (k_sh (m_v (pv 2)) k_nil)))) (blkOk_by (N := N__law_steps) (sc := defScope s__law_steps) (own := [("line", 11)]) (by decide +kernel)) (fun _ _ _ _ _ => MG.pg (mg_name (pg_name (i := 11) sc__law_steps.nd rfl (by first | exact .inl rfl | exact .inr rfl)) (by decide))) (fun _ _ _ _ _ => MTs.pt (mts_nil pts_nil)) (fun _ _ _ _ _ => ME.pe (me_fresh (f_list m_list (ME.b (m_v (pv 11))))))) (by decide) (by decide)))) (by decide) (by decide))
    (mss_cons (s_for PassesOwn.never rfl (i_rg1 m_range (m_mul me_int (m_v (pv 2)))) (mg_name (pg_name (i := 4) sc__law_steps.nd rfl (by first | exact .inl rfl | exact .inr rfl)) (by decide)) (mss_cons (ms_asg (ps_asg (ME.pe (me_tup (ma_cons (m_call C__law_draw (hr.mono (by decide)) hG (k_ow (pv 0) (k_sh (m_v (pv 2)) k_nil))) (ma_cons (m_call C__law_draw (hr.mono (by decide)) hG (k_ow (pv 0) (k_sh (m_v (pv 2)) k_nil))) (ma_cons (m_call C__law_draw (hr.mono (by decide)) hG (k_ow (pv 0) (k_sh (m_v (pv 1)) k_nil))) ma_nil))))) (MG.pg (g_three rfl (pg_name (i := 5) sc__law_steps.nd rfl (by first | exact .inl rfl | exact .inr rfl)) (pg_name (i := 6) sc__law_steps.nd rfl (by first | exact .inl rfl | exact .inr rfl)) (pg_name (i := 7) sc__law_steps.nd rfl (by first | exact .inl rfl | exact .inr rfl)) (fun _ h => pg_tup rfl h) (fun a b => pgs_cons a b) (fun a b => pgs_cons a b) (fun a b => pgs_cons a b)))) (by decide) (by decide))
    (mss_one (ms_if (c_ne hu (m_v (pv 5)) (m_v (pv 6))) (mss_cons (ms_asg (ps_asg (ME.pe (me_tup (ma_cons (m_ixO (pv 3) (m_v (pv 5))) (ma_cons (m_ixO (pv 3) (m_v (pv 6))) ma_nil)))) (MG.pg (g_two rfl (pg_name (i := 8) sc__law_steps.nd rfl (by first | exact .inl rfl | exact .inr rfl)) (pg_name (i := 9) sc__law_steps.nd rfl (by first | exact .inl rfl | exact .inr rfl)) (fun h => pg_tup rfl h) (fun h r => pgs_cons h r) (fun h r => pgs_cons h r)))) (by decide) (by decide))
    (mss_one (ms_store (by decide) (ps_asg (ME.pe (me_fresh (mf_lc (ts := [12]) (vs := [12]) (pe_lc (own := [("spot", 12)]) rfl sc__law_steps.nd (MI.pi (i_rg1 m_range (m_v (pv 2)))) (blkOk_by (N := N__law_steps) (sc := defScope s__law_steps) (own := [("spot", 12)]) (by decide +kernel)) (fun _ _ _ _ _ => MG.pg (mg_name (pg_name (i := 12) sc__law_steps.nd rfl (by first | exact .inl rfl | exact .inr rfl)) (by decide))) (fun _ _ _ _ _ => MTs.pt (mts_nil pts_nil)) (fun _ _ _ _ _ => ME.pe (m_mod (b_int m_int (ME.b (m_add (m_ix (m_v (pv 8)) (m_v (pv 12))) (m_mul (m_v (pv 7)) (m_ix (m_v (pv 9)) (m_v (pv 12))))))) (m_v (pv 1))))) (by decide) (by decide)))) (pg_sub (pv 3) (ME.pe (m_v (pv 5))) set_list))))) (mss_one (ms_if (c_gt (m_v (pv 7)) me_int) (mss_one (ms_store (by decide) (ps_asg (ME.pe (me_fresh (mf_lc (ts := [13]) (vs := [13]) (pe_lc (own := [("x", 13)]) rfl sc__law_steps.nd (MI.pi (mi_seq (m_ixO (pv 3) (m_v (pv 5))))) (blkOk_by (N := N__law_steps) (sc := defScope s__law_steps) (own := [("x", 13)]) (by decide +kernel)) (fun _ _ _ _ _ => MG.pg (mg_name (pg_name (i := 13) sc__law_steps.nd rfl (by first | exact .inl rfl | exact .inr rfl)) (by decide))) (fun _ _ _ _ _ => MTs.pt (mts_nil pts_nil)) (fun _ _ _ _ _ => ME.pe (m_mod (b_int m_int (ME.b (m_mul (m_v (pv 7)) (m_v (pv 13))))) (m_v (pv 1))))) (by decide) (by decide)))) (pg_sub (pv 3) (ME.pe (m_v (pv 5))) set_list)))) mss_nil))))))
    (mss_cons (ms_set (ps_set (i := 10) sc__law_steps.nd rfl (.inl rfl) (ME.pe (m_call C__law_shuffled (hr.mono (by decide)) hG (k_ow (pv 0) (k_sh (m_v (pv 2)) k_nil))))) (by decide) (by decide))
    (mss_one (ms_ret (b_tup m_tuple (ME.b (me_fresh (mf_lc (ts := [12]) (vs := [12]) (pe_lc (own := [("spot", 12)]) rfl sc__law_steps.nd (MI.pi (mi_seq (m_v (pv 10)))) (blkOk_by (N := N__law_steps) (sc := defScope s__law_steps) (own := [("spot", 12)]) (by decide +kernel)) (fun _ _ _ _ _ => MG.pg (mg_name (pg_name (i := 12) sc__law_steps.nd rfl (by first | exact .inl rfl | exact .inr rfl)) (by decide))) (fun _ _ _ _ _ => MTs.pt (mts_nil pts_nil)) (fun _ _ _ _ _ => ME.pe (b_tup m_tuple (ME.b (m_ixO (pv 3) (m_v (pv 12))))))) (by decide) (by decide))))))))))) (by intro h; cases h)
abbrev s_unit : Stmt := topS 2
abbrev N_unit : List Str := ["size", "place"]
theorem sc_unit : FnScope N_unit ["size", "place"] (defScope s_unit) := ⟨rfl, rfl, rfl, by decide +kernel, rfl, by decide +kernel, by decide +kernel⟩
def g_unit : FS := (sRt (eBin dPlus (eBin dPlus (eCall F_zeros [.sh (eVar 1)]) (eTup (aCons (eC (.int 1)) aNil))) (eCall F_zeros [.sh (eBin dSub (eBin dSub (eVar 0) (eVar 1)) (eC (.int 1)))])))
def F_unit : FF := runF 2 g_unit
theorem ok_unit {f : Addr} {fd : FuncData} (F : Fun K "unit" "unit" s_unit f fd) (C_zeros : Cal P w K mg base 1 "zeros" ["size"] [] false F_zeros) : FnM P w K mg base 2 f fd ["size", "place"] (spD K 2 [] false F_unit) :=
  fn_mini (own := []) F sc_unit rfl (by decide) (by decide) (fun cd A fs s H hr hG => by
    have hu : A.units + 3 + 64 < cLine := by have := hr.un; exact Nat.lt_of_le_of_lt (by show A.units + 3 + 64 ≤ (A.units + 3) + 16 * 1 + 200; omega) this
    have hu1 : A.units + 3 + 1 < cLine := by omega
    have hu2 : A.units + 3 + 100 < cLine := by have := hr.un; exact Nat.lt_of_le_of_lt (by show A.units + 3 + 100 ≤ (A.units + 3) + 16 * 1 + 200; omega) this
    exact (mss_one (ms_ret (m_add (m_add (m_call C_zeros (hr.mono (by decide)) hG (k_sh (m_v (pv 1)) k_nil)) (me_tup (ma_cons me_int ma_nil))) (m_call C_zeros (hr.mono (by decide)) hG (k_sh (m_sub (m_sub (m_v (pv 0)) (m_v (pv 1))) me_int) k_nil)))))) (by intro h; cases h)
abbrev s_still_table : Stmt := topS 3
abbrev N_still_table : List Str := ["size", "place"]
theorem sc_still_table : FnScope N_still_table ["size"] (defScope s_still_table) := ⟨rfl, rfl, rfl, by decide +kernel, rfl, by decide +kernel, by decide +kernel⟩
def g_still_table : FS := (sRt (eCall1 cTup (eF (eLc (iR1 (eVar 0)) (gNm 1) tYs (eCall F_unit [.sh (eVar 0), .sh (eVar 1)]) [1]))))
def F_still_table : FF := runF 2 g_still_table
theorem ok_still_table {f : Addr} {fd : FuncData} (F : Fun K "still_table" "still_table" s_still_table f fd) (C_unit : Cal P w K mg base 2 "unit" ["size", "place"] [] false F_unit) (m_range : mg "range" = none) (m_tuple : mg "tuple" = none) : FnM P w K mg base 3 f fd ["size"] (spD K 1 [] false F_still_table) :=
  fn_mini (own := []) F sc_still_table rfl (by decide) (by decide) (fun cd A fs s H hr hG => by
    have hu : A.units + 3 + 64 < cLine := by have := hr.un; exact Nat.lt_of_le_of_lt (by show A.units + 3 + 64 ≤ (A.units + 3) + 16 * 2 + 200; omega) this
    have hu1 : A.units + 3 + 1 < cLine := by omega
    have hu2 : A.units + 3 + 100 < cLine := by have := hr.un; exact Nat.lt_of_le_of_lt (by show A.units + 3 + 100 ≤ (A.units + 3) + 16 * 2 + 200; omega) this
    exact (mss_one (ms_ret (b_tup m_tuple (ME.b (me_fresh (mf_lc (ts := [1]) (vs := [1]) (pe_lc (own := [("place", 1)]) rfl sc_still_table.nd (MI.pi (i_rg1 m_range (m_v (pv 0)))) (blkOk_by (N := N_still_table) (sc := defScope s_still_table) (own := [("place", 1)]) (by decide +kernel)) (fun _ _ _ _ _ => MG.pg (mg_name (pg_name (i := 1) sc_still_table.nd rfl (by first | exact .inl rfl | exact .inr rfl)) (by decide))) (fun _ _ _ _ _ => MTs.pt (mts_nil pts_nil)) (fun _ _ _ _ _ => ME.pe (m_call C_unit (hr.mono (by decide)) hG (k_sh (m_v (pv 0)) (k_sh (m_v (pv 1)) k_nil))))) (by decide) (by decide)))))))) (by intro h; cases h)
abbrev s_turned_back : Stmt := topS 9
abbrev N_turned_back : List Str := ["prime", "table", "size", "wide", "lines", "place", "line"]
theorem sc_turned_back : FnScope N_turned_back ["prime", "table"] (defScope s_turned_back) := ⟨rfl, rfl, rfl, by decide +kernel, rfl, by decide +kernel, by decide +kernel⟩
def g_turned_back : FS := (sCons (sAs (eCall1 cLen (eVar 1)) (gNm 2))
    (sCons (sIf (tAn (eTru (eVar 2)) (eTst (eBin dNe (eCall1 cLen (eBin dIx (eVar 1) (eC (.int 0)))) (eVar 2)))) (sRt (eC .none)) sNil)
    (sCons (sAs (eCall1 cTup (eF (eLc (iEnT (eVar 1)) (gTp (gsCons (gNm 5) (gsCons (gNm 6) gsNil))) tYs (eBin dPlus (eVar 6) (eCall F_unit [.sh (eVar 2), .sh (eVar 5)])) [5, 6]))) (gNm 3))
    (sCons (sAs (eCall F_reduced [.sh (eVar 0), .sh (eVar 3), .sh (eBin dMul (eC (.int 2)) (eVar 2))]) (gNm 4))
    (sCons (sIf (eTst (eBin dNe (eCall1 cTup (eF (eLc (iS (eVar 4)) (gNm 6) tYs (eSl (eVar 6) oNo (oIn (eVar 2))) [6]))) (eCall F_still_table [.sh (eVar 2)]))) (sRt (eC .none)) sNil)
    (sRt (eCall1 cTup (eF (eLc (iS (eVar 4)) (gNm 6) tYs (eSl (eVar 6) (oIn (eVar 2)) oNo) [6])))))))))
def F_turned_back : FF := runF 7 g_turned_back
theorem ok_turned_back {f : Addr} {fd : FuncData} (F : Fun K "turned_back" "turned_back" s_turned_back f fd) (C_reduced : Cal P w K mg base 3 "reduced" ["prime", "columns", "size"] [] false F_reduced) (C_still_table : Cal P w K mg base 3 "still_table" ["size"] [] false F_still_table) (C_unit : Cal P w K mg base 2 "unit" ["size", "place"] [] false F_unit) (m_enumerate : mg "enumerate" = none) (m_len : mg "len" = none) (m_tuple : mg "tuple" = none) : FnM P w K mg base 4 f fd ["prime", "table"] (spD K 2 [] false F_turned_back) :=
  fn_mini (own := []) F sc_turned_back rfl (by decide) (by decide) (fun cd A fs s H hr hG => by
    have hu : A.units + 3 + 64 < cLine := by have := hr.un; exact Nat.lt_of_le_of_lt (by show A.units + 3 + 64 ≤ (A.units + 3) + 16 * 3 + 200; omega) this
    have hu1 : A.units + 3 + 1 < cLine := by omega
    have hu2 : A.units + 3 + 100 < cLine := by have := hr.un; exact Nat.lt_of_le_of_lt (by show A.units + 3 + 100 ≤ (A.units + 3) + 16 * 3 + 200; omega) this
    exact (mss_cons (ms_set (ps_set (i := 2) sc_turned_back.nd rfl (.inr rfl) (ME.pe (b_len m_len (ME.b (m_v (pv 1)))))) (by decide) (by decide))
    (mss_cons (ms_if (MW.t (mw_and (mt_truth (ME.b (m_v (pv 2))) (fun _ => rfl)) (mw_and1 (c_ne hu (b_len m_len (ME.b (m_ix (m_v (pv 1)) me_int))) (m_v (pv 2)))))) (mss_one (ms_ret me_non)) mss_nil)
    (mss_cons (ms_set (ps_set (i := 3) sc_turned_back.nd rfl (.inl rfl) (ME.pe (b_tup m_tuple (ME.b (me_fresh (mf_lc (ts := [5, 6]) (vs := [5, 6]) (pe_lc (own := [("place", 5), ("line", 6)]) rfl sc_turned_back.nd (MI.pi (mi_enumT (m_v (pv 1)) (fun h => pi_enumT rfl m_enumerate h))) (blkOk_by (N := N_turned_back) (sc := defScope s_turned_back) (own := [("place", 5), ("line", 6)]) (by decide +kernel)) (fun _ _ _ _ _ => MG.pg (g_two rfl (pg_name (i := 5) sc_turned_back.nd rfl (by first | exact .inl rfl | exact .inr rfl)) (pg_name (i := 6) sc_turned_back.nd rfl (by first | exact .inl rfl | exact .inr rfl)) (fun h => pg_tup rfl h) (fun h r => pgs_cons h r) (fun h r => pgs_cons h r))) (fun _ _ _ _ _ => MTs.pt (mts_nil pts_nil)) (fun _ _ _ _ _ => ME.pe (m_add (m_v (pv 6)) (m_call C_unit (hr.mono (by decide)) hG (k_sh (m_v (pv 2)) (k_sh (m_v (pv 5)) k_nil)))))) (by decide) (by decide))))))) (by decide) (by decide))
    (mss_cons (ms_set (ps_set (i := 4) sc_turned_back.nd rfl (.inl rfl) (ME.pe (m_call C_reduced (hr.mono (by decide)) hG (k_sh (m_v (pv 0)) (k_sh (m_v (pv 3)) (k_sh (m_mul me_int (m_v (pv 2))) k_nil)))))) (by decide) (by decide))
    (mss_cons (ms_if (c_ne hu (b_tup m_tuple (ME.b (me_fresh (mf_lc (ts := [6]) (vs := [6]) (pe_lc (own := [("line", 6)]) rfl sc_turned_back.nd (MI.pi (mi_seq (m_v (pv 4)))) (blkOk_by (N := N_turned_back) (sc := defScope s_turned_back) (own := [("line", 6)]) (by decide +kernel)) (fun _ _ _ _ _ => MG.pg (mg_name (pg_name (i := 6) sc_turned_back.nd rfl (by first | exact .inl rfl | exact .inr rfl)) (by decide))) (fun _ _ _ _ _ => MTs.pt (mts_nil pts_nil)) (fun _ _ _ _ _ => ME.pe (me_slice (m_v (pv 6)) mo_none (mo_some (m_v (pv 2)) po_some)))) (by decide) (by decide))))) (m_call C_still_table (hr.mono (by decide)) hG (k_sh (m_v (pv 2)) k_nil))) (mss_one (ms_ret me_non)) mss_nil)
    (mss_one (ms_ret (b_tup m_tuple (ME.b (me_fresh (mf_lc (ts := [6]) (vs := [6]) (pe_lc (own := [("line", 6)]) rfl sc_turned_back.nd (MI.pi (mi_seq (m_v (pv 4)))) (blkOk_by (N := N_turned_back) (sc := defScope s_turned_back) (own := [("line", 6)]) (by decide +kernel)) (fun _ _ _ _ _ => MG.pg (mg_name (pg_name (i := 6) sc_turned_back.nd rfl (by first | exact .inl rfl | exact .inr rfl)) (by decide))) (fun _ _ _ _ _ => MTs.pt (mts_nil pts_nil)) (fun _ _ _ _ _ => ME.pe (me_slice (m_v (pv 6)) (mo_some (m_v (pv 2)) po_some) mo_none))) (by decide) (by decide))))))))))))) (by intro h; cases h)
abbrev s__law_behind : Stmt := topS 23
abbrev N__law_behind : List Str := ["p", "one", "other", "size_so", "found", "row", "j", "k"]
theorem sc__law_behind : FnScope N__law_behind ["p", "one", "other", "size_so"] (defScope s__law_behind) := ⟨rfl, rfl, rfl, by decide +kernel, rfl, by decide +kernel, by decide +kernel⟩
def g__law_behind : FS := (sCons (sAsO (eLst aNil) 4)
    (sCons (sFor (iS (eVar 2)) (gNm 5) (sApp 4 (eCall1 cTup (eF (eLc (iR1 (eVar 3)) (gNm 6) tYs (eBin dMod (eCall1 cInt (eCall1 cSum (eF (eLc (iR1 (eCall1 cLen (eVar 1))) (gNm 7) tYs (eBin dMul (eBin dIx (eVar 5) (eVar 7)) (eBin dIx (eBin dIx (eVar 1) (eVar 7)) (eVar 6))) [7])))) (eVar 0)) [6])))))
    (sRt (eCall1 cTup (eF (eVar 4))))))
def F__law_behind : FF := runF 8 g__law_behind
theorem ok__law_behind {f : Addr} {fd : FuncData} (F : Fun K "_law_behind" "_law_behind" s__law_behind f fd) (m_int : mg "int" = none) (m_len : mg "len" = none) (m_range : mg "range" = none) (m_sum : mg "sum" = none) (m_tuple : mg "tuple" = none) : FnM P w K mg base 1 f fd ["p", "one", "other", "size_so"] (spD K 4 [] false F__law_behind) :=
  fn_mini (own := [4]) F sc__law_behind rfl (by decide) (by decide) (fun cd A fs s H hr hG => by
    have hu : A.units + 3 + 64 < cLine := by have := hr.un; exact Nat.lt_of_le_of_lt (by show A.units + 3 + 64 ≤ (A.units + 3) + 16 * 0 + 200; omega) this
    have hu1 : A.units + 3 + 1 < cLine := by omega
    have hu2 : A.units + 3 + 100 < cLine := by have := hr.un; exact Nat.lt_of_le_of_lt (by show A.units + 3 + 100 ≤ (A.units + 3) + 16 * 0 + 200; omega) this
    exact (mss_cons (ms_setO (ps_set (i := 4) sc__law_behind.nd rfl (.inl rfl) (MF.pe (mf_lst ma_nil))) (by decide) (by decide))
    (mss_cons (s_for PassesOwn.never rfl (mi_seq (m_v (pv 2))) (mg_name (pg_name (i := 5) sc__law_behind.nd rfl (by first | exact .inl rfl | exact .inr rfl)) (by decide)) (mss_one (ms_append (k := 4) (by decide) (ps_expr (pe_bm PySem.F.plainAttrs_list PySem.F.slot_list_append PySem.F.type_list_append mt_append (pv 4) (pa_cons (ME.pe (b_tup m_tuple (ME.b (me_fresh (mf_lc (ts := [6]) (vs := [6]) (pe_lc (own := [("j", 6)]) rfl sc__law_behind.nd (MI.pi (i_rg1 m_range (m_v (pv 3)))) (blkOk_by (N := N__law_behind) (sc := defScope s__law_behind) (own := [("j", 6)]) (by decide +kernel)) (fun _ _ _ _ _ => MG.pg (mg_name (pg_name (i := 6) sc__law_behind.nd rfl (by first | exact .inl rfl | exact .inr rfl)) (by decide))) (fun _ _ _ _ _ => MTs.pt (mts_nil pts_nil)) (fun _ _ _ _ _ => ME.pe (m_mod (b_int m_int (ME.b (b_sum rfl m_sum (ME.b (me_fresh (mf_lc (ts := [7]) (vs := [7]) (pe_lc (own := [("k", 7)]) rfl sc__law_behind.nd (MI.pi (i_rg1 m_range (b_len m_len (ME.b (m_v (pv 1)))))) (blkOk_by (own := [("k", 7)]) (by rfl)) (fun _ _ _ _ _ => MG.pg (mg_name (pg_name (i := 7) sc__law_behind.nd rfl (by first | exact .inl rfl | exact .inr rfl)) (by decide))) (fun _ _ _ _ _ => MTs.pt (mts_nil pts_nil)) (fun _ _ _ _ _ => ME.pe (m_mul (m_ix (m_v (pv 5)) (m_v (pv 7))) (m_ix (m_ix (m_v (pv 1)) (m_v (pv 7))) (m_v (pv 6)))))) (by decide) (by decide))))))) (m_v (pv 0))))) (by decide) (by decide)))))) pa_nil))))))
    (mss_one (ms_ret (b_tup m_tuple (b_o (pv 4)))))))) (by intro h; cases h)
abbrev s__law_rank : Stmt := topS 21
abbrev N__law_rank : List Str := ["p", "rows", "size_so"]
theorem sc__law_rank : FnScope N__law_rank ["p", "rows", "size_so"] (defScope s__law_rank) := ⟨rfl, rfl, rfl, by decide +kernel, rfl, by decide +kernel, by decide +kernel⟩
def g__law_rank : FS := (sRt (eCall1 cLen (eCall F__law_reduced [.sh (eVar 0), .sh (eVar 1), .sh (eVar 2)])))
def F__law_rank : FF := runF 3 g__law_rank
theorem ok__law_rank {f : Addr} {fd : FuncData} (F : Fun K "_law_rank" "_law_rank" s__law_rank f fd) (C__law_reduced : Cal P w K mg base 2 "_law_reduced" ["p", "rows", "size_so"] [] false F__law_reduced) (m_len : mg "len" = none) : FnM P w K mg base 3 f fd ["p", "rows", "size_so"] (spD K 3 [] false F__law_rank) :=
  fn_mini (own := []) F sc__law_rank rfl (by decide) (by decide) (fun cd A fs s H hr hG => by
    have hu : A.units + 3 + 64 < cLine := by have := hr.un; exact Nat.lt_of_le_of_lt (by show A.units + 3 + 64 ≤ (A.units + 3) + 16 * 2 + 200; omega) this
    have hu1 : A.units + 3 + 1 < cLine := by omega
    have hu2 : A.units + 3 + 100 < cLine := by have := hr.un; exact Nat.lt_of_le_of_lt (by show A.units + 3 + 100 ≤ (A.units + 3) + 16 * 2 + 200; omega) this
    exact (mss_one (ms_ret (b_len m_len (ME.b (m_call C__law_reduced (hr.mono (by decide)) hG (k_sh (m_v (pv 0)) (k_sh (m_v (pv 1)) (k_sh (m_v (pv 2)) k_nil))))))))) (by intro h; cases h)
abbrev s__law_back_right : Stmt := topS 32
abbrev N__law_back_right : List Str := ["m", "p", "size_so", "table_so", "back", "both", "told"]
theorem sc__law_back_right : FnScope N__law_back_right ["m"] (defScope s__law_back_right) := ⟨rfl, rfl, rfl, by decide +kernel, rfl, by decide +kernel, by decide +kernel⟩
def g__law_back_right : FS := (sCons (sPar 1 2 (eCall F__law_prime [.ow 0]) (eCall F__law_draw [.ow 0, .sh (eC (.int 9))]))
    (sCons (sAs (eCall F__law_steps [.ow 0, .sh (eVar 1), .sh (eVar 2)]) (gNm 3))
    (sCons (sAs (eCall F_turned_back [.sh (eVar 1), .sh (eVar 3)]) (gNm 4))
    (sCons (sIf (eTst (eBin (dIsN false) (eVar 4) (eC .none))) (sRt (eC (.bool false))) sNil)
    (sCons (sAs (eF (eLst (aCons (eCall F__law_behind [.sh (eVar 1), .sh (eVar 3), .sh (eVar 4), .sh (eVar 2)]) (aCons (eCall F__law_behind [.sh (eVar 1), .sh (eVar 4), .sh (eVar 3), .sh (eVar 2)]) aNil)))) (gNm 5))
    (sCons (sIf (tNt (eTru (eCall F__law_like [.sh (eVar 5), .sh (eF (eRepL (eLst (aCons (eCall F__law_unit [.sh (eVar 2)]) aNil)) (eC (.int 2))))]))) (sRt (eC (.bool false))) sNil)
    (sCons (sAs (eCall F__law_table [.ow 0, .sh (eVar 1), .sh (eVar 2), .sh (eVar 2)]) (gNm 3))
    (sCons (sAs (eCall F_turned_back [.sh (eVar 1), .sh (eVar 3)]) (gNm 6))
    (sCons (sIf (eTst (eBin dNe (eBin (dIsN false) (eVar 6) (eC .none)) (eBin dLt (eCall F__law_rank [.sh (eVar 1), .sh (eVar 3), .sh (eVar 2)]) (eVar 2)))) (sRt (eC (.bool false))) sNil)
    (sCons (sIf (tAn (eTst (eBin (dIsN true) (eVar 6) (eC .none))) (tNt (eTru (eCall F__law_like [.sh (eCall F__law_behind [.sh (eVar 1), .sh (eVar 3), .sh (eVar 6), .sh (eVar 2)]), .sh (eCall F__law_unit [.sh (eVar 2)])])))) (sRt (eC (.bool false))) sNil)
    (sRt (eAnV (eBin (dIsN false) (eCall F_turned_back [.sh (eVar 1), .sh (eCall F__law_table [.ow 0, .sh (eVar 1), .sh (eBin dPlus (eC (.int 1)) (eVar 2)), .sh (eVar 2)])]) (eC .none)) (eBin (dIsN false) (eCall F_turned_back [.sh (eVar 1), .sh (eCall F__law_table [.ow 0, .sh (eVar 1), .sh (eBin dPlus (eC (.int 1)) (eVar 2)), .sh (eBin dPlus (eC (.int 2)) (eVar 2))])]) (eC .none))))))))))))))
def F__law_back_right : FF := runF 7 g__law_back_right
theorem ok__law_back_right {f : Addr} {fd : FuncData} (F : Fun K "_law_back_right" "_law_back_right" s__law_back_right f fd) (C__law_behind : Cal P w K mg base 1 "_law_behind" ["p", "one", "other", "size_so"] [] false F__law_behind) (C__law_draw : Cal P w K mg base 1 "_law_draw" ["m", "bound"] [0] false F__law_draw) (C__law_like : Cal P w K mg base 1 "_law_like" ["got", "due"] [] false F__law_like) (C__law_prime : Cal P w K mg base 3 "_law_prime" ["m"] [0] false F__law_prime) (C__law_rank : Cal P w K mg base 3 "_law_rank" ["p", "rows", "size_so"] [] false F__law_rank) (C__law_steps : Cal P w K mg base 4 "_law_steps" ["m", "p", "size_so"] [0] false F__law_steps) (C__law_table : Cal P w K mg base 3 "_law_table" ["m", "p", "lines", "size_so"] [0] false F__law_table) (C__law_unit : Cal P w K mg base 1 "_law_unit" ["size_so"] [] false F__law_unit) (C_turned_back : Cal P w K mg base 4 "turned_back" ["prime", "table"] [] false F_turned_back) : FnM P w K mg base 5 f fd ["m"] (spD K 1 [0] false F__law_back_right) :=
  fn_mini (own := [0]) F sc__law_back_right rfl (by decide) (by decide) (fun cd A fs s H hr hG => by
    have hu : A.units + 3 + 64 < cLine := by have := hr.un; exact Nat.lt_of_le_of_lt (by show A.units + 3 + 64 ≤ (A.units + 3) + 16 * 4 + 200; omega) this
    have hu1 : A.units + 3 + 1 < cLine := by omega
    have hu2 : A.units + 3 + 100 < cLine := by have := hr.un; exact Nat.lt_of_le_of_lt (by show A.units + 3 + 100 ≤ (A.units + 3) + 16 * 4 + 200; omega) this
    exact (mss_cons (ms_par (m_call C__law_prime (hr.mono (by decide)) hG (k_ow (pv 0) k_nil)) (m_call C__law_draw (hr.mono (by decide)) hG (k_ow (pv 0) (k_sh me_int k_nil))) (fun h => ps_par rfl sc__law_back_right.nd rfl rfl (by decide) rfl rfl h rfl))
    (mss_cons (ms_set (ps_set (i := 3) sc__law_back_right.nd rfl (.inl rfl) (ME.pe (m_call C__law_steps (hr.mono (by decide)) hG (k_ow (pv 0) (k_sh (m_v (pv 1)) (k_sh (m_v (pv 2)) k_nil)))))) (by decide) (by decide))
    (mss_cons (ms_set (ps_set (i := 4) sc__law_back_right.nd rfl (.inl rfl) (ME.pe (m_call C_turned_back (hr.mono (by decide)) hG (k_sh (m_v (pv 1)) (k_sh (m_v (pv 3)) k_nil))))) (by decide) (by decide))
    (mss_cons (ms_if (c_isN (m_v (pv 4)) me_non) (mss_one (ms_ret me_bl)) mss_nil)
    (mss_cons (ms_set (ps_set (i := 5) sc__law_back_right.nd rfl (.inl rfl) (ME.pe (me_fresh (mf_lst (ma_cons (m_call C__law_behind (hr.mono (by decide)) hG (k_sh (m_v (pv 1)) (k_sh (m_v (pv 3)) (k_sh (m_v (pv 4)) (k_sh (m_v (pv 2)) k_nil))))) (ma_cons (m_call C__law_behind (hr.mono (by decide)) hG (k_sh (m_v (pv 1)) (k_sh (m_v (pv 4)) (k_sh (m_v (pv 3)) (k_sh (m_v (pv 2)) k_nil))))) ma_nil)))))) (by decide) (by decide))
    (mss_cons (ms_if (mt_not (mt_truth (ME.b (m_call C__law_like (hr.mono (by decide)) hG (k_sh (m_v (pv 5)) (k_sh (me_fresh (f_repL (mf_lst (ma_cons (m_call C__law_unit (hr.mono (by decide)) hG (k_sh (m_v (pv 2)) k_nil)) ma_nil)) me_int)) k_nil)))) (fun _ => rfl))) (mss_one (ms_ret me_bl)) mss_nil)
    (mss_cons (ms_set (ps_set (i := 3) sc__law_back_right.nd rfl (.inl rfl) (ME.pe (m_call C__law_table (hr.mono (by decide)) hG (k_ow (pv 0) (k_sh (m_v (pv 1)) (k_sh (m_v (pv 2)) (k_sh (m_v (pv 2)) k_nil))))))) (by decide) (by decide))
    (mss_cons (ms_set (ps_set (i := 6) sc__law_back_right.nd rfl (.inl rfl) (ME.pe (m_call C_turned_back (hr.mono (by decide)) hG (k_sh (m_v (pv 1)) (k_sh (m_v (pv 3)) k_nil))))) (by decide) (by decide))
    (mss_cons (ms_if (c_ne hu (v_isN (m_v (pv 6)) me_non) (v_lt (m_call C__law_rank (hr.mono (by decide)) hG (k_sh (m_v (pv 1)) (k_sh (m_v (pv 3)) (k_sh (m_v (pv 2)) k_nil)))) (m_v (pv 2)))) (mss_one (ms_ret me_bl)) mss_nil)
    (mss_cons (ms_if (MW.t (mw_and (c_notN (m_v (pv 6)) me_non) (mw_and1 (mt_not (mt_truth (ME.b (m_call C__law_like (hr.mono (by decide)) hG (k_sh (m_call C__law_behind (hr.mono (by decide)) hG (k_sh (m_v (pv 1)) (k_sh (m_v (pv 3)) (k_sh (m_v (pv 6)) (k_sh (m_v (pv 2)) k_nil))))) (k_sh (m_call C__law_unit (hr.mono (by decide)) hG (k_sh (m_v (pv 2)) k_nil)) k_nil)))) (fun _ => rfl)))))) (mss_one (ms_ret me_bl)) mss_nil)
    (mss_one (ms_ret (me_and (v_isN (m_call C_turned_back (hr.mono (by decide)) hG (k_sh (m_v (pv 1)) (k_sh (m_call C__law_table (hr.mono (by decide)) hG (k_ow (pv 0) (k_sh (m_v (pv 1)) (k_sh (m_add me_int (m_v (pv 2))) (k_sh (m_v (pv 2)) k_nil))))) k_nil))) me_non) (me_one (v_isN (m_call C_turned_back (hr.mono (by decide)) hG (k_sh (m_v (pv 1)) (k_sh (m_call C__law_table (hr.mono (by decide)) hG (k_ow (pv 0) (k_sh (m_v (pv 1)) (k_sh (m_add me_int (m_v (pv 2))) (k_sh (m_add me_int (m_v (pv 2))) k_nil))))) k_nil))) me_non) pe_one))))))))))))))) (by intro h; cases h)
abbrev s_law : Stmt := topS 33
abbrev N_law : List Str := ["script", "turn", "m", "told"]
theorem sc_law : FnScope N_law ["script"] (defScope s_law) := ⟨rfl, rfl, rfl, by decide +kernel, rfl, by decide +kernel, by decide +kernel⟩
def g_law : FS := (sCons (sFor (iR1 (eBin dMax (eC (.int 3)) (eBin dMin (eCall1 cLen (eVar 0)) (eC (.int 5))))) (gNm 1) (sCons (sAsO (eCall F__law_begun [.sh (eVar 0), .sh (eVar 1)]) 2)
    (sIf (tOrr (tNt (eTru (eCall F__law_all_right [.ow 2]))) (tNt (eTru (eCall F__law_back_right [.ow 2])))) (sRt (eC (.bool false))) sNil)))
    (sCons (sAs (eF (eLst (aCons (eCall F_solved [.sh (eC (.int 5)), .sh (eTup (aCons (eTup (aCons (eC (.int 1)) (aCons (eC (.int 1)) aNil))) aNil)), .sh (eC (.int 2)), .sh (eTup (aCons (eC (.int 3)) aNil))]) (aCons (eCall F_solved [.sh (eC (.int 5)), .sh (eTup (aCons (eTup (aCons (eC (.int 1)) (aCons (eC (.int 2)) aNil))) (aCons (eTup (aCons (eC (.int 2)) (aCons (eC (.int 4)) aNil))) aNil))), .sh (eC (.int 2)), .sh (eTup (aCons (eC (.int 1)) (aCons (eC (.int 3)) aNil)))]) (aCons (eCall F_solved [.sh (eC (.int 3)), .sh (eTup aNil), .sh (eC (.int 2)), .sh (eTup aNil)]) (aCons (eCall F_solved [.sh (eC (.int 3)), .sh (eTup (aCons (eTup aNil) aNil)), .sh (eC (.int 0)), .sh (eTup (aCons (eC (.int 1)) aNil))]) aNil)))))) (gNm 3))
    (sCons (sAs (eBin dPlus (eVar 3) (eF (eLst (aCons (eCallP F_solved [3, 2, 1, 0] (aCons (eTup (aCons (eC (.int 4)) aNil)) (aCons (eC (.int 1)) (aCons (eTup (aCons (eTup (aCons (eC (.int 2)) aNil)) aNil)) (aCons (eC (.int 5)) aNil))))) (aCons (eCallP F_turned_back [1, 0] (aCons (eTup (aCons (eTup (aCons (eC (.int 2)) aNil)) aNil)) (aCons (eC (.int 5)) aNil))) (aCons (eCall F_turned_back [.sh (eC (.int 3)), .sh (eTup aNil)]) aNil)))))) (gNm 3))
    (sRt (eCall F__law_like [.sh (eVar 3), .sh (eF (eLst (aCons (eTup (aCons (eC (.int 0)) (aCons (eC (.int 3)) aNil))) (aCons (eC .none) (aCons (eTup (aCons (eC (.int 0)) (aCons (eC (.int 0)) aNil))) (aCons (eC .none) (aCons (eTup (aCons (eC (.int 2)) aNil)) (aCons (eTup (aCons (eTup (aCons (eC (.int 3)) aNil)) aNil)) (aCons (eTup aNil) aNil)))))))))])))))
def F_law : FF := runF 4 g_law
theorem ok_law {f : Addr} {fd : FuncData} (F : Fun K "law" "law" s_law f fd) (C__law_all_right : Cal P w K mg base 5 "_law_all_right" ["m"] [0] false F__law_all_right) (C__law_back_right : Cal P w K mg base 5 "_law_back_right" ["m"] [0] false F__law_back_right) (C__law_begun : Cal P w K mg base 1 "_law_begun" ["script", "k"] [] true F__law_begun) (C__law_like : Cal P w K mg base 1 "_law_like" ["got", "due"] [] false F__law_like) (C_solved : Cal P w K mg base 4 "solved" ["prime", "table", "size", "column"] [] false F_solved) (C_turned_back : Cal P w K mg base 4 "turned_back" ["prime", "table"] [] false F_turned_back) (C_solved__column_size_table_prime : CalP P w K mg base 4 "solved" ["prime", "table", "size", "column"] ["column", "size", "table", "prime"] [3, 2, 1, 0] F_solved) (C_turned_back__table_prime : CalP P w K mg base 4 "turned_back" ["prime", "table"] ["table", "prime"] [1, 0] F_turned_back) (m_len : mg "len" = none) (m_max : mg "max" = none) (m_min : mg "min" = none) (m_range : mg "range" = none) : FnM P w K mg base 6 f fd ["script"] (spD K 1 [] false F_law) :=
  fn_mini (own := [2]) F sc_law rfl (by decide) (by decide) (fun cd A fs s H hr hG => by
    have hu : A.units + 3 + 64 < cLine := by have := hr.un; exact Nat.lt_of_le_of_lt (by show A.units + 3 + 64 ≤ (A.units + 3) + 16 * 5 + 200; omega) this
    have hu1 : A.units + 3 + 1 < cLine := by omega
    have hu2 : A.units + 3 + 100 < cLine := by have := hr.un; exact Nat.lt_of_le_of_lt (by show A.units + 3 + 100 ≤ (A.units + 3) + 16 * 5 + 200; omega) this
    exact (mss_cons (s_for PassesOwn.never rfl (i_rg1 m_range (b_max rfl m_max me_int (b_min rfl m_min (b_len m_len (ME.b (m_v (pv 0)))) me_int))) (mg_name (pg_name (i := 1) sc_law.nd rfl (by first | exact .inl rfl | exact .inr rfl)) (by decide)) (mss_cons (ms_setO (ps_set (i := 2) sc_law.nd rfl (.inl rfl) (MF.pe (f_call C__law_begun (hr.mono (by decide)) hG (k_sh (m_v (pv 0)) (k_sh (m_v (pv 1)) k_nil))))) (by decide) (by decide))
    (mss_one (ms_if (MW.t (mw_or (mt_not (mt_truth (ME.b (m_call C__law_all_right (hr.mono (by decide)) hG (k_ow (pv 2) k_nil))) (fun _ => rfl))) (mw_or1 (mt_not (mt_truth (ME.b (m_call C__law_back_right (hr.mono (by decide)) hG (k_ow (pv 2) k_nil))) (fun _ => rfl)))))) (mss_one (ms_ret me_bl)) mss_nil))))
    (mss_cons (ms_set (ps_set (i := 3) sc_law.nd rfl (.inl rfl) (ME.pe (me_fresh (mf_lst (ma_cons (m_call C_solved (hr.mono (by decide)) hG (k_sh me_int (k_sh (me_tup (ma_cons (me_tup (ma_cons me_int (ma_cons me_int ma_nil))) ma_nil)) (k_sh me_int (k_sh (me_tup (ma_cons me_int ma_nil)) k_nil))))) (ma_cons (m_call C_solved (hr.mono (by decide)) hG (k_sh me_int (k_sh (me_tup (ma_cons (me_tup (ma_cons me_int (ma_cons me_int ma_nil))) (ma_cons (me_tup (ma_cons me_int (ma_cons me_int ma_nil))) ma_nil))) (k_sh me_int (k_sh (me_tup (ma_cons me_int (ma_cons me_int ma_nil))) k_nil))))) (ma_cons (m_call C_solved (hr.mono (by decide)) hG (k_sh me_int (k_sh (me_tup ma_nil) (k_sh me_int (k_sh (me_tup ma_nil) k_nil))))) (ma_cons (m_call C_solved (hr.mono (by decide)) hG (k_sh me_int (k_sh (me_tup (ma_cons (me_tup ma_nil) ma_nil)) (k_sh me_int (k_sh (me_tup (ma_cons me_int ma_nil)) k_nil))))) ma_nil)))))))) (by decide) (by decide))
    (mss_cons (ms_set (ps_set (i := 3) sc_law.nd rfl (.inl rfl) (ME.pe (m_add (m_v (pv 3)) (me_fresh (mf_lst (ma_cons (m_callP C_solved__column_size_table_prime (hr.mono (by decide)) hG (kw_cons (me_tup (ma_cons me_int ma_nil)) (kw_cons me_int (kw_cons (me_tup (ma_cons (me_tup (ma_cons me_int ma_nil)) ma_nil)) (kw_cons me_int kw_nil)))) rfl (by decide) rfl) (ma_cons (m_callP C_turned_back__table_prime (hr.mono (by decide)) hG (kw_cons (me_tup (ma_cons (me_tup (ma_cons me_int ma_nil)) ma_nil)) (kw_cons me_int kw_nil)) rfl (by decide) rfl) (ma_cons (m_call C_turned_back (hr.mono (by decide)) hG (k_sh me_int (k_sh (me_tup ma_nil) k_nil))) ma_nil)))))))) (by decide) (by decide))
    (mss_one (ms_ret (m_call C__law_like (hr.mono (by decide)) hG (k_sh (m_v (pv 3)) (k_sh (me_fresh (mf_lst (ma_cons (me_tup (ma_cons me_int (ma_cons me_int ma_nil))) (ma_cons me_non (ma_cons (me_tup (ma_cons me_int (ma_cons me_int ma_nil))) (ma_cons me_non (ma_cons (me_tup (ma_cons me_int ma_nil)) (ma_cons (me_tup (ma_cons (me_tup (ma_cons me_int ma_nil)) ma_nil)) (ma_cons (me_tup ma_nil) ma_nil))))))))) k_nil))))))))) (by intro h; cases h)
end
end Pf
set_option linter.all false
/-! Columns modulo p as functions; spans; reduced bases are told by their spans. -/
namespace Ma
abbrev Vc := Nat → Int
/-- alike modulo p -/
def Cg (p : Int) (v w : Vc) : Prop := ∀ j, p ∣ v j - w j
inductive Sp (p : Int) (C : List Vc) : Vc → Prop
  | zero {v : Vc} (h : ∀ j, p ∣ v j) : Sp p C v
  | add {v w r : Vc} (h : r ∈ C) (k : Int) (hw : Sp p C w) (e : ∀ j, p ∣ v j - (w j + k * r j)) : Sp p C v
theorem dvd_cast {p a b : Int} (h : p ∣ a) (e : a = b) : p ∣ b := e ▸ h
section
variable {p : Int} {C C' : List Vc} {v w : Vc}
theorem Sp.cg (h : Sp p C v) (e : Cg p w v) : Sp p C w := by
  induction h generalizing w with
  | zero h => exact .zero fun j => dvd_cast (Int.dvd_add (e j) (h j)) (by omega)
  | add hr k hw e2 _ => exact .add hr k hw fun j => dvd_cast (Int.dvd_add (e j) (e2 j)) (by omega)
theorem Sp.sum (h : Sp p C v) (h2 : Sp p C w) (k : Int) {u : Vc} (e : ∀ j, p ∣ u j - (v j + k * w j)) : Sp p C u := by
  induction h2 generalizing u k with
  | @zero w z => 
    refine h.cg fun j => ?_
    have q : p ∣ k * w j := Int.dvd_mul_of_dvd_right (z j)
    exact dvd_cast (Int.dvd_add (e j) q) (by omega)
  | @add w' x r hr m hx e2 ih =>
    refine .add (w := fun j => v j + k * x j) hr (k * m) (ih k fun j => ⟨0, by omega⟩) fun j => ?_
    have e3 : p ∣ k * (w' j - (x j + m * r j)) := Int.dvd_mul_of_dvd_right (e2 j)
    refine dvd_cast (Int.dvd_add (e j) e3) ?_
    rw [Int.mul_sub, Int.mul_add, Int.mul_assoc]
    omega
theorem Sp.mem (h : v ∈ C) : Sp p C v := .add (w := fun _ => 0) h 1 (.zero fun _ => ⟨0, by omega⟩) fun j => ⟨0, by omega⟩
theorem Sp.mul (h : Sp p C v) (k : Int) {u : Vc} (e : ∀ j, p ∣ u j - k * v j) : Sp p C u := Sp.sum (v := fun _ => 0) (.zero fun _ => ⟨0, by omega⟩) h k fun j => dvd_cast (e j) (by show u j - k * v j = u j - (0 + k * v j); omega)
theorem Sp.le (h : ∀ r ∈ C, Sp p C' r) (hv : Sp p C v) : Sp p C' v := by
  induction hv with
  | zero z => exact .zero z
  | add hr k _ e ih => exact Sp.sum ih (h _ hr) k e
end
/-! ### sums by coefficients -/
def comb : List Int → List Vc → Vc
  | c :: cs, b :: bs, j => c * b j + comb cs bs j
  | _, _, _ => 0
/-- the reduced ones -/
structure RB (p : Int) (B : List Vc) (L : List Nat) : Prop where
  len : L.length = B.length
  asc : L.Pairwise (· < ·)
  one : ∀ (i : Nat) (b : Vc) (l : Nat), B[i]? = some b → L[i]? = some l → p ∣ b l - 1
  off : ∀ (i k : Nat) (b : Vc) (l : Nat), B[k]? = some b → L[i]? = some l → i ≠ k → p ∣ b l
  pre : ∀ (i : Nat) (b : Vc) (l j : Nat), B[i]? = some b → L[i]? = some l → j < l → p ∣ b j
section
variable {p : Int} {B B' : List Vc} {L L' : List Nat} {v w : Vc}
theorem comb_zero : ∀ {cs : List Int} {bs : List Vc}, (∀ c ∈ cs, p ∣ c) → ∀ j, p ∣ comb cs bs j
  | [], _, _, _ => by unfold comb; exact ⟨0, by omega⟩
  | _ :: _, [], _, _ => by unfold comb; exact ⟨0, by omega⟩
  | c :: cs, b :: bs, h, j => by
    unfold comb
    exact Int.dvd_add (Int.dvd_mul_of_dvd_left (h c List.mem_cons_self)) (comb_zero (fun c hc => h c (List.mem_cons_of_mem _ hc)) j)
theorem comb_lin (k : Int) : ∀ {L : List Nat} {bs : List Vc} {u v w : Vc}, (∀ l ∈ L, p ∣ u l - (v l + k * w l)) → ∀ j, p ∣ comb (L.map u) bs j - (comb (L.map v) bs j + k * comb (L.map w) bs j)
  | [], bs, u, v, w, _, j => by simp [comb]
  | l :: L, [], u, v, w, _, j => by simp [comb]
  | l :: L, b :: bs, u, v, w, h, j => by
    rw [List.map_cons, List.map_cons, List.map_cons]
    unfold comb
    have h1 : p ∣ (u l - (v l + k * w l)) * b j := Int.dvd_mul_of_dvd_left (h l List.mem_cons_self)
    have h2 := comb_lin k (bs := bs) (fun l hl => h l (List.mem_cons_of_mem _ hl)) j
    refine dvd_cast (Int.dvd_add h1 h2) ?_
    rw [Int.sub_mul, Int.add_mul, Int.mul_add, Int.mul_assoc]
    omega
theorem comb_unit : ∀ {L : List Nat} {bs : List Vc} {m : Nat} {b : Vc}, bs[m]? = some b → (∀ (i l : Nat), L[i]? = some l → i = m → p ∣ b l - 1) → (∀ (i l : Nat), L[i]? = some l → i ≠ m → p ∣ b l) → m < L.length → ∀ j, p ∣ b j - comb (L.map b) bs j
  | [], _, _, _, _, _, _, hm, _ => by simp at hm
  | l :: L, [], m, b, h, _, _, _, _ => by simp at h
  | l :: L, x :: bs, 0, b, h, h1, h2, hm, j => by
    simp only [List.getElem?_cons_zero, Option.some.injEq] at h
    subst h
    rw [List.map_cons]
    unfold comb
    have a1 : p ∣ (x l - 1) * x j := Int.dvd_mul_of_dvd_left (h1 0 l rfl rfl)
    have a2 : p ∣ comb (L.map x) bs j := comb_zero (fun c hc => by
      obtain ⟨q, hq, rfl⟩ := List.mem_map.mp hc
      obtain ⟨i, hi, e⟩ := List.mem_iff_getElem.mp hq
      exact h2 (i + 1) q (by rw [List.getElem?_cons_succ, List.getElem?_eq_getElem hi, e]) (by omega)) j
    refine dvd_cast (Int.dvd_neg.mpr (Int.dvd_add a1 a2)) ?_
    rw [Int.sub_mul]
    omega
  | l :: L, x :: bs, m + 1, b, h, h1, h2, hm, j => by
    simp only [List.getElem?_cons_succ] at h
    rw [List.map_cons]
    unfold comb
    have a1 : p ∣ b l * x j := Int.dvd_mul_of_dvd_left (h2 0 l rfl (by omega))
    have a2 := comb_unit (L := L) h (fun i l hi e => h1 (i + 1) l (by simpa using hi) (by omega)) (fun i l hi e => h2 (i + 1) l (by simpa using hi) (by omega)) (by simp at hm; omega) j
    exact dvd_cast (Int.dvd_sub a2 a1) (by omega)
/-- what is spanned is told by its entries at the leads -/
theorem RB.told (R : RB p B L) (h : Sp p B v) : ∀ j, p ∣ v j - comb (L.map v) B j := by
  induction h with
  | @zero v z => exact fun j => Int.dvd_sub (z j) (comb_zero (fun c hc => by
      obtain ⟨q, _, rfl⟩ := List.mem_map.mp hc
      exact z q) j)
  | @add v w r hr k hw e ih =>
    intro j
    obtain ⟨m, hm, em⟩ := List.mem_iff_getElem.mp hr
    have hb : B[m]? = some r := by rw [List.getElem?_eq_getElem hm, em]
    have u := comb_unit (L := L) hb (fun i l hi e => R.one i r l (by rw [e]; exact hb) hi) (fun i l hi e => R.off i m r l hb hi e) (by rw [R.len]; exact hm) j
    have lin := comb_lin k (bs := B) (L := L) (u := v) (v := w) (w := r) (fun l _ => e l) j
    have ku : p ∣ k * (r j - comb (L.map r) B j) := Int.dvd_mul_of_dvd_right u
    have := Int.dvd_sub (Int.dvd_add (Int.dvd_add (e j) (ih j)) ku) lin
    refine dvd_cast this ?_
    rw [Int.mul_sub]
    omega
theorem comb_off : ∀ {cs : List Int} {bs : List Vc} {j : Nat}, (∀ (i : Nat) (c : Int) (b : Vc), cs[i]? = some c → bs[i]? = some b → p ∣ c * b j) → p ∣ comb cs bs j
  | [], _, _, _ => by unfold comb; exact ⟨0, by omega⟩
  | _ :: _, [], _, _ => by unfold comb; exact ⟨0, by omega⟩
  | c :: cs, b :: bs, j, h => by
    unfold comb
    exact Int.dvd_add (h 0 c b rfl rfl) (comb_off fun i c b h1 h2 => h (i + 1) c b (by simpa using h1) (by simpa using h2))
/-- the first entry that is not 0 stands at a lead -/
theorem RB.first (R : RB p B L) (h : Sp p B v) {f : Nat} (h0 : ∀ j, j < f → p ∣ v j) (h1 : ¬ p ∣ v f) : f ∈ L := by
  apply Classical.byContradiction
  intro n
  apply h1
  have z : p ∣ comb (L.map v) B f := comb_off fun i c b hc hb => by
    obtain ⟨l, hl, rfl⟩ : ∃ l, L[i]? = some l ∧ v l = c := by
      rw [List.getElem?_map] at hc
      cases q : L[i]? with
      | none => rw [q] at hc; cases hc
      | some l => rw [q] at hc; exact ⟨l, rfl, Option.some.inj hc⟩
    have hm : l ∈ L := List.mem_of_getElem? hl
    rcases Nat.lt_trichotomy l f with g | g | g
    · exact Int.dvd_mul_of_dvd_left (h0 l g)
    · exact absurd (g ▸ hm) n
    · exact Int.dvd_mul_of_dvd_right (R.pre i b l f hb hl g)
  exact dvd_cast (Int.dvd_add (R.told h f) z) (by omega)
theorem RB.leads_le (R : RB p B L) (R' : RB p B' L') (h1 : ¬ p ∣ 1) (h : ∀ r ∈ B', Sp p B r) : ∀ l ∈ L', l ∈ L := fun l hl => by
  obtain ⟨i, hi, e⟩ := List.mem_iff_getElem.mp hl
  have el : L'[i]? = some l := by rw [List.getElem?_eq_getElem hi, e]
  have ib : i < B'.length := by rw [← R'.len]; exact hi
  have eb : B'[i]? = some B'[i] := List.getElem?_eq_getElem ib
  refine R.first (h _ (List.getElem_mem ib)) (fun j hj => R'.pre i _ l j eb el hj) fun z => h1 ?_
  exact dvd_cast (Int.dvd_sub z (R'.one i _ l eb el)) (by omega)
theorem asc_eq : ∀ {L L' : List Nat}, L.Pairwise (· < ·) → L'.Pairwise (· < ·) → (∀ l, l ∈ L ↔ l ∈ L') → L = L'
  | [], [], _, _, _ => rfl
  | [], b :: _, _, _, h => absurd ((h b).mpr List.mem_cons_self) (by simp)
  | a :: _, [], _, _, h => absurd ((h a).mp List.mem_cons_self) (by simp)
  | a :: L, b :: L', h1, h2, h => by
    obtain ⟨a1, a2⟩ := List.pairwise_cons.mp h1
    obtain ⟨b1, b2⟩ := List.pairwise_cons.mp h2
    have e : a = b := by
      rcases List.mem_cons.mp ((h a).mp List.mem_cons_self) with q | q
      · exact q
      · rcases List.mem_cons.mp ((h b).mpr List.mem_cons_self) with z | z
        · exact z.symm
        · have := b1 a q; have := a1 b z; omega
    subst e
    rw [asc_eq a2 b2 fun l => ⟨fun hl => ?_, fun hl => ?_⟩]
    · rcases List.mem_cons.mp ((h l).mp (List.mem_cons_of_mem _ hl)) with q | q
      · subst q; exact absurd (a1 l hl) (by omega)
      · exact q
    · rcases List.mem_cons.mp ((h l).mpr (List.mem_cons_of_mem _ hl)) with q | q
      · subst q; exact absurd (b1 l hl) (by omega)
      · exact q
/-- reduced bases of one span are alike -/
theorem RB.unique (R : RB p B L) (R' : RB p B' L') (h1 : ¬ p ∣ 1) (h : ∀ r ∈ B', Sp p B r) (h' : ∀ r ∈ B, Sp p B' r) : L = L' ∧ ∀ (i : Nat) (b b' : Vc), B[i]? = some b → B'[i]? = some b' → Cg p b b' := by
  have eL : L = L' := asc_eq R.asc R'.asc fun l => ⟨R'.leads_le R h1 h' l, R.leads_le R' h1 h l⟩
  subst eL
  refine ⟨rfl, fun i b b' hb hb' j => ?_⟩
  have s' : Sp p B b' := h b' (List.mem_of_getElem? hb')
  have il : i < L.length := by
    rw [R.len]
    obtain ⟨q, _⟩ := List.getElem?_eq_some_iff.mp hb
    exact q
  -- b - b' is told by its entries at the leads, all of them 0
  have sd : Sp p B fun j => b j - b' j := Sp.sum (Sp.mem (List.mem_of_getElem? hb)) s' (-1) fun j => ⟨0, by omega⟩
  have z := R.told sd j
  have c : p ∣ comb (L.map fun j => b j - b' j) B j := comb_zero (fun c hc => by
    obtain ⟨l, hl, rfl⟩ := List.mem_map.mp hc
    obtain ⟨k, hk, e⟩ := List.mem_iff_getElem.mp hl
    have el : L[k]? = some l := by rw [List.getElem?_eq_getElem hk, e]
    by_cases q : k = i
    · subst q
      exact dvd_cast (Int.dvd_sub (R.one k b l hb el) (R'.one k b' l hb' el)) (by omega)
    · exact Int.dvd_sub (R.off k i b l hb el q) (R'.off k i b' l hb' el q)) j
  exact dvd_cast (Int.dvd_add z c) (by omega)
end
end Ma
set_option linter.all false
/-! Rows as lists; one step of an elimination. -/
namespace Ma
abbrev Rw := List Int
def e0 (r : Rw) (j : Nat) : Int := r.getD j 0
def offL (p f : Int) (a b : Rw) : Rw := List.zipWith (fun x y => (x - f * y) % p) a b
def mulL (p f : Int) (a : Rw) : Rw := a.map fun x => (f * x) % p
structure Dom (p : Int) (n : Nat) (r : Rw) : Prop where
  len : r.length = n
  ok : ∀ x ∈ r, 0 ≤ x ∧ x < p
def vcs (F : List Rw) : List Vc := F.map e0
theorem e0_lt {r : Rw} {j : Nat} (h : j < r.length) : e0 r j = r[j] := by
  unfold e0
  rw [List.getD_eq_getElem?_getD, List.getElem?_eq_getElem h, Option.getD_some]
theorem e0_ge {r : Rw} {j : Nat} (h : r.length ≤ j) : e0 r j = 0 := by
  unfold e0
  rw [List.getD_eq_getElem?_getD, List.getElem?_eq_none h, Option.getD_none]
theorem e0_get {r : Rw} {j : Nat} {x : Int} (h : r[j]? = some x) : e0 r j = x := by
  unfold e0
  rw [List.getD_eq_getElem?_getD, h, Option.getD_some]
section
variable {p f : Int} {n : Nat} {a b r : Rw}
theorem Dom.at (h : Dom p n r) (hp : 0 < p) (j : Nat) : 0 ≤ e0 r j ∧ e0 r j < p := by
  by_cases q : j < r.length
  · rw [e0_lt q]; exact h.ok _ (List.getElem_mem q)
  · rw [e0_ge (by omega)]; omega
theorem Dom.zero (h : Dom p n r) (hp : 0 < p) {j : Nat} (d : p ∣ e0 r j) : e0 r j = 0 := by
  obtain ⟨h1, h2⟩ := h.at hp j
  have := Int.emod_eq_zero_of_dvd d
  rw [Int.emod_eq_of_lt h1 h2] at this
  exact this
theorem Dom.ext (ha : Dom p n a) (hb : Dom p n b) (hp : 0 < p) (h : ∀ j, p ∣ e0 a j - e0 b j) : a = b := by
  apply List.ext_getElem (by rw [ha.len, hb.len])
  intro j h1 h2
  obtain ⟨a1, a2⟩ := ha.ok _ (List.getElem_mem h1)
  obtain ⟨b1, b2⟩ := hb.ok _ (List.getElem_mem h2)
  have := h j
  rw [e0_lt h1, e0_lt h2] at this
  obtain ⟨k, hk⟩ := this
  have k0 : k = 0 := by
    rcases Int.lt_trichotomy k 0 with q | q | q
    · have : p * k ≤ p * (-1) := Int.mul_le_mul_of_nonneg_left (by omega) (by omega)
      omega
    · exact q
    · have : p * 1 ≤ p * k := Int.mul_le_mul_of_nonneg_left (by omega) (by omega)
      omega
  subst k0
  omega
theorem offL_at (h : a.length = b.length) (j : Nat) : e0 (offL p f a b) j = (e0 a j - f * e0 b j) % p := by
  by_cases q : j < a.length
  · have q' : j < b.length := by omega
    refine e0_get ?_
    unfold offL
    rw [List.getElem?_zipWith, List.getElem?_eq_getElem q, List.getElem?_eq_getElem q', e0_lt q, e0_lt q']
  · have q2 : (offL p f a b).length ≤ j := by unfold offL; rw [List.length_zipWith]; omega
    rw [e0_ge q2, e0_ge (r := a) (by omega), e0_ge (r := b) (by omega)]
    simp
theorem mulL_at (j : Nat) : e0 (mulL p f a) j = (f * e0 a j) % p := by
  by_cases q : j < a.length
  · refine e0_get ?_
    unfold mulL
    rw [List.getElem?_map, List.getElem?_eq_getElem q, e0_lt q]
    rfl
  · have q2 : (mulL p f a).length ≤ j := by unfold mulL; rw [List.length_map]; omega
    rw [e0_ge q2, e0_ge (r := a) (by omega)]
    simp
theorem dvd_emod (hp : 0 < p) (x : Int) : p ∣ x % p - x := ⟨-(x / p), by
  have := Int.emod_add_mul_ediv x p
  rw [Int.mul_neg]
  omega⟩
theorem offL_dom (hp : 0 < p) (ha : Dom p n a) (hb : Dom p n b) : Dom p n (offL p f a b) := ⟨by unfold offL; rw [List.length_zipWith, ha.len, hb.len]; omega, fun x hx => by
  unfold offL at hx
  obtain ⟨i, hi, e⟩ := List.mem_iff_getElem.mp hx
  rw [List.getElem_zipWith] at e
  rw [← e]
  exact ⟨Int.emod_nonneg _ (by omega), Int.emod_lt_of_pos _ hp⟩⟩
theorem mulL_dom (hp : 0 < p) (ha : Dom p n a) : Dom p n (mulL p f a) := ⟨by unfold mulL; rw [List.length_map, ha.len], fun x hx => by
  unfold mulL at hx
  obtain ⟨y, _, e⟩ := List.mem_map.mp hx
  rw [← e]
  exact ⟨Int.emod_nonneg _ (by omega), Int.emod_lt_of_pos _ hp⟩⟩
end
theorem vcs_mem {F : List Rw} {k : Nat} {r : Rw} (h : F[k]? = some r) : e0 r ∈ vcs F := List.mem_map.mpr ⟨r, List.mem_of_getElem? h, rfl⟩
theorem of_vcs {F : List Rw} {v : Vc} (h : v ∈ vcs F) : ∃ (k : Nat) (r : Rw), F[k]? = some r ∧ v = e0 r := by
  obtain ⟨r, hr, rfl⟩ := List.mem_map.mp h
  obtain ⟨k, hk, e⟩ := List.mem_iff_getElem.mp hr
  exact ⟨k, r, by rw [List.getElem?_eq_getElem hk, e], rfl⟩
/-- both span the same -/
structure Same (p : Int) (F G : List Rw) : Prop where
  le : ∀ r ∈ vcs F, Sp p (vcs G) r
  ge : ∀ r ∈ vcs G, Sp p (vcs F) r
theorem Same.refl (p : Int) (F : List Rw) : Same p F F := ⟨fun _ h => .mem h, fun _ h => .mem h⟩
theorem Same.symm {p : Int} {F G : List Rw} (a : Same p F G) : Same p G F := ⟨a.ge, a.le⟩
theorem Same.trans {p : Int} {F G E : List Rw} (a : Same p F G) (b : Same p G E) : Same p F E := ⟨fun r h => (a.le r h).le b.le, fun r h => (b.ge r h).le a.ge⟩
theorem Same.of_mem {p : Int} {F G : List Rw} (h1 : ∀ r ∈ F, r ∈ G) (h2 : ∀ r ∈ G, r ∈ F) : Same p F G := ⟨fun v h => by
  obtain ⟨r, hr, rfl⟩ := List.mem_map.mp h
  exact .mem (List.mem_map.mpr ⟨r, h1 r hr, rfl⟩), fun v h => by
  obtain ⟨r, hr, rfl⟩ := List.mem_map.mp h
  exact .mem (List.mem_map.mpr ⟨r, h2 r hr, rfl⟩)⟩
/-- reduced rows -/
structure RL (p : Int) (n : Nat) (B : List Rw) (L : List Nat) : Prop where
  dom : ∀ r ∈ B, Dom p n r
  len : L.length = B.length
  asc : L.Pairwise (· < ·)
  lt : ∀ l ∈ L, l < n
  one : ∀ (i : Nat) (b : Rw) (l : Nat), B[i]? = some b → L[i]? = some l → e0 b l = 1
  off : ∀ (i k : Nat) (b : Rw) (l : Nat), B[k]? = some b → L[i]? = some l → i ≠ k → e0 b l = 0
  pre : ∀ (i : Nat) (b : Rw) (l j : Nat), B[i]? = some b → L[i]? = some l → j < l → e0 b j = 0
theorem vcs_get {F : List Rw} {k : Nat} {v : Vc} (h : (vcs F)[k]? = some v) : ∃ r, F[k]? = some r ∧ v = e0 r := by
  unfold vcs at h
  rw [List.getElem?_map] at h
  cases q : F[k]? with
  | none => rw [q] at h; cases h
  | some r => rw [q] at h; exact ⟨r, rfl, (Option.some.inj h).symm⟩
theorem RL.rb {p : Int} {n : Nat} {B : List Rw} {L : List Nat} (R : RL p n B L) : RB p (vcs B) L where
  len := by unfold vcs; rw [List.length_map, R.len]
  asc := R.asc
  one := fun i v l h1 h2 => by
    obtain ⟨b, hb, rfl⟩ := vcs_get h1
    rw [R.one i b l hb h2]
    exact ⟨0, by omega⟩
  off := fun i k v l h1 h2 h3 => by
    obtain ⟨b, hb, rfl⟩ := vcs_get h1
    rw [R.off i k b l hb h2 h3]
    exact ⟨0, by omega⟩
  pre := fun i v l j h1 h2 h3 => by
    obtain ⟨b, hb, rfl⟩ := vcs_get h1
    rw [R.pre i b l j hb h2 h3]
    exact ⟨0, by omega⟩
theorem RL.unique {p : Int} {n : Nat} {B B' : List Rw} {L L' : List Nat} (hp : 1 < p) (R : RL p n B L) (R' : RL p n B' L') (s : Same p B B') : B = B' ∧ L = L' := by
  have n1 : ¬ p ∣ 1 := fun z => by
    have := Int.le_of_dvd (by omega) z
    omega
  obtain ⟨e, h⟩ := R.rb.unique R'.rb n1 s.ge s.le
  subst e
  refine ⟨?_, rfl⟩
  apply List.ext_getElem (by rw [← R.len, R'.len])
  intro i h1 h2
  refine Dom.ext (R.dom _ (List.getElem_mem h1)) (R'.dom _ (List.getElem_mem h2)) (by omega) ?_
  exact h i _ _ (by unfold vcs; rw [List.getElem?_map, List.getElem?_eq_getElem h1]; rfl) (by unfold vcs; rw [List.getElem?_map, List.getElem?_eq_getElem h2]; rfl)
end Ma
set_option linter.all false
/-! The elimination that goes place by place, rows exchanged. -/
namespace Ma
structure El (p : Int) (n c : Nat) (F0 F : List Rw) (L : List Nat) : Prop where
  dom : ∀ r ∈ F, Dom p n r
  le : L.length ≤ F.length
  asc : L.Pairwise (· < ·)
  lt : ∀ l ∈ L, l < c
  one : ∀ (i : Nat) (b : Rw) (l : Nat), F[i]? = some b → L[i]? = some l → e0 b l = 1
  off : ∀ (i k : Nat) (b : Rw) (l : Nat), F[k]? = some b → L[i]? = some l → i ≠ k → e0 b l = 0
  pre : ∀ (i : Nat) (b : Rw) (l j : Nat), F[i]? = some b → L[i]? = some l → j < l → e0 b j = 0
  low : ∀ (k : Nat) (b : Rw) (j : Nat), L.length ≤ k → F[k]? = some b → j < c → e0 b j = 0
  same : Same p F0 F
section
variable {p : Int} {n c : Nat} {F0 F : List Rw} {L : List Nat}
theorem El.init (h : ∀ r ∈ F, Dom p n r) : El p n 0 F F [] where
  dom := h
  le := Nat.zero_le _
  asc := .nil
  lt := fun l hl => nomatch hl
  one := fun i b l _ h => by simp at h
  off := fun i k b l _ h => by simp at h
  pre := fun i b l j _ h => by simp at h
  low := fun k b j _ _ h => absurd h (by omega)
  same := .refl p F
theorem El.skip (e : El p n c F0 F L) (h : ∀ (k : Nat) (b : Rw), L.length ≤ k → F[k]? = some b → e0 b c = 0) : El p n (c + 1) F0 F L where
  dom := e.dom
  le := e.le
  asc := e.asc
  lt := fun l hl => Nat.lt_succ_of_lt (e.lt l hl)
  one := e.one
  off := e.off
  pre := e.pre
  low := fun k b j h1 h2 h3 => by
    by_cases q : j = c
    · subst q; exact h k b h1 h2
    · exact e.low k b j h1 h2 (by omega)
  same := e.same
theorem El.done (e : El p n n F0 F L) : RL p n (F.take L.length) L ∧ Same p F0 (F.take L.length) := by
  have tk : ∀ {k : Nat} {b : Rw}, (F.take L.length)[k]? = some b → F[k]? = some b := fun {k b} h => by
    rw [List.getElem?_take] at h
    split at h
    · exact h
    · cases h
  refine ⟨⟨fun r hr => e.dom r (List.mem_of_mem_take hr), by rw [List.length_take]; have := e.le; omega, e.asc, e.lt, fun i b l h1 h2 => e.one i b l (tk h1) h2, fun i k b l h1 h2 h3 => e.off i k b l (tk h1) h2 h3, fun i b l j h1 h2 h3 => e.pre i b l j (tk h1) h2 h3⟩, e.same.trans ⟨fun v hv => ?_, fun v hv => ?_⟩⟩
  · obtain ⟨k, r, hk, rfl⟩ := of_vcs hv
    by_cases q : k < L.length
    · exact .mem (vcs_mem (k := k) (by rw [List.getElem?_take, if_pos q]; exact hk))
    · refine .zero fun j => ?_
      have : e0 r j = 0 := by
        by_cases z : j < n
        · exact e.low k r j (by omega) hk z
        · exact e0_ge (by have := (e.dom r (List.mem_of_getElem? hk)).len; omega)
      rw [this]
      exact ⟨0, by omega⟩
  · obtain ⟨k, r, hk, rfl⟩ := of_vcs hv
    exact .mem (vcs_mem (tk hk))
theorem El.pivot (e : El p n c F0 F L) (hp : 1 < p) (hc : c < n) {q : Nat} {Q D : Rw} {u : Int} {F' : List Rw} (hq : L.length ≤ q) (eQ : F[q]? = some Q) (eD : F[L.length]? = some D) (hu : (u * e0 Q c) % p = 1) (hl : F'.length = F.length)
    (h : ∀ (k : Nat) (b : Rw), ((F.set q D).set L.length (mulL p u Q))[k]? = some b → F'[k]? = some (if k ≠ L.length ∧ e0 b c ≠ 0 then offL p (e0 b c) b (mulL p u Q) else b)) : El p n (c + 1) F0 F' (L ++ [c]) := by
  have p0 : 0 < p := by omega
  have dQ := e.dom Q (List.mem_of_getElem? eQ)
  have dD := e.dom D (List.mem_of_getElem? eD)
  have dP : Dom p n (mulL p u Q) := mulL_dom p0 dQ
  have ql : q < F.length := by obtain ⟨z, _⟩ := List.getElem?_eq_some_iff.mp eQ; exact z
  have dl : L.length < F.length := by omega
  have em : ∀ {r : Rw} {j : Nat}, Dom p n r → (e0 r j) % p = e0 r j := fun {r j} d => Int.emod_eq_of_lt (d.at p0 j).1 (d.at p0 j).2
  have Pc : e0 (mulL p u Q) c = 1 := by rw [mulL_at]; exact hu
  have Pl : ∀ j, j < c → e0 (mulL p u Q) j = 0 := fun j hj => by
    rw [mulL_at, e.low q Q j hq eQ hj]
    simp
  have PL : ∀ i l, L[i]? = some l → e0 (mulL p u Q) l = 0 := fun i l hi => Pl l (e.lt l (List.mem_of_getElem? hi))
  -- the rows once exchanged
  have gk : ∀ (k : Nat) (b : Rw), ((F.set q D).set L.length (mulL p u Q))[k]? = some b → (k = L.length ∧ b = mulL p u Q) ∨ (k ≠ L.length ∧ ((k = q ∧ b = D) ∨ (k ≠ q ∧ F[k]? = some b))) := fun k b hk => by
    by_cases k1 : k = L.length
    · subst k1
      rw [List.getElem?_set_self (by rw [List.length_set]; exact dl)] at hk
      cases hk
      exact .inl ⟨rfl, rfl⟩
    · rw [List.getElem?_set_ne (Ne.symm k1)] at hk
      by_cases k2 : k = q
      · subst k2
        rw [List.getElem?_set_self ql] at hk
        cases hk
        exact .inr ⟨k1, .inl ⟨rfl, rfl⟩⟩
      · rw [List.getElem?_set_ne (Ne.symm k2)] at hk
        exact .inr ⟨k1, .inr ⟨k2, hk⟩⟩
  have gd : ∀ (k : Nat) (b : Rw), ((F.set q D).set L.length (mulL p u Q))[k]? = some b → Dom p n b := fun k b hk => by
    rcases gk k b hk with ⟨_, rfl⟩ | ⟨_, ⟨_, rfl⟩ | ⟨_, z⟩⟩
    · exact dP
    · exact dD
    · exact e.dom b (List.mem_of_getElem? z)
  -- each row of F', told by the row that it comes of
  have back : ∀ (k : Nat) (b' : Rw), F'[k]? = some b' → ∃ b, ((F.set q D).set L.length (mulL p u Q))[k]? = some b ∧ Dom p n b ∧ Dom p n b' ∧ ((k = L.length ∧ b' = mulL p u Q ∧ b = mulL p u Q) ∨ (k ≠ L.length ∧ ∀ j, e0 b' j = (e0 b j - e0 b c * e0 (mulL p u Q) j) % p)) := fun k b' hk => by
    have kl : k < F'.length := by obtain ⟨z, _⟩ := List.getElem?_eq_some_iff.mp hk; exact z
    have kg : k < ((F.set q D).set L.length (mulL p u Q)).length := by rw [List.length_set, List.length_set]; omega
    have eb := List.getElem?_eq_getElem kg
    have d := gd k _ eb
    refine ⟨_, eb, d, ?_⟩
    have z := h k _ eb
    rw [hk] at z
    have z := Option.some.inj z
    by_cases k1 : k = L.length
    · rw [if_neg (by intro w; exact w.1 k1)] at z
      have : ((F.set q D).set L.length (mulL p u Q))[k] = mulL p u Q := by
        rcases gk k _ eb with ⟨_, w⟩ | ⟨w, _⟩
        · exact w
        · exact absurd k1 w
      rw [this] at z ⊢
      exact ⟨z ▸ dP, .inl ⟨k1, z, rfl⟩⟩
    · by_cases k2 : e0 ((F.set q D).set L.length (mulL p u Q))[k] c = 0
      · rw [if_neg (by intro w; exact w.2 k2)] at z
        subst z
        exact ⟨d, .inr ⟨k1, fun j => by rw [k2, Int.zero_mul, Int.sub_zero, em d]⟩⟩
      · rw [if_pos ⟨k1, k2⟩] at z
        subst z
        exact ⟨offL_dom p0 d dP, .inr ⟨k1, fun j => offL_at (by rw [d.len, dP.len]) j⟩⟩
  -- entries of the exchanged rows
  have gL : ∀ (i k : Nat) (b : Rw) (l : Nat), ((F.set q D).set L.length (mulL p u Q))[k]? = some b → L[i]? = some l → i ≠ k → e0 b l = 0 := fun i k b l hk hi ne => by
    have il : i < L.length := by obtain ⟨z, _⟩ := List.getElem?_eq_some_iff.mp hi; exact z
    rcases gk k b hk with ⟨_, rfl⟩ | ⟨_, ⟨_, rfl⟩ | ⟨_, z⟩⟩
    · exact PL i l hi
    · exact e.off i L.length _ l eD hi (by omega)
    · exact e.off i k b l z hi ne
  have gz : ∀ (k : Nat) (b : Rw) (j : Nat), ((F.set q D).set L.length (mulL p u Q))[k]? = some b → L.length ≤ k → j < c → e0 b j = 0 := fun k b j hk lk hj => by
    rcases gk k b hk with ⟨_, rfl⟩ | ⟨_, ⟨_, rfl⟩ | ⟨_, z⟩⟩
    · exact Pl j hj
    · exact e.low L.length _ j (Nat.le_refl _) eD hj
    · exact e.low k b j lk z hj
  have gF : ∀ (k : Nat) (b : Rw), ((F.set q D).set L.length (mulL p u Q))[k]? = some b → k < L.length → F[k]? = some b := fun k b hk lk => by
    rcases gk k b hk with ⟨z, _⟩ | ⟨_, ⟨z, _⟩ | ⟨_, z⟩⟩
    · omega
    · omega
    · exact z
  have one1 : (1 : Int) % p = 1 := Int.emod_eq_of_lt (by omega) hp
  have Lget : ∀ (i l : Nat), (L ++ [c])[i]? = some l → L[i]? = some l ∨ (i = L.length ∧ l = c) := fun i l hi => by
    by_cases il : i < L.length
    · rw [List.getElem?_append_left il] at hi
      exact .inl hi
    · rw [List.getElem?_append_right (by omega)] at hi
      have : i - L.length = 0 := by
        apply Classical.byContradiction
        intro w
        rw [List.getElem?_eq_none (by simp; omega)] at hi
        cases hi
      rw [this] at hi
      cases hi
      exact .inr ⟨by omega, rfl⟩
  refine ⟨fun r hr => ?_, by rw [List.length_append, hl]; simp; omega, ?_, fun l hl => ?_, fun i b' l hk hi => ?_, fun i k b' l hk hi ne => ?_, fun i b' l j hk hi hj => ?_, fun k b' j lk hk hj => ?_, e.same.trans ⟨fun v hv => ?_, fun v hv => ?_⟩⟩
  · obtain ⟨k, hk, er⟩ := List.mem_iff_getElem.mp hr
    obtain ⟨_, _, _, d, _⟩ := back k r (by rw [List.getElem?_eq_getElem hk, er])
    exact d
  · refine List.pairwise_append.mpr ⟨e.asc, List.pairwise_singleton _ _, fun a ha b hb => ?_⟩
    rw [List.mem_singleton] at hb
    subst hb
    exact e.lt a ha
  · rcases List.mem_append.mp hl with z | z
    · exact Nat.lt_succ_of_lt (e.lt l z)
    · rw [List.mem_singleton] at z
      omega
  · obtain ⟨b, hb, d, d', ⟨k1, rfl, _⟩ | ⟨k1, hj⟩⟩ := back i b' hk
    · rcases Lget i l hi with z | ⟨_, rfl⟩
      · obtain ⟨w, _⟩ := List.getElem?_eq_some_iff.mp z; omega
      · exact Pc
    · rcases Lget i l hi with z | ⟨w, _⟩
      · obtain ⟨w, _⟩ := List.getElem?_eq_some_iff.mp z
        rw [hj l, PL i l z, e.one i b l (gF i b hb w) z, Int.mul_zero, Int.sub_zero, one1]
      · exact absurd w k1
  · obtain ⟨b, hb, d, d', ⟨k1, rfl, _⟩ | ⟨k1, hj⟩⟩ := back k b' hk
    · rcases Lget i l hi with z | ⟨w, _⟩
      · exact PL i l z
      · omega
    · rcases Lget i l hi with z | ⟨_, rfl⟩
      · rw [hj l, PL i l z, gL i k b l hb z ne]
        simp
      · rw [hj l, Pc, Int.mul_one, Int.sub_self]
        simp
  · obtain ⟨b, hb, d, d', ⟨k1, rfl, _⟩ | ⟨k1, hj'⟩⟩ := back i b' hk
    · rcases Lget i l hi with z | ⟨_, rfl⟩
      · obtain ⟨w, _⟩ := List.getElem?_eq_some_iff.mp z; omega
      · exact Pl j hj
    · rcases Lget i l hi with z | ⟨w, _⟩
      · obtain ⟨w, _⟩ := List.getElem?_eq_some_iff.mp z
        have lc := e.lt l (List.mem_of_getElem? z)
        rw [hj' j, Pl j (by omega), e.pre i b l j (gF i b hb w) z hj]
        simp
      · exact absurd w k1
  · rw [List.length_append] at lk
    simp at lk
    obtain ⟨b, hb, d, d', ⟨k1, _, _⟩ | ⟨k1, hj'⟩⟩ := back k b' hk
    · omega
    · by_cases jc : j = c
      · subst jc
        rw [hj' j, Pc, Int.mul_one, Int.sub_self]
        simp
      · rw [hj' j, Pl j (by omega), gz k b j hb (by omega) (by omega)]
        simp
  · -- the old rows come of the new ones
    have Pin : Sp p (vcs F') (e0 (mulL p u Q)) := by
      have z := h L.length (mulL p u Q) (List.getElem?_set_self (by rw [List.length_set]; exact dl))
      rw [if_neg (by intro w; exact w.1 rfl)] at z
      exact .mem (vcs_mem z)
    have Gin : ∀ (k : Nat) (b : Rw), ((F.set q D).set L.length (mulL p u Q))[k]? = some b → Sp p (vcs F') (e0 b) := fun k b hk => by
      have kl : k < F'.length := by
        obtain ⟨z, _⟩ := List.getElem?_eq_some_iff.mp hk
        rw [List.length_set, List.length_set] at z
        omega
      have ek : F'[k]? = some F'[k] := List.getElem?_eq_getElem kl
      obtain ⟨b2, hb2, d, d', ⟨k1, _, w⟩ | ⟨k1, hj⟩⟩ := back k _ ek
      · rw [hk] at hb2
        cases hb2
        rw [w]
        exact Pin
      · rw [hk] at hb2
        cases hb2
        refine Sp.sum (.mem (vcs_mem ek)) Pin (e0 b c) fun j => ?_
        rw [hj j]
        have := Int.dvd_neg.mpr (dvd_emod p0 (e0 b j - e0 b c * e0 (mulL p u Q) j))
        exact dvd_cast this (by omega)
    obtain ⟨k, r, hk, rfl⟩ := of_vcs hv
    have Qin : Sp p (vcs F') (e0 Q) := Pin.mul (e0 Q c) fun j => by
      rw [mulL_at]
      have a1 : p ∣ e0 Q c * ((u * e0 Q j) % p - u * e0 Q j) := Int.dvd_mul_of_dvd_right (dvd_emod p0 _)
      have a2 : p ∣ (u * e0 Q c - 1) * e0 Q j := Int.dvd_mul_of_dvd_left (by
        have := Int.dvd_neg.mpr (dvd_emod p0 (u * e0 Q c))
        rw [hu] at this
        exact dvd_cast this (by omega))
      have a3 := Int.dvd_neg.mpr (Int.dvd_add a1 a2)
      refine dvd_cast a3 ?_
      rw [Int.mul_sub, Int.sub_mul, Int.mul_comm u (e0 Q c), Int.mul_assoc]
      omega
    by_cases k2 : k = q
    · subst k2
      rw [eQ] at hk
      cases hk
      exact Qin
    · by_cases k1 : k = L.length
      · subst k1
        have q1 : q ≠ L.length := fun z => k2 z.symm
        exact Gin q r (by rw [List.getElem?_set_ne (Ne.symm q1), List.getElem?_set_self ql, ← hk, eD])
      · exact Gin k r (by rw [List.getElem?_set_ne (Ne.symm k1), List.getElem?_set_ne (Ne.symm k2)]; exact hk)
  · have Qin : Sp p (vcs F) (e0 Q) := .mem (vcs_mem eQ)
    have Pin : Sp p (vcs F) (e0 (mulL p u Q)) := Qin.mul u fun j => by
      rw [mulL_at]
      exact dvd_emod p0 _
    obtain ⟨k, r, hk, rfl⟩ := of_vcs hv
    obtain ⟨b, hb, d, d', ⟨_, rfl, _⟩ | ⟨k1, hj⟩⟩ := back k r hk
    · exact Pin
    · have bin : Sp p (vcs F) (e0 b) := by
        rcases gk k b hb with ⟨z, _⟩ | ⟨_, ⟨_, rfl⟩ | ⟨_, z⟩⟩
        · exact absurd z k1
        · exact .mem (vcs_mem eD)
        · exact .mem (vcs_mem z)
      refine Sp.sum bin Pin (-(e0 b c)) fun j => ?_
      rw [hj j]
      refine dvd_cast (dvd_emod p0 (e0 b j - e0 b c * e0 (mulL p u Q) j)) ?_
      rw [Int.neg_mul]
      omega
end
end Ma
set_option linter.all false
/-! The elimination that takes rows away. -/
namespace Ma
structure Lw (p : Int) (n c : Nat) (R B X : List Rw) (L : List Nat) : Prop where
  domB : ∀ r ∈ B, Dom p n r
  domX : ∀ r ∈ X, Dom p n r
  len : L.length = B.length
  asc : L.Pairwise (· < ·)
  lt : ∀ l ∈ L, l < c
  one : ∀ (i : Nat) (b : Rw) (l : Nat), B[i]? = some b → L[i]? = some l → e0 b l = 1
  off : ∀ (i k : Nat) (b : Rw) (l : Nat), B[k]? = some b → L[i]? = some l → i ≠ k → e0 b l = 0
  pre : ∀ (i : Nat) (b : Rw) (l j : Nat), B[i]? = some b → L[i]? = some l → j < l → e0 b j = 0
  low : ∀ x ∈ X, ∀ j, j < c → e0 x j = 0
  same : Same p R (B ++ X)
section
variable {p : Int} {n c : Nat} {R B X : List Rw} {L : List Nat}
theorem Lw.init (h : ∀ r ∈ X, Dom p n r) : Lw p n 0 X [] X [] where
  domB := fun r hr => nomatch hr
  domX := h
  len := rfl
  asc := .nil
  lt := fun l hl => nomatch hl
  one := fun i b l _ h => by simp at h
  off := fun i k b l _ h => by simp at h
  pre := fun i b l j _ h => by simp at h
  low := fun x _ j h => absurd h (by omega)
  same := .refl p X
theorem Lw.skip (e : Lw p n c R B X L) (h : ∀ x ∈ X, e0 x c = 0) : Lw p n (c + 1) R B X L where
  domB := e.domB
  domX := e.domX
  len := e.len
  asc := e.asc
  lt := fun l hl => Nat.lt_succ_of_lt (e.lt l hl)
  one := e.one
  off := e.off
  pre := e.pre
  low := fun x hx j hj => by
    by_cases q : j = c
    · subst q; exact h x hx
    · exact e.low x hx j (by omega)
  same := e.same
theorem Lw.done (e : Lw p n n R B X L) : RL p n B L ∧ Same p R B := by
  refine ⟨⟨e.domB, e.len, e.asc, e.lt, e.one, e.off, e.pre⟩, e.same.trans ⟨fun v hv => ?_, fun v hv => ?_⟩⟩
  · obtain ⟨r, hr, rfl⟩ := List.mem_map.mp hv
    rcases List.mem_append.mp hr with z | z
    · exact .mem (List.mem_map.mpr ⟨r, z, rfl⟩)
    · refine .zero fun j => ?_
      have : e0 r j = 0 := by
        by_cases w : j < n
        · exact e.low r z j w
        · exact e0_ge (by have := (e.domX r z).len; omega)
      rw [this]
      exact ⟨0, by omega⟩
  · obtain ⟨r, hr, rfl⟩ := List.mem_map.mp hv
    exact .mem (List.mem_map.mpr ⟨r, List.mem_append_left _ hr, rfl⟩)
theorem Lw.pivot (e : Lw p n c R B X L) (hp : 1 < p) (hc : c < n) {q : Nat} {Q : Rw} {u : Int} {X' : List Rw} (eQ : X[q]? = some Q) (hu : (u * e0 Q c) % p = 1)
    (h1 : ∀ x' ∈ X', ∃ (k : Nat) (x : Rw), k ≠ q ∧ X[k]? = some x ∧ x' = offL p (e0 x c) x (mulL p u Q)) (h2 : ∀ (k : Nat) (x : Rw), k ≠ q → X[k]? = some x → offL p (e0 x c) x (mulL p u Q) ∈ X') :
    Lw p n (c + 1) R (B.map (fun b => offL p (e0 b c) b (mulL p u Q)) ++ [mulL p u Q]) X' (L ++ [c]) := by
  have p0 : 0 < p := by omega
  have mQ : Q ∈ X := List.mem_of_getElem? eQ
  have dQ := e.domX Q mQ
  have dP : Dom p n (mulL p u Q) := mulL_dom p0 dQ
  have Pc : e0 (mulL p u Q) c = 1 := by rw [mulL_at]; exact hu
  have Pl : ∀ j, j < c → e0 (mulL p u Q) j = 0 := fun j hj => by
    rw [mulL_at, e.low Q mQ j hj]
    simp
  have PL : ∀ i l, L[i]? = some l → e0 (mulL p u Q) l = 0 := fun i l hi => Pl l (e.lt l (List.mem_of_getElem? hi))
  have one1 : (1 : Int) % p = 1 := Int.emod_eq_of_lt (by omega) hp
  have oe : ∀ {r : Rw}, Dom p n r → ∀ j, e0 (offL p (e0 r c) r (mulL p u Q)) j = (e0 r j - e0 r c * e0 (mulL p u Q) j) % p := fun {r} d j => offL_at (by rw [d.len, dP.len]) j
  have Lget : ∀ (i l : Nat), (L ++ [c])[i]? = some l → (i < L.length ∧ L[i]? = some l) ∨ (i = L.length ∧ l = c) := fun i l hi => by
    by_cases il : i < L.length
    · rw [List.getElem?_append_left il] at hi
      exact .inl ⟨il, hi⟩
    · rw [List.getElem?_append_right (by omega)] at hi
      have : i - L.length = 0 := by
        apply Classical.byContradiction
        intro w
        rw [List.getElem?_eq_none (by simp; omega)] at hi
        cases hi
      rw [this] at hi
      cases hi
      exact .inr ⟨by omega, rfl⟩
  have Bget : ∀ (k : Nat) (b' : Rw), (B.map (fun b => offL p (e0 b c) b (mulL p u Q)) ++ [mulL p u Q])[k]? = some b' → (k < L.length ∧ ∃ b, B[k]? = some b ∧ Dom p n b ∧ b' = offL p (e0 b c) b (mulL p u Q)) ∨ (k = L.length ∧ b' = mulL p u Q) := fun k b' hk => by
    by_cases kl : k < B.length
    · rw [List.getElem?_append_left (by rw [List.length_map]; exact kl), List.getElem?_map, List.getElem?_eq_getElem kl] at hk
      cases hk
      exact .inl ⟨by rw [e.len]; exact kl, _, List.getElem?_eq_getElem kl, e.domB _ (List.getElem_mem kl), rfl⟩
    · rw [List.getElem?_append_right (by rw [List.length_map]; omega), List.length_map] at hk
      have : k - B.length = 0 := by
        apply Classical.byContradiction
        intro w
        rw [List.getElem?_eq_none (by simp; omega)] at hk
        cases hk
      rw [this] at hk
      cases hk
      exact .inr ⟨by rw [e.len]; omega, rfl⟩
  refine ⟨fun r hr => ?_, fun r hr => ?_, ?_, ?_, fun l hl => ?_, fun i b' l hk hi => ?_, fun i k b' l hk hi ne => ?_, fun i b' l j hk hi hj => ?_, fun x' hx' j hj => ?_, e.same.trans ⟨fun v hv => ?_, fun v hv => ?_⟩⟩
  · rcases List.mem_append.mp hr with z | z
    · obtain ⟨b, hb, rfl⟩ := List.mem_map.mp z
      exact offL_dom p0 (e.domB b hb) dP
    · rw [List.mem_singleton] at z
      exact z ▸ dP
  · obtain ⟨k, x, _, hx, rfl⟩ := h1 r hr
    exact offL_dom p0 (e.domX x (List.mem_of_getElem? hx)) dP
  · rw [List.length_append, List.length_append, List.length_map, e.len]
    rfl
  · refine List.pairwise_append.mpr ⟨e.asc, List.pairwise_singleton _ _, fun a ha b hb => ?_⟩
    rw [List.mem_singleton] at hb
    subst hb
    exact e.lt a ha
  · rcases List.mem_append.mp hl with z | z
    · exact Nat.lt_succ_of_lt (e.lt l z)
    · rw [List.mem_singleton] at z
      omega
  · rcases Bget i b' hk with ⟨il, b, hb, d, rfl⟩ | ⟨ie, rfl⟩
    · rcases Lget i l hi with ⟨_, z⟩ | ⟨z, _⟩
      · rw [oe d l, PL i l z, e.one i b l hb z, Int.mul_zero, Int.sub_zero, one1]
      · omega
    · rcases Lget i l hi with ⟨z, _⟩ | ⟨_, rfl⟩
      · omega
      · exact Pc
  · rcases Bget k b' hk with ⟨kl, b, hb, d, rfl⟩ | ⟨ke, rfl⟩
    · rcases Lget i l hi with ⟨_, z⟩ | ⟨_, rfl⟩
      · rw [oe d l, PL i l z, e.off i k b l hb z ne]
        simp
      · rw [oe d l, Pc, Int.mul_one, Int.sub_self]
        simp
    · rcases Lget i l hi with ⟨_, z⟩ | ⟨z, _⟩
      · exact PL i l z
      · omega
  · rcases Bget i b' hk with ⟨il, b, hb, d, rfl⟩ | ⟨ie, rfl⟩
    · rcases Lget i l hi with ⟨_, z⟩ | ⟨z, _⟩
      · have lc := e.lt l (List.mem_of_getElem? z)
        rw [oe d j, Pl j (by omega), e.pre i b l j hb z hj]
        simp
      · omega
    · rcases Lget i l hi with ⟨z, _⟩ | ⟨_, rfl⟩
      · omega
      · exact Pl j hj
  · obtain ⟨k, x, _, hx, rfl⟩ := h1 x' hx'
    have mx := List.mem_of_getElem? hx
    by_cases jc : j = c
    · subst jc
      rw [oe (e.domX x mx) j, Pc, Int.mul_one, Int.sub_self]
      simp
    · rw [oe (e.domX x mx) j, Pl j (by omega), e.low x mx j (by omega)]
      simp
  · -- the old rows come of the new ones
    have Pin : Sp p (vcs (B.map (fun b => offL p (e0 b c) b (mulL p u Q)) ++ [mulL p u Q] ++ X')) (e0 (mulL p u Q)) := .mem (List.mem_map.mpr ⟨_, List.mem_append_left _ (List.mem_append_right _ List.mem_cons_self), rfl⟩)
    have up : ∀ {r : Rw}, Dom p n r → offL p (e0 r c) r (mulL p u Q) ∈ (B.map (fun b => offL p (e0 b c) b (mulL p u Q)) ++ [mulL p u Q] ++ X') → Sp p (vcs (B.map (fun b => offL p (e0 b c) b (mulL p u Q)) ++ [mulL p u Q] ++ X')) (e0 r) := fun {r} d hm => by
      refine Sp.sum (.mem (List.mem_map.mpr ⟨_, hm, rfl⟩)) Pin (e0 r c) fun j => ?_
      rw [oe d j]
      have := Int.dvd_neg.mpr (dvd_emod p0 (e0 r j - e0 r c * e0 (mulL p u Q) j))
      exact dvd_cast this (by omega)
    obtain ⟨r, hr, rfl⟩ := List.mem_map.mp hv
    rcases List.mem_append.mp hr with z | z
    · exact up (e.domB r z) (List.mem_append_left _ (List.mem_append_left _ (List.mem_map.mpr ⟨r, z, rfl⟩)))
    · obtain ⟨k, hk, er⟩ := List.mem_iff_getElem.mp z
      have ek : X[k]? = some r := by rw [List.getElem?_eq_getElem hk, er]
      by_cases kq : k = q
      · subst kq
        rw [eQ] at ek
        cases ek
        refine Pin.mul (e0 Q c) fun j => ?_
        rw [mulL_at]
        have a1 : p ∣ e0 Q c * ((u * e0 Q j) % p - u * e0 Q j) := Int.dvd_mul_of_dvd_right (dvd_emod p0 _)
        have a2 : p ∣ (u * e0 Q c - 1) * e0 Q j := Int.dvd_mul_of_dvd_left (by
          have := Int.dvd_neg.mpr (dvd_emod p0 (u * e0 Q c))
          rw [hu] at this
          exact dvd_cast this (by omega))
        have a3 := Int.dvd_neg.mpr (Int.dvd_add a1 a2)
        refine dvd_cast a3 ?_
        rw [Int.mul_sub, Int.sub_mul, Int.mul_comm u (e0 Q c), Int.mul_assoc]
        omega
      · exact up (e.domX r z) (List.mem_append_right _ (h2 k r kq ek))
  · have Qin : Sp p (vcs (B ++ X)) (e0 Q) := .mem (List.mem_map.mpr ⟨Q, List.mem_append_right _ mQ, rfl⟩)
    have Pin : Sp p (vcs (B ++ X)) (e0 (mulL p u Q)) := Qin.mul u fun j => by
      rw [mulL_at]
      exact dvd_emod p0 _
    have dn : ∀ {r : Rw}, Dom p n r → r ∈ B ++ X → Sp p (vcs (B ++ X)) (e0 (offL p (e0 r c) r (mulL p u Q))) := fun {r} d hm => by
      refine Sp.sum (.mem (List.mem_map.mpr ⟨r, hm, rfl⟩)) Pin (-(e0 r c)) fun j => ?_
      rw [oe d j]
      refine dvd_cast (dvd_emod p0 (e0 r j - e0 r c * e0 (mulL p u Q) j)) ?_
      rw [Int.neg_mul]
      omega
    obtain ⟨r, hr, rfl⟩ := List.mem_map.mp hv
    rcases List.mem_append.mp hr with z | z
    · rcases List.mem_append.mp z with z | z
      · obtain ⟨b, hb, rfl⟩ := List.mem_map.mp z
        exact dn (e.domB b hb) (List.mem_append_left _ hb)
      · rw [List.mem_singleton] at z
        subst z
        exact Pin
    · obtain ⟨k, x, _, hx, rfl⟩ := h1 r z
      have mx := List.mem_of_getElem? hx
      exact dn (e.domX x mx) (List.mem_append_right _ mx)
end
end Ma
set_option linter.all false
set_option maxRecDepth 100000
/-! How shallow texts are read: in small steps. -/
namespace Mi
open PySem PySem.Spec L2

def Ret (F : FF) (ds : List D) (d : D) : Prop := ∃ xs, F ds = some (d, xs) ∧ ds.length ≤ xs.length
section
variable {s s1 s2 s3 : SD} {a b c d : D} {f g : FE}
theorem runF_rt {n : Nat} {g : FS} {ds : List D} {d : D} {s : SD} (h : g (st0 n ds) = some (.rt d s)) (hl : ds.length ≤ s.length) : Ret (runF n g) ds d := ⟨s, by unfold runF; rw [h]; rfl, hl⟩
theorem v_at {i : Nat} (h : s[i]? = some (some d)) : eVar i s = some (d, s) := by unfold eVar; rw [h]
theorem v_bin {op : D → D → Option D} (h1 : f s = some (a, s1)) (h2 : g s1 = some (b, s2)) (h3 : op a b = some c) : eBin op f g s = some (c, s2) := by unfold eBin; rw [h1]; show ((g s1).bind _) = _; rw [h2]; show ((op a b).map _) = _; rw [h3]; rfl
theorem v_binO {op : D → D → Option D} {k : Nat} (h0 : s[k]? = some (some d)) (h1 : g s = some (b, s1)) (h2 : s1[k]? = some (some a)) (h3 : op a b = some c) : eBinO op k g s = some (c, s1) := by
  unfold eBinO; rw [v_at h0]; show ((g s).bind _) = _; rw [h1]; show ((eVar k s1).bind _) = _; rw [v_at h2]; show ((op a b).map _) = _; rw [h3]; rfl
theorem v_F {l : List D} (h : f s = some (.list l, s1)) : eF f s = some (.list l, s1) := by unfold eF; rw [h]; rfl
theorem v_c1 {op : D → Option D} (h : f s = some (a, s1)) (h2 : op a = some c) : eCall1 op f s = some (c, s1) := by unfold eCall1; rw [h]; show ((op a).map _) = _; rw [h2]; rfl
theorem v_tst {x : Bool} (h : f s = some (.bool x, s1)) : eTst f s = some (x, s1) := by unfold eTst; rw [h]; rfl
theorem v_tru {x : Bool} (h : f s = some (a, s1)) (h2 : truD a = some x) : eTru f s = some (x, s1) := by unfold eTru; rw [h]; show ((truD a).map _) = _; rw [h2]; rfl
theorem v_not {t : FT} {x : Bool} (h : t s = some (x, s1)) : tNt t s = some (!x, s1) := by unfold tNt; rw [h]; rfl
theorem v_if {t : FT} {x : Bool} (h : t s = some (x, s1)) : eIf t f g s = if x then f s1 else g s1 := by unfold eIf; rw [h]; rfl
theorem v_rt (h : f s = some (d, s1)) : sRt f s = some (.rt d s1) := by unfold sRt; rw [h]; rfl
theorem v_nx {p q : FS} (h : p s = some (.nx s1)) : sCons p q s = q s1 := by unfold sCons; rw [h]; rfl
theorem v_end {p q : FS} {o : Out} (h : p s = some o) (n : ∀ s', o ≠ .nx s') : sCons p q s = some o := by
  unfold sCons; rw [h]
  cases o with
  | nx s' => exact absurd rfl (n s')
  | bk _ => rfl
  | ct _ => rfl
  | rt _ _ => rfl
theorem v_as {h : FG} (e : f s = some (d, s1)) (e2 : h d s1 = some s2) : sAs f h s = some (.nx s2) := by unfold sAs; rw [e]; show ((h d s1).map _) = _; rw [e2]; rfl
theorem v_set {i : Nat} (e : f s = some (d, s1)) : sAs f (gNm i) s = some (.nx (s1.set i (some d))) := v_as e rfl
theorem v_setO {i : Nat} (e : f s = some (d, s1)) (hl : i < s1.length) : sAsO f i s = some (.nx (s1.set i (some d))) := by unfold sAsO; rw [e]; show (if _ then _ else _) = _; rw [if_pos hl]
theorem v_sif {t : FT} {p q : FS} {x : Bool} (h : t s = some (x, s1)) : sIf t p q s = if x then p s1 else q s1 := by unfold sIf; rw [h]; rfl
theorem v_par {i j : Nat} (h1 : f s = some (a, s1)) (h2 : g s1 = some (b, s2)) : sPar i j f g s = some (.nx ((s2.set i (some a)).set j (some b))) := by unfold sPar; rw [h1]; show ((g s1).map _) = _; rw [h2]; rfl
theorem v_cons {q : FA} {l : List D} (h1 : f s = some (a, s1)) (h2 : q s1 = some (l, s2)) : aCons f q s = some (a :: l, s2) := by unfold aCons; rw [h1]; show ((q s1).map _) = _; rw [h2]; rfl
theorem v_lst {q : FA} {l : List D} (h : q s = some (l, s1)) : eLst q s = some (.list l, s1) := by unfold eLst; rw [h]; rfl
theorem v_tup {q : FA} {l : List D} (h : q s = some (l, s1)) : eTup q s = some (.tuple l, s1) := by unfold eTup; rw [h]; rfl
theorem v_S {l : List D} (h : f s = some (.list l, s1)) : iS f s = some (l, s1) := by unfold iS; rw [h]; rfl
theorem v_St {l : List D} (h : f s = some (.tuple l, s1)) : iS f s = some (l, s1) := by unfold iS; rw [h]; rfl
theorem v_R1 {n : Int} (h : f s = some (.int n, s1)) (h2 : -1000000 ≤ n ∧ n ≤ 1000000) : iR1 f s = some (rgD 0 n.toNat, s1) := by unfold iR1; rw [h]; show (if _ then _ else _) = _; rw [if_pos h2]
theorem v_R2 {m n : Int} (h : f s = some (.int m, s1)) (h' : g s1 = some (.int n, s2)) (h2 : -400000 ≤ m ∧ m ≤ 400000 ∧ -400000 ≤ n ∧ n ≤ 400000) : iR2 f g s = some (rgD m (n - m).toNat, s2) := by unfold iR2; rw [h]; show ((g s1).bind _) = _; rw [h']; show (if _ then _ else _) = _; rw [if_pos h2]
theorem v_st {k : Nat} {i : Int} {l l2 : List D} {n : Nat} (h1 : f s = some (d, s1)) (h2 : s1[k]? = some (some (.list l))) (h3 : g s1 = some (.int i, s2)) (h4 : s2[k]? = some (some (.list l2))) (h5 : ixN l2.length i = some n) : sSt k f g s = some (.nx (s2.set k (some (.list (l2.set n d))))) := by
  have e1 : eLi k s1 = some l := by unfold eLi; rw [h2]
  have e2 : eLi k s2 = some l2 := by unfold eLi; rw [h4]
  unfold sSt; rw [h1]; show ((eLi k s1).bind _) = _; rw [e1]; show ((g s1).bind _) = _; rw [h3]; show ((eLi k s2).bind _) = _; rw [e2]; show ((ixN l2.length i).bind _) = _; rw [h5]; rfl
/-! calls with values alone -/
theorem a1_sh : ∀ {fs : List FE} {ds : List D} {s s' : SD}, (∃ q : FA, q = fs.foldr aCons aNil ∧ q s = some (ds, s')) → a1 (fs.map .sh) s = some (ds.map some, s')
  | [], ds, s, s', ⟨q, e, h⟩ => by
    subst e
    cases h
    rfl
  | f :: fs, ds, s, s', ⟨q, e, h⟩ => by
    subst e
    obtain ⟨a, s1, r, h1, h2, rfl⟩ := aCons_of (f := f) (g := fs.foldr aCons aNil) h
    show (f s).bind _ = _
    rw [h1]
    show ((a1 (fs.map AK.sh) s1).map _) = _
    rw [a1_sh ⟨_, rfl, h2⟩]
    rfl
theorem a2_sh : ∀ {fs : List FE} {ds : List D} {s : SD}, ds.length = fs.length → a2 (fs.map .sh) (ds.map some) s = some ds
  | [], [], _, _ => rfl
  | [], _ :: _, _, h => by simp at h
  | _ :: _, [], _, h => by simp at h
  | f :: fs, d :: ds, s, h => by
    show (a2 (fs.map AK.sh) (ds.map some) s).map _ = _
    rw [a2_sh (by simpa using h)]
    rfl
theorem a3_sh : ∀ {fs : List FE} {xs s : SD}, fs.length ≤ xs.length → a3 (fs.map .sh) xs s = some s
  | [], _, _, _ => rfl
  | _ :: _, [], _, h => by simp at h
  | f :: fs, x :: xs, s, h => a3_sh (fs := fs) (xs := xs) (by simpa using h)
theorem v_call {F : FF} (fs : List FE) {ds : List D} (h : (fs.foldr aCons aNil) s = some (ds, s1)) (hl : ds.length = fs.length) (r : Ret F ds d) : eCall F (fs.map .sh) s = some (d, s1) := by
  obtain ⟨xs, h1, h2⟩ := r
  unfold eCall
  rw [a1_sh ⟨_, rfl, h⟩]
  show ((a2 (fs.map .sh) (ds.map some) s1).bind _) = _
  rw [a2_sh hl]
  show ((F ds).bind _) = _
  rw [h1]
  show ((a3 (fs.map .sh) xs s1).map _) = _
  rw [a3_sh (by omega)]
  rfl
/-! comprehensions over one name -/
theorem set_none {s : SD} {i : Nat} (h : s[i]? = some none) : s.set i none = s := by
  apply List.ext_getElem?
  intro j
  by_cases e : i = j
  · subst e
    rw [List.getElem?_set_self (by obtain ⟨z, _⟩ := List.getElem?_eq_some_iff.mp h; exact z), h]
  · rw [List.getElem?_set_ne e]
theorem lc_filter {i : Nat} {ft : FT} {fe : FE} {t : D → Bool} {g : D → D} : ∀ {items : List D} {s : SD} {acc : List D}, s[i]? = some none → (∀ d ∈ items, ft (s.set i (some d)) = some (t d, s.set i (some d))) → (∀ d ∈ items, t d = true → fe (s.set i (some d)) = some (g d, s.set i (some d))) →
    lcGo (gNm i) ft fe [i] items s acc = some (acc ++ (items.filter t).map g, s)
  | [], s, acc, _, _, _ => by simp [lcGo]
  | d :: items, s, acc, h0, h1, h2 => by
    have back : wipeD (s.set i (some d)) [i] = s := by
      show (s.set i (some d)).set i none = s
      rw [List.set_set, set_none h0]
    have ih := fun acc => lc_filter (acc := acc) h0 (fun e he => h1 e (List.mem_cons_of_mem _ he)) (fun e he => h2 e (List.mem_cons_of_mem _ he))
    unfold lcGo
    show ((ft (s.set i (some d))).bind _) = _
    rw [h1 d List.mem_cons_self]
    by_cases q : t d = true
    · show (if t d = true then ((fe (s.set i (some d))).bind _) else _) = _
      rw [if_pos q, h2 d List.mem_cons_self q]
      show lcGo (gNm i) ft fe [i] items (wipeD (s.set i (some d)) [i]) (acc ++ [g d]) = _
      rw [back, ih, List.filter_cons_of_pos q, List.map_cons, List.append_assoc]
      rfl
    · show (if t d = true then _ else lcGo (gNm i) ft fe [i] items (wipeD (s.set i (some d)) [i]) acc) = _
      rw [if_neg q, back, ih, List.filter_cons_of_neg q]
theorem back_one {s : SD} {i : Nat} (hl : i < s.length) : backD s (s.set i none) [i] = s := by
  show (s.set i none).set i (s[i]?.getD none) = s
  rw [List.set_set]
  apply List.ext_getElem?
  intro j
  by_cases e : i = j
  · subst e
    rw [List.getElem?_set_self hl, List.getElem?_eq_getElem hl]
    rfl
  · rw [List.getElem?_set_ne e]
theorem v_lc {i : Nat} {fi : FA} {ft : FT} {fe : FE} {t : D → Bool} {g : D → D} {items : List D} (hi : fi s = some (items, s1)) (hl : i < s1.length) (h1 : ∀ d ∈ items, ft (s1.set i (some d)) = some (t d, s1.set i (some d))) (h2 : ∀ d ∈ items, t d = true → fe (s1.set i (some d)) = some (g d, s1.set i (some d))) :
    eLc fi (gNm i) ft fe [i] s = some (.list ((items.filter t).map g), s1) := by
  unfold eLc
  rw [hi]
  show ((lcGo (gNm i) ft fe [i] items (s1.set i none) []).map _) = _
  have ss : ∀ d : D, (s1.set i none).set i (some d) = s1.set i (some d) := fun d => List.set_set ..
  rw [lc_filter (t := t) (g := g) (by rw [List.getElem?_set_self hl]) (fun d hd => by rw [ss]; exact h1 d hd) (fun d hd q => by rw [ss]; exact h2 d hd q)]
  show some (PyData.list ([] ++ (items.filter t).map g), backD s1 (s1.set i none) [i]) = _
  rw [back_one hl]
  rfl
theorem v_lcY {i : Nat} {fi : FA} {fe : FE} {g : D → D} {items : List D} (hi : fi s = some (items, s1)) (hl : i < s1.length) (h2 : ∀ d ∈ items, fe (s1.set i (some d)) = some (g d, s1.set i (some d))) :
    eLc fi (gNm i) tYs fe [i] s = some (.list (items.map g), s1) := by
  have := v_lc (t := fun _ => true) (ft := tYs) (g := g) hi hl (fun d _ => rfl) (fun d hd _ => h2 d hd)
  rwa [List.filter_eq_self.mpr (fun _ _ => rfl)] at this
/-! loops by an invariant -/
theorem for_inv {h : FG} {fb : FS} (I : Nat → SD → Prop) : ∀ {items : List D} {k : Nat} {s : SD}, I k s → (∀ (j : Nat) (d : D) (s : SD), items[j]? = some d → I (k + j) s → ∃ s1 o s2, h d s = some s1 ∧ fb s1 = some o ∧ (o = .nx s2 ∨ o = .ct s2) ∧ I (k + j + 1) s2) →
    ∃ s', forGo h fb items s = some (.nx s') ∧ I (k + items.length) s'
  | [], k, s, h0, _ => ⟨s, rfl, h0⟩
  | d :: items, k, s, h0, st => by
    obtain ⟨s1, o, s2, e1, e2, e3, e4⟩ := st 0 d s rfl h0
    obtain ⟨s', q1, q2⟩ := for_inv I (items := items) (k := k + 1) (s := s2) e4 fun j d s hj hI => by
      have := st (j + 1) d s (by simpa using hj) (by rw [show k + (j + 1) = k + 1 + j by omega]; exact hI)
      rw [show k + (j + 1) + 1 = k + 1 + j + 1 by omega] at this
      exact this
    refine ⟨s', ?_, by rw [List.length_cons, show k + (items.length + 1) = k + 1 + items.length by omega]; exact q2⟩
    unfold forGo
    rw [e1]
    show ((fb s1).bind _) = _
    rw [e2]
    rcases e3 with rfl | rfl
    · exact q1
    · exact q1
theorem v_for {fi : FA} {h : FG} {fb : FS} {items : List D} (I : Nat → SD → Prop) (hi : fi s = some (items, s1)) (h0 : I 0 s1) (st : ∀ (j : Nat) (d : D) (s : SD), items[j]? = some d → I j s → ∃ s1 o s2, h d s = some s1 ∧ fb s1 = some o ∧ (o = .nx s2 ∨ o = .ct s2) ∧ I (j + 1) s2) :
    ∃ s', sFor fi h fb s = some (.nx s') ∧ I items.length s' := by
  obtain ⟨s', q1, q2⟩ := for_inv I (items := items) (k := 0) h0 fun j d s hj hI => by
    rw [Nat.zero_add] at hI ⊢
    exact st j d s hj hI
  refine ⟨s', ?_, by rw [Nat.zero_add] at q2; exact q2⟩
  unfold sFor
  rw [hi]
  exact q1
end
end Mi
set_option linter.all false
set_option maxRecDepth 100000
/-! What the defs of the program make of numbers. -/
namespace Pf
open PySem PySem.Spec L2 Mi Ma

structure Pr (p : Int) : Prop where
  lo : 1 < p
  hi : p ≤ 13
  inv : ∀ x : Int, 0 < x → x < p → ∃ k : Int, 1 ≤ k ∧ k < p ∧ (k * x) % p = 1
theorem pr_of (p : Nat) (h : (decide (1 < p) && decide (p ≤ 13) && (List.range p).all fun x => x == 0 || (List.range p).any fun k => decide (1 ≤ k) && decide ((k * x) % p = 1)) = true) : Pr (p : Int) := by
  obtain ⟨h, h3⟩ := Bool.and_eq_true_iff.mp h
  obtain ⟨h1, h2⟩ := Bool.and_eq_true_iff.mp h
  have h1 := of_decide_eq_true h1
  have h2 := of_decide_eq_true h2
  refine ⟨by omega, by omega, fun x a b => ?_⟩
  have := List.all_eq_true.mp h3 x.toNat (List.mem_range.mpr (by omega))
  rcases Bool.or_eq_true_iff.mp this with z | z
  · have := eq_of_beq z; omega
  · obtain ⟨k, hk, z⟩ := List.any_eq_true.mp z
    obtain ⟨z1, z2⟩ := Bool.and_eq_true_iff.mp z
    have z1 := of_decide_eq_true z1
    have z2 := of_decide_eq_true z2
    have hk := List.mem_range.mp hk
    refine ⟨k, by omega, by omega, ?_⟩
    have ex : x = (x.toNat : Int) := by omega
    rw [ex, ← Int.natCast_mul, ← Int.natCast_emod, z2]
    rfl
theorem pr2 : Pr 2 := pr_of 2 (by decide)
theorem pr3 : Pr 3 := pr_of 3 (by decide)
theorem pr5 : Pr 5 := pr_of 5 (by decide)
theorem pr7 : Pr 7 := pr_of 7 (by decide)
theorem pr11 : Pr 11 := pr_of 11 (by decide)
theorem pr13 : Pr 13 := pr_of 13 (by decide)
theorem dMul_r {a b : Int} (h : b.natAbs < 18446744073709551616) : dMul (.int a) (.int b) = some (.int (a * b)) := by
  show (if okMul a b then some (PyData.int (a * b)) else none) = _
  rw [if_pos (by unfold okMul; rw [decide_eq_true h, Bool.or_true])]
theorem dMul_l {a b : Int} (h : a.natAbs < 18446744073709551616) : dMul (.int a) (.int b) = some (.int (a * b)) := by
  show (if okMul a b then some (PyData.int (a * b)) else none) = _
  rw [if_pos (by unfold okMul; rw [decide_eq_true h, Bool.true_or])]
theorem dMod_p {a b : Int} (h : 0 < b) : dMod (.int a) (.int b) = some (.int (a % b)) := by
  show (if okMod a b then some (PyData.int (a.fmod b)) else none) = _
  rw [if_pos (by unfold okMod; exact decide_eq_true (by omega)), Int.fmod_eq_emod_of_nonneg _ (by omega)]
theorem dEq_i {a b : Int} : dEq (.int a) (.int b) = some (.bool (a == b)) := by
  show (if (SeqAt.shaped (.int a) && SeqAt.shaped (.int b)) = true then some (PyData.bool (PyData.eqv (.int a) (.int b))) else none) = _
  simp [SeqAt.shaped, PyData.eqv, PyData.canLay0, PyData.depth]
theorem dNe_i {a b : Int} : dNe (.int a) (.int b) = some (.bool (!(a == b))) := by
  show (if (SeqAt.shaped (.int a) && SeqAt.shaped (.int b)) = true then some (PyData.bool (!PyData.eqv (.int a) (.int b))) else none) = _
  simp [SeqAt.shaped, PyData.eqv, PyData.canLay0, PyData.depth]
theorem ix_nat {xs : List D} {j : Nat} {d : D} (h : xs[j]? = some d) : dIx (.list xs) (.int (j : Int)) = some d := by
  show atI xs (j : Int) = some d
  exact atI_nat h
theorem ixT_nat {xs : List D} {j : Nat} {d : D} (h : xs[j]? = some d) : dIx (.tuple xs) (.int (j : Int)) = some d := by
  show atI xs (j : Int) = some d
  exact atI_nat h
theorem rgD_mem {lo : Int} {n : Nat} {d : D} (h : d ∈ rgD lo n) : ∃ i : Nat, i < n ∧ d = .int (lo + i) := by
  unfold rgD at h
  obtain ⟨i, hi, rfl⟩ := List.mem_map.mp h
  exact ⟨i, List.mem_range.mp hi, rfl⟩
abbrev rowD (r : Rw) : D := .tuple (r.map .int)
abbrev tabD (F : List Rw) : D := .tuple (F.map rowD)
/-- the first of what is found -/
theorem first_of {items : List D} {t : D → Bool} {d0 : D} (h : d0 ∈ items) (ht : t d0 = true) : ∃ d r, items.filter t = d :: r ∧ d ∈ items ∧ t d = true := by
  have hm : d0 ∈ items.filter t := List.mem_filter.mpr ⟨h, ht⟩
  cases q : items.filter t with
  | nil => rw [q] at hm; cases hm
  | cons d r =>
    have : d ∈ items.filter t := by rw [q]; exact List.mem_cons_self
    exact ⟨d, r, rfl, (List.mem_filter.mp this).1, (List.mem_filter.mp this).2⟩
def invT (p x : Int) : D → Bool
  | .int k => (k * x) % p == 1
  | _ => false
theorem e_inverse {p x : Int} (hp : Pr p) (h1 : 0 < x) (h2 : x < p) : ∃ u, Ret F_inverse [.int p, .int x] (.int u) ∧ (u * x) % p = 1 ∧ 0 < u ∧ u < p := by
  obtain ⟨k, k1, k2, k3⟩ := hp.inv x h1 h2
  have lo := hp.lo
  have hi := hp.hi
  have mem : PyData.int k ∈ rgD 1 (p - 1).toNat := by
    unfold rgD
    exact List.mem_map.mpr ⟨(k - 1).toNat, List.mem_range.mpr (by omega), by congr 1; omega⟩
  obtain ⟨d, r, e, hm, ht⟩ := first_of (t := invT p x) mem (by show ((k * x) % p == 1) = true; rw [k3]; rfl)
  obtain ⟨i, hi', rfl⟩ := rgD_mem hm
  have ht : ((1 + (i : Int)) * x % p == 1) = true := ht
  refine ⟨1 + i, runF_rt (s := [some (.int p), some (.int x), none]) ?_ (by simp), eq_of_beq ht, by omega, by omega⟩
  show g_inverse [some (.int p), some (.int x), none] = _
  unfold g_inverse
  refine v_rt (v_bin (v_F (v_lc (t := invT p x) (g := fun d => d) (v_R2 (m := 1) (n := p) rfl (v_at rfl) (by omega)) (by simp) (fun d hd => ?_) (fun d hd _ => v_at rfl))) rfl ?_)
  · obtain ⟨j, hj, rfl⟩ := rgD_mem hd
    exact v_tst (v_bin (v_bin (v_bin (v_at rfl) (v_at rfl) (dMul_r (by omega))) (v_at rfl) (dMod_p (by omega))) rfl dEq_i)
  · rw [e]
    exact ix_nat (j := 0) rfl
end Pf
set_option linter.all false
set_option maxRecDepth 100000
namespace Mi
open PySem PySem.Spec L2
section
variable {s s1 s2 : SD} {a b c d : D} {f g : FE}
theorem ext_sd {s t : SD} (h : ∀ j : Nat, s[j]? = t[j]?) : s = t := List.ext_getElem? h
def gTwo (i j : Nat) : FG := gTp (gsCons (gNm i) (gsCons (gNm j) gsNil))
theorem gTwo_pr {i j : Nat} {x y : D} : gTwo i j (prD x y) s = some ((s.set i (some x)).set j (some y)) := rfl
theorem lc_pairs {i j : Nat} (ne : i ≠ j) {fe : FE} {g : D → D → D} : ∀ {ps : List (D × D)} {s : SD} {acc : List D}, s[i]? = some none → s[j]? = some none → (∀ p ∈ ps, fe ((s.set i (some p.1)).set j (some p.2)) = some (g p.1 p.2, (s.set i (some p.1)).set j (some p.2))) →
    lcGo (gTwo i j) tYs fe [i, j] (ps.map fun p => prD p.1 p.2) s acc = some (acc ++ ps.map (fun p => g p.1 p.2), s)
  | [], s, acc, _, _, _ => by simp [lcGo]
  | p :: ps, s, acc, h0, h1, h2 => by
    have back : wipeD ((s.set i (some p.1)).set j (some p.2)) [i, j] = s := by
      show ((((s.set i (some p.1)).set j (some p.2)).set j none).set i none) = s
      rw [List.set_set, List.set_comm _ _ (Ne.symm ne), List.set_set]
      show (s.set i none).set j none = s
      rw [set_none h0, set_none h1]
    have ih := fun acc => lc_pairs ne (acc := acc) h0 h1 (fun e he => h2 e (List.mem_cons_of_mem _ he))
    rw [List.map_cons]
    unfold lcGo
    show ((fe ((s.set i (some p.1)).set j (some p.2))).bind _) = _
    rw [h2 p List.mem_cons_self]
    show lcGo (gTwo i j) tYs fe [i, j] (ps.map fun p => prD p.1 p.2) (wipeD ((s.set i (some p.1)).set j (some p.2)) [i, j]) (acc ++ [g p.1 p.2]) = _
    rw [back, ih, List.append_assoc]
    rfl
theorem back_two {s : SD} {i j : Nat} (ne : i ≠ j) (hi : i < s.length) (hj : j < s.length) : backD s ((s.set j none).set i none) [i, j] = s := by
  show ((((s.set j none).set i none).set j (s[j]?.getD none)).set i (s[i]?.getD none)) = s
  apply ext_sd
  intro k
  by_cases e1 : i = k
  · subst e1
    rw [List.getElem?_set_self (by simp only [List.length_set]; exact hi), List.getElem?_eq_getElem hi]
    rfl
  · rw [List.getElem?_set_ne e1]
    by_cases e2 : j = k
    · subst e2
      rw [List.getElem?_set_self (by simp only [List.length_set]; exact hj), List.getElem?_eq_getElem hj]
      rfl
    · rw [List.getElem?_set_ne e2, List.getElem?_set_ne e1, List.getElem?_set_ne e2]
theorem v_lcP {i j : Nat} (ne : i ≠ j) {fi : FA} {fe : FE} {g : D → D → D} {ps : List (D × D)} (hi : fi s = some (ps.map (fun p => prD p.1 p.2), s1)) (li : i < s1.length) (lj : j < s1.length)
    (h2 : ∀ p ∈ ps, fe ((s1.set i (some p.1)).set j (some p.2)) = some (g p.1 p.2, (s1.set i (some p.1)).set j (some p.2))) :
    eLc fi (gTp (gsCons (gNm i) (gsCons (gNm j) gsNil))) tYs fe [i, j] s = some (.list (ps.map fun p => g p.1 p.2), s1) := by
  unfold eLc
  rw [hi]
  show ((lcGo (gTwo i j) tYs fe [i, j] (ps.map fun p => prD p.1 p.2) ((s1.set j none).set i none) []).map _) = _
  have ss : ∀ x y : D, ((((s1.set j none).set i none).set i (some x)).set j (some y)) = (s1.set i (some x)).set j (some y) := fun x y => by
    rw [List.set_set, List.set_comm _ _ (Ne.symm ne), List.set_set]
  rw [lc_pairs ne (g := g) (by rw [List.getElem?_set_self (by simp only [List.length_set]; exact li)]) (by rw [List.getElem?_set_ne ne, List.getElem?_set_self lj]) (fun p hp => by rw [ss]; exact h2 p hp)]
  show some (PyData.list ([] ++ ps.map fun p => g p.1 p.2), backD s1 ((s1.set j none).set i none) [i, j]) = _
  rw [back_two ne li lj]
  rfl
theorem zipD_map {α β : Type} (f : α → D) (g : β → D) : ∀ (xs : List α) (ys : List β), zipD (xs.map f) (ys.map g) = (xs.zip ys).map fun p => prD (f p.1) (g p.2)
  | [], _ => by simp [zipD]
  | _ :: _, [] => by simp [zipD]
  | x :: xs, y :: ys => by
    rw [List.map_cons, List.map_cons, List.zip_cons_cons, List.map_cons]
    show prD (f x) (g y) :: zipD (xs.map f) (ys.map g) = _
    rw [zipD_map f g xs ys]
theorem v_Zt {xs ys : List D} (h1 : f s = some (.tuple xs, s1)) (h2 : g s1 = some (.tuple ys, s2)) : iZ f g s = some (zipD xs ys, s2) := by unfold iZ; rw [h1]; show ((g s1).bind _) = _; rw [h2]; rfl
theorem v_En {xs : List D} (h1 : f s = some (.list xs, s1)) : iEn f s = some (enD 0 xs, s1) := by unfold iEn; rw [h1]; rfl
end
end Mi
set_option linter.all false
set_option maxRecDepth 100000
namespace Pf
open PySem PySem.Spec L2 Mi Ma
theorem e_back {p x : Int} (hp : Pr p) (h1 : 0 < x) (h2 : x < p) : ∃ u, Ret F__law_back [.int p, .int x] (.int u) ∧ (u * x) % p = 1 ∧ 0 < u ∧ u < p := by
  obtain ⟨k, k1, k2, k3⟩ := hp.inv x h1 h2
  have lo := hp.lo
  have hi := hp.hi
  have mem : PyData.int k ∈ rgD 1 (p - 1).toNat := by
    unfold rgD
    exact List.mem_map.mpr ⟨(k - 1).toNat, List.mem_range.mpr (by omega), by congr 1; omega⟩
  obtain ⟨d, r, e, hm, ht⟩ := first_of (t := invT p x) mem (by show ((k * x) % p == 1) = true; rw [k3]; rfl)
  obtain ⟨i, hi', rfl⟩ := rgD_mem hm
  have ht : ((1 + (i : Int)) * x % p == 1) = true := ht
  refine ⟨1 + i, runF_rt (s := [some (.int p), some (.int x), none]) ?_ (by simp), eq_of_beq ht, by omega, by omega⟩
  show g__law_back [some (.int p), some (.int x), none] = _
  unfold g__law_back
  refine v_rt (v_bin (v_F (v_lc (t := invT p x) (g := fun d => d) (v_R2 (m := 1) (n := p) rfl (v_at rfl) (by omega)) (by simp) (fun d hd => ?_) (fun d hd _ => v_at rfl))) rfl ?_)
  · obtain ⟨j, hj, rfl⟩ := rgD_mem hd
    exact v_tst (v_bin (v_bin (v_c1 (v_bin (v_at rfl) (v_at rfl) (dMul_r (by omega))) rfl) (v_at rfl) (dMod_p (by omega))) rfl dEq_i)
  · rw [e]
    exact ix_nat (j := 0) rfl
def mulD (p u : Int) : D → D
  | .int a => .int ((u * a) % p)
  | d => d
theorem e0_ix {r : Rw} {j : Nat} (h : j < r.length) : dIx (rowD r) (.int (j : Int)) = some (.int (e0 r j)) := by
  refine ixT_nat ?_
  rw [List.getElem?_map, List.getElem?_eq_getElem h, e0_lt h]
  rfl
theorem small {p a : Int} (hp : p ≤ 13) (h : 0 ≤ a ∧ a < p) : a.natAbs < 18446744073709551616 := by omega
theorem e_scaled {p : Int} {n c : Nat} {Q : Rw} (hp : Pr p) (d : Dom p n Q) (hc : c < n) (h0 : e0 Q c ≠ 0) : ∃ u, Ret F_scaled [.int p, rowD Q, .int (c : Int)] (rowD (mulL p u Q)) ∧ (u * e0 Q c) % p = 1 := by
  have lo := hp.lo
  have hi := hp.hi
  obtain ⟨b1, b2⟩ := d.at (by omega) c
  obtain ⟨u, hu, hm, u1, u2⟩ := e_inverse hp (x := e0 Q c) (by omega) b2
  refine ⟨u, runF_rt (s := [some (.int p), some (rowD Q), some (.int (c : Int)), some (.int u), none]) ?_ (by simp), hm⟩
  show g_scaled [some (.int p), some (rowD Q), some (.int (c : Int)), none, none] = _
  unfold g_scaled
  refine (v_nx (v_set (v_call [eVar 0, eBin dIx (eVar 1) (eVar 2)] (v_cons (v_at rfl) (v_cons (v_bin (v_at rfl) (v_at rfl) (e0_ix (by rw [d.len]; exact hc))) rfl)) rfl hu))).trans ?_
  have em : (Q.map PyData.int).map (mulD p u) = (mulL p u Q).map .int := by unfold mulL; rw [List.map_map, List.map_map]; rfl
  refine v_rt (v_c1 (v_F (v_lcY (g := mulD p u) (v_St (v_at rfl)) (by simp) fun x hx => ?_)) (by rw [em]; rfl))
  obtain ⟨a, ha, rfl⟩ := List.mem_map.mp hx
  exact v_bin (v_bin (v_at rfl) (v_at rfl) (dMul_l (by omega))) (v_at rfl) (dMod_p (by omega))
theorem zip_with {α β γ : Type} (h : α → β → γ) : ∀ (xs : List α) (ys : List β), (xs.zip ys).map (fun q => h q.1 q.2) = List.zipWith h xs ys
  | [], _ => by simp
  | _ :: _, [] => by simp
  | x :: xs, y :: ys => by
    rw [List.zip_cons_cons, List.map_cons, List.zipWith_cons_cons, zip_with h xs ys]
def offD (p f : Int) : D → D → D
  | .int a, .int b => .int ((a - f * b) % p)
  | d, _ => d
theorem e_less {p f : Int} {n : Nat} {a b : Rw} (hp : Pr p) (da : Dom p n a) (db : Dom p n b) (hf : 0 ≤ f ∧ f < p) : Ret F_less_times [.int p, rowD a, .int f, rowD b] (rowD (offL p f a b)) := by
  have lo := hp.lo
  have hi := hp.hi
  refine runF_rt (s := [some (.int p), some (rowD a), some (.int f), some (rowD b), none, none]) ?_ (by simp)
  show g_less_times [some (.int p), some (rowD a), some (.int f), some (rowD b), none, none] = _
  unfold g_less_times
  have em : ((a.zip b).map fun q => ((PyData.int q.1, PyData.int q.2) : D × D)).map (fun q => offD p f q.1 q.2) = (offL p f a b).map .int := by
    unfold offL
    rw [← zip_with, List.map_map, List.map_map]
    rfl
  refine v_rt (v_c1 (v_F (v_lcP (by decide) (g := offD p f) (ps := (a.zip b).map fun q => ((PyData.int q.1, PyData.int q.2) : D × D)) ?_ (by simp) (by simp) fun q hq => ?_)) (by rw [em]; rfl))
  · rw [v_Zt (v_at rfl) (v_at rfl), zipD_map, List.map_map]
    rfl
  · obtain ⟨z, hz, rfl⟩ := List.mem_map.mp hq
    exact v_bin (v_bin (v_at rfl) (v_bin (v_at rfl) (v_at rfl) (dMul_l (small hi hf))) rfl) (v_at rfl) (dMod_p (by omega))
theorem e_off {p : Int} {n c : Nat} {a b : Rw} (hp : Pr p) (da : Dom p n a) (db : Dom p n b) (hc : c < n) (hn : n ≤ 1000) : Ret F__law_off [.int p, rowD a, rowD b, .int (c : Int)] (rowD (offL p (e0 a c) a b)) := by
  have lo := hp.lo
  have hi := hp.hi
  refine runF_rt (s := [some (.int p), some (rowD a), some (rowD b), some (.int (c : Int)), some (.int (e0 a c)), none]) ?_ (by simp)
  show g__law_off [some (.int p), some (rowD a), some (rowD b), some (.int (c : Int)), none, none] = _
  unfold g__law_off
  rw [v_nx (v_set (v_bin (v_at rfl) (v_at rfl) (e0_ix (by rw [da.len]; exact hc))))]
  let g : D → D := fun d => match d with
    | .int j => .int ((e0 a j.toNat - e0 a c * e0 b j.toNat) % p)
    | d => d
  have len : (PyData.int ((a.map PyData.int).length : Int)) = .int ((n : Nat) : Int) := by rw [List.length_map, da.len]
  have em : (rgD 0 n).map g = (offL p (e0 a c) a b).map .int := by
    have ll : (offL p (e0 a c) a b).length = n := (offL_dom (by omega) da db).len
    unfold rgD
    apply List.ext_getElem
    · simp [ll]
    · intro j j1 j2
      simp only [List.getElem_map, List.getElem_range]
      show PyData.int ((e0 a (0 + (j : Int)).toNat - e0 a c * e0 b (0 + (j : Int)).toNat) % p) = _
      have ej : (0 + (j : Int)).toNat = j := by omega
      rw [ej, ← offL_at (by rw [da.len, db.len]), e0_lt]
  refine v_rt (v_c1 (v_F (v_lcY (g := g) (items := rgD 0 n) ?_ (by simp) fun x hx => ?_)) (by rw [em]; rfl))
  · have := v_R1 (s := [some (.int p), some (rowD a), some (rowD b), some (.int (c : Int)), some (.int (e0 a c)), none]) (s1 := [some (.int p), some (rowD a), some (rowD b), some (.int (c : Int)), some (.int (e0 a c)), none]) (n := (n : Int)) (f := eCall1 cLen (eVar 1)) (v_c1 (v_at rfl) (by show some (PyData.int ((a.map PyData.int).length : Int)) = _; rw [len])) (by omega)
    exact this
  · obtain ⟨j, hj, rfl⟩ := rgD_mem hx
    have ej : (0 + (j : Int)) = (j : Int) := by omega
    have f1 := d1 (da.at (by omega) c) hi
    rw [ej]
    exact v_bin (v_c1 (v_bin (v_bin (v_at rfl) (v_at rfl) (e0_ix (by rw [da.len]; exact hj))) (v_bin (v_at rfl) (v_bin (v_at rfl) (v_at rfl) (e0_ix (by rw [db.len]; exact hj))) (dMul_l f1)) rfl) rfl) (v_at rfl) (dMod_p (by omega))
where d1 {p a : Int} (h : 0 ≤ a ∧ a < p) (hi : p ≤ 13) : a.natAbs < 18446744073709551616 := by omega
end Pf
set_option linter.all false
set_option maxRecDepth 100000
namespace Mi
open PySem PySem.Spec L2
section
variable {s s1 s2 : SD} {a b c d : D} {f g : FE}
theorem v_an {t u : FT} {x : Bool} (h : t s = some (x, s1)) : tAn t u s = if x then u s1 else some (false, s1) := by unfold tAn; rw [h]; rfl
theorem v_or {t u : FT} {x : Bool} (h : t s = some (x, s1)) : tOrr t u s = if x then some (true, s1) else u s1 := by unfold tOrr; rw [h]; rfl
theorem v_anT {t u : FT} {y : Bool} (h : t s = some (true, s1)) (h2 : u s1 = some (y, s2)) : tAn t u s = some (y, s2) := (v_an h).trans h2
theorem v_anF {t u : FT} (h : t s = some (false, s1)) : tAn t u s = some (false, s1) := (v_an h).trans rfl
theorem v_orT {t u : FT} (h : t s = some (true, s1)) : tOrr t u s = some (true, s1) := (v_or h).trans rfl
theorem v_orF {t u : FT} {y : Bool} (h : t s = some (false, s1)) (h2 : u s1 = some (y, s2)) : tOrr t u s = some (y, s2) := (v_or h).trans h2
theorem v_aug {i : Nat} {op : D → D → Option D} (h0 : s[i]? = some (some a)) (h : f s = some (b, s1)) (h2 : op a b = some c) : sAug i op f s = some (.nx (s1.set i (some c))) := by unfold sAug; rw [v_at h0]; show ((f s).bind _) = _; rw [h]; show ((op a b).map _) = _; rw [h2]; rfl
theorem cut_to {xs : List D} {k : Nat} (h : k ≤ xs.length) : cutD xs none (some (k : Int)) = xs.take k := by
  unfold cutD
  rw [HT.sIx_none, show HT.sIx xs.length xs.length (some (k : Int)) = min k xs.length from HT.sIx_nat xs.length xs.length k]
  simp [Nat.min_eq_left h]
theorem v_slO {k : Nat} {i : Nat} {xs : List D} (h0 : s[k]? = some (some (.list xs))) (h : f s = some (.int (i : Int), s)) (hi : i ≤ xs.length) : eSlO k oNo (oIn f) s = some (.list (xs.take i), s) := by
  unfold eSlO oNo oIn
  rw [v_at h0]
  show (((f s).bind _).bind _) = _
  rw [h]
  show ((eVar k s).bind _) = _
  rw [v_at h0]
  show some (PyData.list (cutD xs none (some (i : Int))), s) = _
  rw [cut_to hi]
end
end Mi
namespace Pf
open PySem PySem.Spec L2 Mi Ma
theorem v_ne {s s1 s2 : SD} {f g : FE} {a b : Int} (h1 : f s = some (.int a, s1)) (h2 : g s1 = some (.int b, s2)) (h : a ≠ b) : eTst (eBin dNe f g) s = some (true, s2) := v_tst (v_bin h1 h2 (by rw [dNe_i, beq_eq_false_iff_ne.mpr h]; rfl))
theorem v_neF {s s1 s2 : SD} {f g : FE} {a b : Int} (h1 : f s = some (.int a, s1)) (h2 : g s1 = some (.int b, s2)) (h : a = b) : eTst (eBin dNe f g) s = some (false, s2) := v_tst (v_bin h1 h2 (by rw [dNe_i, beq_iff_eq.mpr h]; rfl))
def fitT (F : List Rw) (c : Nat) : D → Bool
  | .int k => !(e0 (F.getD k.toNat []) c == 0)
  | _ => false
theorem ixL {F : List Rw} {k : Nat} {r : Rw} (h : F[k]? = some r) : dIx (.list (F.map rowD)) (.int (k : Int)) = some (rowD r) := ix_nat (by rw [List.getElem?_map, h]; rfl)
theorem getD_of {F : List Rw} {k : Nat} {r : Rw} (h : F[k]? = some r) : F.getD k [] = r := by rw [List.getD_eq_getElem?_getD, h]; rfl
/-- what stands in found when the first k rows have been looked at -/
structure Pt (p : Int) (c d k : Nat) (P : Rw) (G F : List Rw) : Prop where
  len : F.length = G.length
  at_ : ∀ (i : Nat) (b : Rw), G[i]? = some b → F[i]? = some (if i < k ∧ i ≠ d ∧ e0 b c ≠ 0 then offL p (e0 b c) b P else b)
theorem enD_at : ∀ {xs : List D} {n j : Nat} {x : D}, (enD n xs)[j]? = some x → ∃ d, xs[j]? = some d ∧ x = prD (.int ((n + j : Nat) : Int)) d
  | [], n, j, x, h => by simp [enD] at h
  | y :: ys, n, 0, x, h => by
    unfold enD at h
    simp only [List.getElem?_cons_zero, Option.some.injEq] at h
    exact ⟨y, rfl, h.symm⟩
  | y :: ys, n, j + 1, x, h => by
    unfold enD at h
    simp only [List.getElem?_cons_succ] at h
    obtain ⟨d, h1, h2⟩ := enD_at h
    exact ⟨d, by simpa using h1, by rw [h2]; congr 3; omega⟩
theorem enD_length (n : Nat) (xs : List D) : (enD n xs).length = xs.length := enD_len n xs
theorem ixN_nat {n k : Nat} (h : k < n) : ixN n (k : Int) = some k := by
  unfold ixN
  rw [if_pos (by omega), if_pos (by omega), Int.toNat_natCast]
/-- one turn of the inner loop, and all of them -/
theorem inner {p : Int} {n c d : Nat} {C : List Rw} {P : Rw} {G : List Rw} {x6 : Option D} {x8 x9 : Option D} (hp : Pr p) (hc : c < n) (dG : ∀ r ∈ G, Dom p n r) (dP : Dom p n P) :
    ∃ F y8 y9, Pt p c d G.length P G F ∧ sFor (iEn (eF (eCall1 cList (eF (eVar 3))))) (gTp (gsCons (gNm 8) (gsCons (gNm 9) gsNil))) (sIf (tAn (eTst (eBin dNe (eVar 8) (eVar 4))) (eTst (eBin dNe (eBin dIx (eVar 9) (eVar 5)) (eC (.int 0))))) (sSt 3 (eCall F_less_times [.sh (eVar 0), .sh (eVar 9), .sh (eBin dIx (eVar 9) (eVar 5)), .sh (eVar 7)]) (eVar 8)) sNil)
      [some (.int p), some (tabD C), some (.int (n : Int)), some (.list (G.map rowD)), some (.int (d : Int)), some (.int (c : Int)), x6, some (rowD P), x8, x9] =
      some (.nx [some (.int p), some (tabD C), some (.int (n : Int)), some (.list (F.map rowD)), some (.int (d : Int)), some (.int (c : Int)), x6, some (rowD P), y8, y9]) := by
  have lo := hp.lo
  have hi := hp.hi
  obtain ⟨s', e1, F, y8, y9, e2, pt⟩ := v_for (items := enD 0 (G.map rowD)) (fi := iEn (eF (eCall1 cList (eF (eVar 3))))) (h := gTp (gsCons (gNm 8) (gsCons (gNm 9) gsNil)))
    (fb := sIf (tAn (eTst (eBin dNe (eVar 8) (eVar 4))) (eTst (eBin dNe (eBin dIx (eVar 9) (eVar 5)) (eC (.int 0))))) (sSt 3 (eCall F_less_times [.sh (eVar 0), .sh (eVar 9), .sh (eBin dIx (eVar 9) (eVar 5)), .sh (eVar 7)]) (eVar 8)) sNil)
    (s := [some (.int p), some (tabD C), some (.int (n : Int)), some (.list (G.map rowD)), some (.int (d : Int)), some (.int (c : Int)), x6, some (rowD P), x8, x9]) (s1 := [some (.int p), some (tabD C), some (.int (n : Int)), some (.list (G.map rowD)), some (.int (d : Int)), some (.int (c : Int)), x6, some (rowD P), x8, x9])
    (fun k s => ∃ F y8 y9, s = [some (.int p), some (tabD C), some (.int (n : Int)), some (.list (F.map rowD)), some (.int (d : Int)), some (.int (c : Int)), x6, some (rowD P), y8, y9] ∧ Pt p c d k P G F)
    (v_En (v_F (v_c1 (v_F (v_at rfl)) rfl))) ⟨G, x8, x9, rfl, rfl, fun i b h => by rw [if_neg (by omega)]; exact h⟩ (fun k x s hk ⟨F, y8, y9, es, pt⟩ => by
      subst es
      obtain ⟨rd, h1, rfl⟩ := enD_at hk
      rw [List.getElem?_map] at h1
      cases hg : G[k]? with
      | none => rw [hg] at h1; cases h1
      | some b =>
        rw [hg] at h1
        have h1 : rowD b = rd := Option.some.inj h1
        subst h1
        have db := dG b (List.mem_of_getElem? hg)
        have kG : k < G.length := by obtain ⟨z, _⟩ := List.getElem?_eq_some_iff.mp hg; exact z
        have ek : ((0 + k : Nat) : Int) = (k : Int) := by omega
        refine ⟨[some (.int p), some (tabD C), some (.int (n : Int)), some (.list (F.map rowD)), some (.int (d : Int)), some (.int (c : Int)), x6, some (rowD P), some (.int (k : Int)), some (rowD b)], ?_⟩
        have bc : dIx (rowD b) (.int (c : Int)) = some (.int (e0 b c)) := e0_ix (by rw [db.len]; exact hc)
        by_cases t : k ≠ d ∧ e0 b c ≠ 0
        · have fl : k < F.length := by rw [pt.len]; exact kG
          refine ⟨.nx [some (.int p), some (tabD C), some (.int (n : Int)), some (.list ((F.set k (offL p (e0 b c) b P)).map rowD)), some (.int (d : Int)), some (.int (c : Int)), x6, some (rowD P), some (.int (k : Int)), some (rowD b)], _, by rw [← ek]; rfl, ?_, .inl rfl, F.set k (offL p (e0 b c) b P), _, _, rfl, by rw [List.length_set, pt.len], fun i b' hb' => ?_⟩
          · refine (v_sif (x := true) (v_anT (v_ne (v_at rfl) (v_at rfl) (by have := t.1; omega)) (v_ne (v_bin (v_at rfl) (v_at rfl) bc) rfl t.2))).trans ?_
            · refine (v_st (d := rowD (offL p (e0 b c) b P)) (v_call [eVar 0, eVar 9, eBin dIx (eVar 9) (eVar 5), eVar 7] (v_cons (v_at rfl) (v_cons (v_at rfl) (v_cons (v_bin (v_at rfl) (v_at rfl) bc) (v_cons (v_at rfl) rfl)))) rfl (e_less hp db dP (db.at (by omega) c))) rfl (v_at rfl) rfl (ixN_nat (by rw [List.length_map]; exact fl))).trans ?_
              rw [List.map_set]
              rfl
          · by_cases ik : i = k
            · subst ik
              rw [hg] at hb'
              cases hb'
              rw [List.getElem?_set_self fl, if_pos ⟨by omega, t⟩]
            · rw [List.getElem?_set_ne (Ne.symm ik), pt.at_ i b' hb']
              congr 1
              by_cases z : i < k ∧ i ≠ d ∧ e0 b' c ≠ 0
              · rw [if_pos z, if_pos ⟨by omega, z.2⟩]
              · rw [if_neg z, if_neg fun w => z ⟨by omega, w.2⟩]
        · refine ⟨.nx [some (.int p), some (tabD C), some (.int (n : Int)), some (.list (F.map rowD)), some (.int (d : Int)), some (.int (c : Int)), x6, some (rowD P), some (.int (k : Int)), some (rowD b)], _, by rw [← ek]; rfl, ?_, .inl rfl, F, _, _, rfl, pt.len, fun i b' hb' => ?_⟩
          · refine (v_sif (x := false) ?_).trans rfl
            by_cases kd : k = d
            · exact v_anF (v_neF (v_at rfl) (v_at rfl) (by omega))
            · have z : e0 b c = 0 := Classical.byContradiction fun w => t ⟨kd, w⟩
              exact v_anT (v_ne (v_at rfl) (v_at rfl) (by omega)) (v_neF (v_bin (v_at rfl) (v_at rfl) bc) rfl z)
          · rw [pt.at_ i b' hb']
            congr 1
            by_cases z : i < k ∧ i ≠ d ∧ e0 b' c ≠ 0
            · rw [if_pos z, if_pos ⟨by omega, z.2⟩]
            · by_cases ik : i = k
              · subst ik
                rw [hg] at hb'
                cases hb'
                rw [if_neg z, if_neg fun w => t w.2]
              · rw [if_neg z, if_neg fun w => z ⟨by omega, w.2⟩])
  refine ⟨F, y8, y9, ?_, by rw [← e2]; exact e1⟩
  rw [enD_length, List.length_map] at pt
  exact pt
end Pf
set_option linter.all false
set_option maxRecDepth 100000
namespace Pf
open PySem PySem.Spec L2 Mi Ma
theorem v_notF {s s1 : SD} {t : FT} (h : t s = some (false, s1)) : tNt t s = some (true, s1) := v_not h
theorem v_notT {s s1 : SD} {t : FT} (h : t s = some (true, s1)) : tNt t s = some (false, s1) := v_not h
theorem rowD_get {F : List Rw} {k : Nat} {x : D} (h : (F.map rowD)[k]? = some x) : ∃ r, F[k]? = some r ∧ x = rowD r := by
  rw [List.getElem?_map] at h
  cases q : F[k]? with
  | none => rw [q] at h; cases h
  | some r => rw [q] at h; exact ⟨r, rfl, (Option.some.inj h).symm⟩
theorem e_reduced {p : Int} {n : Nat} {C : List Rw} (hp : Pr p) (dC : ∀ r ∈ C, Dom p n r) (hn : n ≤ 1000) (hC : C.length ≤ 1000) :
    ∃ B L, Ret F_reduced [.int p, tabD C, .int (n : Int)] (tabD B) ∧ RL p n B L ∧ Ma.Same p C B := by
  have lo := hp.lo
  have hi := hp.hi
  obtain ⟨s', e1, F, L, x5, x6, x7, x8, x9, e2, el, fl⟩ := v_for (items := rgD 0 n) (fi := iR1 (eVar 2)) (h := gNm 5) (fb := (sCons (sAs (eF (eLc (iR2 (eVar 4) (eCall1 cLen (eF (eVar 3)))) (gNm 8) (eTst (eBin dNe (eBin dIx (eBinO dIx 3 (eVar 8)) (eVar 5)) (eC (.int 0)))) (eVar 8) [8])) (gNm 6))
    (sCons (sIf (tNt (eTru (eVar 6))) sCt sNil)
    (sCons (sAs (eCall F_scaled [.sh (eVar 0), .sh (eBinO dIx 3 (eBin dIx (eVar 6) (eC (.int 0)))), .sh (eVar 5)]) (gNm 7))
    (sCons (sSt 3 (eBinO dIx 3 (eVar 4)) (eBin dIx (eVar 6) (eC (.int 0))))
    (sCons (sSt 3 (eVar 7) (eVar 4))
    (sCons (sFor (iEn (eF (eCall1 cList (eF (eVar 3))))) (gTp (gsCons (gNm 8) (gsCons (gNm 9) gsNil))) (sIf (tAn (eTst (eBin dNe (eVar 8) (eVar 4))) (eTst (eBin dNe (eBin dIx (eVar 9) (eVar 5)) (eC (.int 0))))) (sSt 3 (eCall F_less_times [.sh (eVar 0), .sh (eVar 9), .sh (eBin dIx (eVar 9) (eVar 5)), .sh (eVar 7)]) (eVar 8)) sNil))
    (sAug 4 (dI fun a b => .int (a + b)) (eC (.int 1))))))))))
    (s := [some (.int p), some (tabD C), some (.int (n : Int)), some (.list (C.map rowD)), some (.int 0), none, none, none, none, none]) (s1 := [some (.int p), some (tabD C), some (.int (n : Int)), some (.list (C.map rowD)), some (.int 0), none, none, none, none, none])
    (fun j s => ∃ (F : List Rw) (L : List Nat) (x5 x6 x7 x8 x9 : Option D), s = [some (.int p), some (tabD C), some (.int (n : Int)), some (.list (F.map rowD)), some (.int (L.length : Int)), x5, x6, x7, x8, x9] ∧ El p n j C F L ∧ F.length = C.length)
    (by have := v_R1 (f := eVar 2) (s := [some (.int p), some (tabD C), some (.int (n : Int)), some (.list (C.map rowD)), some (.int 0), none, none, none, none, none]) (s1 := [some (.int p), some (tabD C), some (.int (n : Int)), some (.list (C.map rowD)), some (.int 0), none, none, none, none, none]) (n := (n : Int)) (v_at rfl) (by omega); exact this)
    ⟨C, [], none, none, none, none, none, rfl, .init dC, rfl⟩ (fun j x s hj ⟨F, L, x5, x6, x7, x8, x9, es, el, fl⟩ => by
      subst es
      have hjn : j < n := by
        obtain ⟨z, _⟩ := List.getElem?_eq_some_iff.mp hj
        unfold rgD at z
        simpa using z
      rw [rgD_get hjn] at hj
      cases hj
      have ej : (0 : Int) + (j : Nat) = (j : Int) := by omega
      rw [ej]
      refine ⟨[some (.int p), some (tabD C), some (.int (n : Int)), some (.list (F.map rowD)), some (.int (L.length : Int)), some (.int (j : Int)), x6, x7, x8, x9], ?_⟩
      -- those that fit
      have le := el.le
      have get : ∀ i : Nat, i < F.length → ∃ r, F[i]? = some r ∧ Dom p n r ∧ F.getD i [] = r := fun i hi => ⟨F[i], List.getElem?_eq_getElem hi, el.dom _ (List.getElem_mem hi), getD_of (List.getElem?_eq_getElem hi)⟩
      have items : ∀ d ∈ rgD (L.length : Int) ((F.length : Int) - (L.length : Int)).toNat, ∃ i r, d = .int ((i : Nat) : Int) ∧ L.length ≤ i ∧ i < F.length ∧ F[i]? = some r ∧ Dom p n r ∧ F.getD i [] = r := fun d hd => by
        obtain ⟨i, hi', rfl⟩ := rgD_mem hd
        obtain ⟨r, h1, h2, h3⟩ := get (L.length + i) (by omega)
        exact ⟨L.length + i, r, by congr 1, by omega, by omega, h1, h2, h3⟩
      have fit := v_lc (s := [some (.int p), some (tabD C), some (.int (n : Int)), some (.list (F.map rowD)), some (.int (L.length : Int)), some (.int (j : Int)), x6, x7, x8, x9]) (s1 := [some (.int p), some (tabD C), some (.int (n : Int)), some (.list (F.map rowD)), some (.int (L.length : Int)), some (.int (j : Int)), x6, x7, x8, x9])
        (i := 8) (fi := iR2 (eVar 4) (eCall1 cLen (eF (eVar 3)))) (ft := eTst (eBin dNe (eBin dIx (eBinO dIx 3 (eVar 8)) (eVar 5)) (eC (.int 0)))) (fe := eVar 8) (t := fitT F j) (g := fun d => d) (items := rgD (L.length : Int) ((F.length : Int) - (L.length : Int)).toNat)
        (v_R2 (n := (F.length : Int)) (v_at rfl) (v_c1 (v_F (v_at rfl)) (by show some (PyData.int ((F.map rowD).length : Int)) = _; rw [List.length_map])) (by omega)) (by simp) (fun d hd => by
          obtain ⟨i, r, rfl, h1, h2, h3, h4, h5⟩ := items d hd
          have : fitT F j (.int (i : Int)) = !(e0 r j == 0) := by
            show (!(e0 (F.getD (i : Int).toNat []) j == 0)) = _
            rw [Int.toNat_natCast, h5]
          rw [this]
          exact v_tst (v_bin (v_bin (v_binO rfl (v_at rfl) rfl (ixL h3)) (v_at rfl) (e0_ix (by rw [h4.len]; exact hjn))) rfl dNe_i)) (fun d hd _ => v_at rfl)
      rw [List.map_id'] at fit
      cases hq : (rgD (L.length : Int) ((F.length : Int) - (L.length : Int)).toNat).filter (fitT F j) with
      | nil =>
        rw [hq] at fit
        refine ⟨.ct [some (.int p), some (tabD C), some (.int (n : Int)), some (.list (F.map rowD)), some (.int (L.length : Int)), some (.int (j : Int)), some (.list []), x7, x8, x9], _, rfl, ?_, .inr rfl, F, L, _, _, _, _, _, rfl, el.skip fun k b hk hb => ?_, fl⟩
        · exact (v_nx (v_set (v_F fit))).trans (v_end ((v_sif (x := true) (v_notF (v_tru (v_at rfl) rfl))).trans rfl) fun s' z => nomatch z)
        · apply Classical.byContradiction
          intro ne
          have kl : k < F.length := by obtain ⟨z, _⟩ := List.getElem?_eq_some_iff.mp hb; exact z
          have : PyData.int (k : Int) ∈ (rgD (L.length : Int) ((F.length : Int) - (L.length : Int)).toNat).filter (fitT F j) := by
            refine List.mem_filter.mpr ⟨?_, ?_⟩
            · unfold rgD
              exact List.mem_map.mpr ⟨k - L.length, List.mem_range.mpr (by omega), by congr 1; omega⟩
            · show (!(e0 (F.getD (k : Int).toNat []) j == 0)) = true
              rw [Int.toNat_natCast, getD_of hb, beq_eq_false_iff_ne.mpr ne]
              rfl
          rw [hq] at this
          cases this
      | cons d0 rest =>
        rw [hq] at fit
        have m0 : d0 ∈ (rgD (L.length : Int) ((F.length : Int) - (L.length : Int)).toNat).filter (fitT F j) := by rw [hq]; exact List.mem_cons_self
        obtain ⟨m1, m2⟩ := List.mem_filter.mp m0
        obtain ⟨q, Q, rfl, q1, q2, q3, q4, q5⟩ := items d0 m1
        have nz : e0 Q j ≠ 0 := fun z => by
          have m2 : (!(e0 (F.getD (q : Int).toNat []) j == 0)) = true := m2
          rw [Int.toNat_natCast, q5, z] at m2
          cases m2
        obtain ⟨u, hu, hm⟩ := e_scaled hp q4 hjn nz
        obtain ⟨D, hD, dD, _⟩ := get L.length (by omega)
        have dP : Dom p n (mulL p u Q) := mulL_dom (by omega) q4
        have dG : ∀ r ∈ (F.set q D).set L.length (mulL p u Q), Dom p n r := fun r hr => by
          rcases List.mem_or_eq_of_mem_set hr with z | rfl
          · rcases List.mem_or_eq_of_mem_set z with z | rfl
            · exact el.dom r z
            · exact dD
          · exact dP
        obtain ⟨F', y8, y9, pt, hin⟩ := inner (C := C) (d := L.length) (x6 := some (.list (.int (q : Int) :: rest))) (x8 := x8) (x9 := x9) hp hjn dG dP
        have glen : ((F.set q D).set L.length (mulL p u Q)).length = F.length := by rw [List.length_set, List.length_set]
        refine ⟨.nx [some (.int p), some (tabD C), some (.int (n : Int)), some (.list (F'.map rowD)), some (.int ((L ++ [j]).length : Int)), some (.int (j : Int)), some (.list (.int (q : Int) :: rest)), some (rowD (mulL p u Q)), y8, y9], _, rfl, ?_, .inl rfl, F', L ++ [j], _, _, _, _, _, rfl, ?_, by rw [pt.len, glen, fl]⟩
        · have ix0 : dIx (.list (.int (q : Int) :: rest)) (.int 0) = some (.int (q : Int)) := ix_nat (j := 0) rfl
          refine (v_nx (v_set (v_F fit))).trans ?_
          refine (v_nx ((v_sif (x := false) (v_notT (v_tru (v_at rfl) rfl))).trans rfl)).trans ?_
          refine (v_nx (v_set (v_call [eVar 0, eBinO dIx 3 (eBin dIx (eVar 6) (eC (.int 0))), eVar 5] (v_cons (v_at rfl) (v_cons (v_binO rfl (v_bin (v_at rfl) rfl ix0) rfl (ixL q3)) (v_cons (v_at rfl) rfl))) rfl hu))).trans ?_
          refine (v_nx (v_st (d := rowD D) (n := q) (i := (q : Int)) (v_binO rfl (v_at rfl) rfl (ixL hD)) rfl (v_bin (v_at rfl) rfl ix0) rfl (ixN_nat (by rw [List.length_map]; exact q2)))).trans ?_
          refine (v_nx (v_st (d := rowD (mulL p u Q)) (n := L.length) (i := (L.length : Int)) (v_at rfl) rfl (v_at rfl) rfl (ixN_nat (by rw [List.length_set, List.length_map]; omega)))).trans ?_
          have em : (((F.map rowD).set q (rowD D)).set L.length (rowD (mulL p u Q))) = ((F.set q D).set L.length (mulL p u Q)).map rowD := by rw [List.map_set, List.map_set]
          show sCons _ _ [some (.int p), some (tabD C), some (.int (n : Int)), some (.list (((F.map rowD).set q (rowD D)).set L.length (rowD (mulL p u Q)))), some (.int (L.length : Int)), some (.int (j : Int)), some (.list (.int (q : Int) :: rest)), some (rowD (mulL p u Q)), x8, x9] = _
          rw [em]
          refine (v_nx hin).trans ((v_aug (b := .int 1) rfl rfl rfl).trans ?_)
          rw [List.length_append]
          rfl
        · refine el.pivot lo hjn q1 q3 hD hm (by rw [pt.len, glen]) fun k b hb => ?_
          rw [pt.at_ k b hb]
          have kl : k < ((F.set q D).set L.length (mulL p u Q)).length := by obtain ⟨z, _⟩ := List.getElem?_eq_some_iff.mp hb; exact z
          congr 1
          by_cases z : k ≠ L.length ∧ e0 b j ≠ 0
          · rw [if_pos z, if_pos ⟨kl, z⟩]
          · rw [if_neg z, if_neg fun w => z w.2])
  have rl : (rgD 0 n).length = n := by unfold rgD; simp
  rw [rl] at el
  obtain ⟨r1, r2⟩ := el.done
  have lle : L.length ≤ F.length := el.le
  refine ⟨F.take L.length, L, runF_rt (s := s') ?_ (by rw [e2]; simp), r1, r2⟩
  show g_reduced [some (.int p), some (tabD C), some (.int (n : Int)), none, none, none, none, none, none, none] = _
  unfold g_reduced
  refine (v_nx (v_setO (d := .list (C.map rowD)) (s1 := [some (.int p), some (tabD C), some (.int (n : Int)), none, none, none, none, none, none, none]) (v_c1 (a := tabD C) (v_at rfl) rfl) (by simp))).trans ?_
  refine (v_nx (v_set (d := .int 0) rfl)).trans ?_
  refine (v_nx e1).trans ?_
  refine v_rt ?_
  refine v_c1 (v_slO (xs := F.map rowD) (i := L.length) (by rw [e2]; rfl) (by rw [e2]; exact v_at rfl) (by rw [List.length_map]; exact lle)) ?_
  show some (PyData.tuple ((F.map rowD).take L.length)) = some (tabD (F.take L.length))
  rw [← List.map_take]
end Pf
set_option linter.all false
set_option maxRecDepth 100000
namespace Mi
open PySem PySem.Spec L2
section
variable {s s1 s2 : SD} {f g : FE}
theorem lc_alpha {α : Type} {i : Nat} {ft : FT} {fe : FE} {t : α → Bool} {φ ψ : α → D} : ∀ {xs : List α} {s : SD} {acc : List D}, s[i]? = some none → (∀ x ∈ xs, ft (s.set i (some (φ x))) = some (t x, s.set i (some (φ x)))) → (∀ x ∈ xs, t x = true → fe (s.set i (some (φ x))) = some (ψ x, s.set i (some (φ x)))) →
    lcGo (gNm i) ft fe [i] (xs.map φ) s acc = some (acc ++ (xs.filter t).map ψ, s)
  | [], s, acc, _, _, _ => by simp [lcGo]
  | x :: xs, s, acc, h0, h1, h2 => by
    have back : wipeD (s.set i (some (φ x))) [i] = s := by
      show (s.set i (some (φ x))).set i none = s
      rw [List.set_set, set_none h0]
    have ih := fun acc => lc_alpha (acc := acc) h0 (fun e he => h1 e (List.mem_cons_of_mem _ he)) (fun e he => h2 e (List.mem_cons_of_mem _ he))
    rw [List.map_cons]
    unfold lcGo
    show ((ft (s.set i (some (φ x)))).bind _) = _
    rw [h1 x List.mem_cons_self]
    by_cases q : t x = true
    · show (if t x = true then ((fe (s.set i (some (φ x)))).bind _) else _) = _
      rw [if_pos q, h2 x List.mem_cons_self q]
      show lcGo (gNm i) ft fe [i] (xs.map φ) (wipeD (s.set i (some (φ x))) [i]) (acc ++ [ψ x]) = _
      rw [back, ih, List.filter_cons_of_pos q, List.map_cons, List.append_assoc]
      rfl
    · show (if t x = true then _ else lcGo (gNm i) ft fe [i] (xs.map φ) (wipeD (s.set i (some (φ x))) [i]) acc) = _
      rw [if_neg q, back, ih, List.filter_cons_of_neg q]
theorem v_lcA {α : Type} {i : Nat} {fi : FA} {ft : FT} {fe : FE} {t : α → Bool} {φ ψ : α → D} {xs : List α} (hi : fi s = some (xs.map φ, s1)) (hl : i < s1.length) (h1 : ∀ x ∈ xs, ft (s1.set i (some (φ x))) = some (t x, s1.set i (some (φ x)))) (h2 : ∀ x ∈ xs, t x = true → fe (s1.set i (some (φ x))) = some (ψ x, s1.set i (some (φ x)))) :
    eLc fi (gNm i) ft fe [i] s = some (.list ((xs.filter t).map ψ), s1) := by
  unfold eLc
  rw [hi]
  show ((lcGo (gNm i) ft fe [i] (xs.map φ) (s1.set i none) []).map _) = _
  have ss : ∀ d : D, (s1.set i none).set i (some d) = s1.set i (some d) := fun d => List.set_set ..
  rw [lc_alpha (t := t) (ψ := ψ) (by rw [List.getElem?_set_self hl]) (fun d hd => by rw [ss]; exact h1 d hd) (fun d hd q => by rw [ss]; exact h2 d hd q)]
  show some (PyData.list ([] ++ (xs.filter t).map ψ), backD s1 (s1.set i none) [i]) = _
  rw [back_one hl]
  rfl
theorem v_lcB {α : Type} {i : Nat} {fi : FA} {fe : FE} {φ ψ : α → D} {xs : List α} (hi : fi s = some (xs.map φ, s1)) (hl : i < s1.length) (h2 : ∀ x ∈ xs, fe (s1.set i (some (φ x))) = some (ψ x, s1.set i (some (φ x)))) :
    eLc fi (gNm i) tYs fe [i] s = some (.list (xs.map ψ), s1) := by
  have := v_lcA (t := fun _ => true) (ft := tYs) (ψ := ψ) hi hl (fun d _ => rfl) (fun d hd _ => h2 d hd)
  rwa [List.filter_eq_self.mpr (fun _ _ => rfl)] at this
theorem rgD_nat (n : Nat) : rgD 0 n = (List.range n).map fun i => .int ((i : Nat) : Int) := by
  unfold rgD
  apply List.map_congr_left
  intro i _
  congr 1
  omega
/-- a list of ints is laid well -/
theorem ints_shaped (ns : List Int) : SeqAt.shaped (.list (ns.map .int)) = true := by
  have h1 : ∀ ns : List Int, PyData.canLayAll0 (ns.map .int) = true := fun ns => by
    induction ns with
    | nil => rfl
    | cons n ns ih => simp [PyData.canLayAll0, PyData.canLay0, ih]
  have h2 : ∀ ns : List Int, PyData.depthAll (ns.map .int) = 0 := fun ns => by
    induction ns with
    | nil => rfl
    | cons n ns ih => simp [PyData.depthAll, PyData.depth, ih]
  simp [SeqAt.shaped, PyData.canLay0, PyData.depth, h1, h2]
theorem ne_nil_ints (ns : List Int) : dNe (.list (ns.map .int)) (.list []) = some (.bool (!ns.isEmpty)) := by
  unfold dNe
  have : SeqAt.shaped (.list ([] : List D)) = true := ints_shaped []
  rw [if_pos (by rw [ints_shaped ns, this]; rfl)]
  cases ns with
  | nil => simp [PyData.eqv, PyData.eqvAll]
  | cons n ns => simp [PyData.eqv, PyData.eqvAll]
end
end Mi
set_option linter.all false
set_option maxRecDepth 100000
namespace Pf
open PySem PySem.Spec L2 Mi Ma
theorem e_lawredG {p : Int} {n : Nat} {C : List Rw} {tq : D} (htq : tq = tabD C ∨ tq = .list (C.map rowD)) (hp : Pr p) (dC : ∀ r ∈ C, Dom p n r) (hn : n ≤ 1000) (hC : C.length ≤ 1000) :
    ∃ B L, Ret F__law_reduced [.int p, tq, .int (n : Int)] (tabD B) ∧ RL p n B L ∧ Ma.Same p C B := by
  have lo := hp.lo
  have hi := hp.hi
  obtain ⟨s', e1, B, X, L, x5, x6, x7, x8, x9, x10, x11, e2, el, xl, bl⟩ := v_for (items := rgD 0 n) (fi := iR1 (eVar 2)) (h := gNm 5) (fb := (sCons (sAs (eF (eLc (iR1 (eCall1 cLen (eVar 3))) (gNm 10) (eTst (eBin dNe (eBin dIx (eBin dIx (eVar 3) (eVar 10)) (eVar 5)) (eC (.int 0)))) (eVar 10) [10])) (gNm 6))
    (sIf (eTst (eBin dNe (eVar 6) (eF (eLst aNil)))) (sCons (sAs (eBin dIx (eVar 3) (eBin dIx (eVar 6) (eC (.int 0)))) (gNm 7))
    (sCons (sAs (eCall F__law_back [.sh (eVar 0), .sh (eBin dIx (eVar 7) (eVar 5))]) (gNm 8))
    (sCons (sAs (eCall1 cTup (eF (eLc (iS (eVar 7)) (gNm 11) tYs (eBin dMod (eCall1 cInt (eBin dMul (eVar 8) (eVar 11))) (eVar 0)) [11]))) (gNm 7))
    (sCons (sAs (eF (eLc (iR1 (eCall1 cLen (eVar 3))) (gNm 10) (eTst (eBin dNe (eVar 10) (eBin dIx (eVar 6) (eC (.int 0))))) (eCall F__law_off [.sh (eVar 0), .sh (eBin dIx (eVar 3) (eVar 10)), .sh (eVar 7), .sh (eVar 5)]) [10])) (gNm 3))
    (sAs (eBin dPlus (eF (eLc (iS (eVar 4)) (gNm 9) tYs (eCall F__law_off [.sh (eVar 0), .sh (eVar 9), .sh (eVar 7), .sh (eVar 5)]) [9])) (eF (eLst (aCons (eVar 7) aNil)))) (gNm 4)))))) sNil)))
    (s := [some (.int p), some (tq), some (.int (n : Int)), some (.list (C.map rowD)), some (.list []), none, none, none, none, none, none, none]) (s1 := [some (.int p), some (tq), some (.int (n : Int)), some (.list (C.map rowD)), some (.list []), none, none, none, none, none, none, none])
    (fun j s => ∃ (B X : List Rw) (L : List Nat) (x5 x6 x7 x8 x9 x10 x11 : Option D), s = [some (.int p), some (tq), some (.int (n : Int)), some (.list (X.map rowD)), some (.list (B.map rowD)), x5, x6, x7, x8, x9, x10, x11] ∧ Lw p n j C B X L ∧ X.length ≤ 1000 ∧ B.length ≤ j)
    (by have := v_R1 (f := eVar 2) (s := [some (.int p), some (tq), some (.int (n : Int)), some (.list (C.map rowD)), some (.list []), none, none, none, none, none, none, none]) (s1 := [some (.int p), some (tq), some (.int (n : Int)), some (.list (C.map rowD)), some (.list []), none, none, none, none, none, none, none]) (n := (n : Int)) (v_at rfl) (by omega); exact this)
    ⟨[], C, [], none, none, none, none, none, none, none, rfl, .init dC, hC, Nat.zero_le _⟩ (fun j x s hj ⟨B, X, L, x5, x6, x7, x8, x9, x10, x11, es, el, xl, bl⟩ => by
      subst es
      have hjn : j < n := by
        obtain ⟨z, _⟩ := List.getElem?_eq_some_iff.mp hj
        unfold rgD at z
        simpa using z
      rw [rgD_get hjn] at hj
      cases hj
      have ej : (0 : Int) + (j : Nat) = (j : Int) := by omega
      rw [ej]
      refine ⟨[some (.int p), some (tq), some (.int (n : Int)), some (.list (X.map rowD)), some (.list (B.map rowD)), some (.int (j : Int)), x6, x7, x8, x9, x10, x11], ?_⟩
      have getX : ∀ i : Nat, i < X.length → ∃ r, X[i]? = some r ∧ Dom p n r ∧ X.getD i [] = r := fun i hi => ⟨X[i], List.getElem?_eq_getElem hi, el.domX _ (List.getElem_mem hi), getD_of (List.getElem?_eq_getElem hi)⟩
      have lenX : ∀ s : SD, s[3]? = some (some (.list (X.map rowD))) → iR1 (eCall1 cLen (eVar 3)) s = some ((List.range X.length).map (fun i => PyData.int ((i : Nat) : Int)), s) := fun s h => by
        have := v_R1 (s := s) (s1 := s) (f := eCall1 cLen (eVar 3)) (n := (X.length : Int)) (v_c1 (v_at h) (by show some (PyData.int ((X.map rowD).length : Int)) = _; rw [List.length_map])) (by omega)
        rw [this, Int.toNat_natCast, rgD_nat]
      have fit := v_lcA (s := [some (.int p), some (tq), some (.int (n : Int)), some (.list (X.map rowD)), some (.list (B.map rowD)), some (.int (j : Int)), x6, x7, x8, x9, x10, x11]) (s1 := [some (.int p), some (tq), some (.int (n : Int)), some (.list (X.map rowD)), some (.list (B.map rowD)), some (.int (j : Int)), x6, x7, x8, x9, x10, x11])
        (i := 10) (fi := iR1 (eCall1 cLen (eVar 3))) (ft := eTst (eBin dNe (eBin dIx (eBin dIx (eVar 3) (eVar 10)) (eVar 5)) (eC (.int 0)))) (fe := eVar 10) (t := fun i : Nat => !(e0 (X.getD i []) j == 0)) (ψ := fun i : Nat => PyData.int ((i : Nat) : Int)) (lenX _ rfl) (by simp) (fun i hi => by
          obtain ⟨r, h1, h2, h3⟩ := getX i (List.mem_range.mp hi)
          rw [h3]
          exact v_tst (v_bin (v_bin (v_bin (v_at rfl) (v_at rfl) (ixL h1)) (v_at rfl) (e0_ix (by rw [h2.len]; exact hjn))) rfl dNe_i)) (fun i hi _ => v_at rfl)
      have fit6 : ∀ l : List Nat, (l.map fun i : Nat => PyData.int ((i : Nat) : Int)) = (l.map fun i : Nat => ((i : Nat) : Int)).map PyData.int := fun l => by rw [List.map_map]; rfl
      cases hq : (List.range X.length).filter (fun i : Nat => !(e0 (X.getD i []) j == 0)) with
      | nil =>
        rw [hq] at fit
        refine ⟨.nx [some (.int p), some (tq), some (.int (n : Int)), some (.list (X.map rowD)), some (.list (B.map rowD)), some (.int (j : Int)), some (.list []), x7, x8, x9, x10, x11], _, rfl, ?_, .inl rfl, B, X, L, _, _, _, _, _, _, _, rfl, el.skip fun x hx => ?_, xl, by omega⟩
        · exact (v_nx (v_set (v_F fit))).trans ((v_sif (x := false) (v_tst (v_bin (v_at rfl) (v_F (v_lst rfl)) (ne_nil_ints [])))).trans rfl)
        · apply Classical.byContradiction
          intro ne
          obtain ⟨i, hi, e⟩ := List.mem_iff_getElem.mp hx
          have : i ∈ (List.range X.length).filter (fun i : Nat => !(e0 (X.getD i []) j == 0)) := List.mem_filter.mpr ⟨List.mem_range.mpr hi, by rw [getD_of (List.getElem?_eq_getElem hi), e, beq_eq_false_iff_ne.mpr ne]; rfl⟩
          rw [hq] at this
          cases this
      | cons q rest =>
        rw [hq] at fit
        have m0 : q ∈ (List.range X.length).filter (fun i : Nat => !(e0 (X.getD i []) j == 0)) := by rw [hq]; exact List.mem_cons_self
        obtain ⟨m1, m2⟩ := List.mem_filter.mp m0
        have ql := List.mem_range.mp m1
        obtain ⟨Q, q3, q4, q5⟩ := getX q ql
        have nz : e0 Q j ≠ 0 := fun z => by
          rw [q5, z] at m2
          cases m2
        obtain ⟨b1, b2⟩ := q4.at (by omega) j
        obtain ⟨u, hu, hm, u1, u2⟩ := e_back hp (x := e0 Q j) (by omega) b2
        have dP : Dom p n (mulL p u Q) := mulL_dom (by omega) q4
        let S6 : D := .list ((q :: rest).map fun i : Nat => PyData.int ((i : Nat) : Int))
        have ix0 : dIx S6 (.int 0) = some (.int (q : Int)) := ix_nat (j := 0) rfl
        let X' : List Rw := ((List.range X.length).filter fun k => !(k == q)).map fun k => offL p (e0 (X.getD k []) j) (X.getD k []) (mulL p u Q)
        let B' : List Rw := B.map (fun b => offL p (e0 b j) b (mulL p u Q)) ++ [mulL p u Q]
        have hb' : B'.length = B.length + 1 := by show (B.map _ ++ [mulL p u Q]).length = _; rw [List.length_append, List.length_map]; rfl
        have hx' : X'.length ≤ X.length := by
          show (((List.range X.length).filter fun k => !(k == q)).map _).length ≤ _
          rw [List.length_map]
          exact Nat.le_trans (List.length_filter_le _ _) (by rw [List.length_range]; omega)
        have sc := v_lcB (s := [some (.int p), some (tq), some (.int (n : Int)), some (.list (X.map rowD)), some (.list (B.map rowD)), some (.int (j : Int)), some S6, some (rowD Q), some (.int u), x9, x10, x11]) (s1 := [some (.int p), some (tq), some (.int (n : Int)), some (.list (X.map rowD)), some (.list (B.map rowD)), some (.int (j : Int)), some S6, some (rowD Q), some (.int u), x9, x10, x11])
          (i := 11) (fi := iS (eVar 7)) (fe := eBin dMod (eCall1 cInt (eBin dMul (eVar 8) (eVar 11))) (eVar 0)) (φ := PyData.int) (ψ := fun a : Int => .int ((u * a) % p)) (xs := Q) (v_St (v_at rfl)) (by simp) (fun a ha => v_bin (v_c1 (v_bin (v_at rfl) (v_at rfl) (dMul_l (by omega))) rfl) (v_at rfl) (dMod_p (by omega)))
        have em1 : (Q.map fun a : Int => PyData.int ((u * a) % p)) = (mulL p u Q).map .int := by unfold mulL; rw [List.map_map]; rfl
        rw [em1] at sc
        have lf := v_lcA (s := [some (.int p), some (tq), some (.int (n : Int)), some (.list (X.map rowD)), some (.list (B.map rowD)), some (.int (j : Int)), some S6, some (rowD (mulL p u Q)), some (.int u), x9, x10, x11]) (s1 := [some (.int p), some (tq), some (.int (n : Int)), some (.list (X.map rowD)), some (.list (B.map rowD)), some (.int (j : Int)), some S6, some (rowD (mulL p u Q)), some (.int u), x9, x10, x11])
          (i := 10) (fi := iR1 (eCall1 cLen (eVar 3))) (ft := eTst (eBin dNe (eVar 10) (eBin dIx (eVar 6) (eC (.int 0))))) (fe := eCall F__law_off [.sh (eVar 0), .sh (eBin dIx (eVar 3) (eVar 10)), .sh (eVar 7), .sh (eVar 5)]) (t := fun k : Nat => !(k == q)) (ψ := fun k : Nat => rowD (offL p (e0 (X.getD k []) j) (X.getD k []) (mulL p u Q))) (lenX _ rfl) (by simp) (fun k hk => by
            have e := v_bin (s := [some (.int p), some (tq), some (.int (n : Int)), some (.list (X.map rowD)), some (.list (B.map rowD)), some (.int (j : Int)), some S6, some (rowD (mulL p u Q)), some (.int u), x9, some (.int (k : Int)), x11]) (f := eVar 10) (g := eBin dIx (eVar 6) (eC (.int 0))) (v_at rfl) (v_bin (v_at rfl) rfl ix0) dNe_i
            have eb : ((k : Int) == (q : Int)) = (k == q) := by
              by_cases z : k = q
              · subst z; simp
              · rw [beq_eq_false_iff_ne.mpr z, beq_eq_false_iff_ne.mpr (by omega)]
            rw [eb] at e
            exact v_tst e) (fun k hk _ => by
            obtain ⟨r, h1, h2, h3⟩ := getX k (List.mem_range.mp hk)
            rw [h3]
            exact v_call [eVar 0, eBin dIx (eVar 3) (eVar 10), eVar 7, eVar 5] (v_cons (v_at rfl) (v_cons (v_bin (v_at rfl) (v_at rfl) (ixL h1)) (v_cons (v_at rfl) (v_cons (v_at rfl) rfl)))) rfl (e_off hp h2 dP hjn hn))
        have em2 : (((List.range X.length).filter fun k : Nat => !(k == q)).map fun k : Nat => rowD (offL p (e0 (X.getD k []) j) (X.getD k []) (mulL p u Q))) = X'.map rowD := by
          show _ = (((List.range X.length).filter fun k => !(k == q)).map fun k => offL p (e0 (X.getD k []) j) (X.getD k []) (mulL p u Q)).map rowD
          rw [List.map_map]
          rfl
        rw [em2] at lf
        have fo := v_lcB (s := [some (.int p), some (tq), some (.int (n : Int)), some (.list (X'.map rowD)), some (.list (B.map rowD)), some (.int (j : Int)), some S6, some (rowD (mulL p u Q)), some (.int u), x9, x10, x11]) (s1 := [some (.int p), some (tq), some (.int (n : Int)), some (.list (X'.map rowD)), some (.list (B.map rowD)), some (.int (j : Int)), some S6, some (rowD (mulL p u Q)), some (.int u), x9, x10, x11])
          (i := 9) (fi := iS (eVar 4)) (fe := eCall F__law_off [.sh (eVar 0), .sh (eVar 9), .sh (eVar 7), .sh (eVar 5)]) (φ := rowD) (ψ := fun b : Rw => rowD (offL p (e0 b j) b (mulL p u Q))) (xs := B) (v_S (v_at rfl)) (by simp) (fun b hb =>
            v_call [eVar 0, eVar 9, eVar 7, eVar 5] (v_cons (v_at rfl) (v_cons (v_at rfl) (v_cons (v_at rfl) (v_cons (v_at rfl) rfl)))) rfl (e_off hp (el.domB b hb) dP hjn hn))
        refine ⟨.nx [some (.int p), some (tq), some (.int (n : Int)), some (.list (X'.map rowD)), some (.list (B'.map rowD)), some (.int (j : Int)), some S6, some (rowD (mulL p u Q)), some (.int u), x9, x10, x11], _, rfl, ?_, .inl rfl, B', X', L ++ [j], _, _, _, _, _, _, _, rfl, ?_, by omega, by omega⟩
        · refine (v_nx (v_set (v_F fit))).trans ?_
          refine (v_sif (x := true) (v_tst ((v_bin (v_at rfl) (v_F (v_lst rfl)) (by rw [fit6]; exact ne_nil_ints _)).trans rfl))).trans ?_
          refine (v_nx (v_set (v_bin (v_at rfl) (v_bin (v_at rfl) rfl ix0) (ixL q3)))).trans ?_
          refine (v_nx (v_set (v_call [eVar 0, eBin dIx (eVar 7) (eVar 5)] (v_cons (v_at rfl) (v_cons (v_bin (v_at rfl) (v_at rfl) (e0_ix (by rw [q4.len]; exact hjn))) rfl)) rfl hu))).trans ?_
          refine (v_nx (v_set (d := rowD (mulL p u Q)) (v_c1 (v_F sc) rfl))).trans ?_
          refine (v_nx (v_set (v_F lf))).trans ?_
          refine (v_set (d := .list (B'.map rowD)) (v_bin (v_F fo) (v_F (v_lst (v_cons (v_at rfl) rfl))) ?_)).trans rfl
          show (if (B.map fun b : Rw => rowD (offL p (e0 b j) b (mulL p u Q))).length + [rowD (mulL p u Q)].length ≤ 1000000 then some (PyData.list ((B.map fun b : Rw => rowD (offL p (e0 b j) b (mulL p u Q))) ++ [rowD (mulL p u Q)])) else none) = some (PyData.list ((B.map (fun b => offL p (e0 b j) b (mulL p u Q)) ++ [mulL p u Q]).map rowD))
          rw [if_pos (by rw [List.length_map]; show B.length + 1 ≤ 1000000; omega), List.map_append, List.map_map]
          rfl
        · refine el.pivot lo hjn q3 hm (fun x' hx => ?_) (fun k x kq hk => ?_)
          · obtain ⟨k, hk, rfl⟩ := List.mem_map.mp hx
            obtain ⟨k1, k2⟩ := List.mem_filter.mp hk
            obtain ⟨r, h1, h2, h3⟩ := getX k (List.mem_range.mp k1)
            refine ⟨k, r, fun z => ?_, h1, by rw [h3]⟩
            rw [z] at k2
            simp at k2
          · have kl : k < X.length := by obtain ⟨z, _⟩ := List.getElem?_eq_some_iff.mp hk; exact z
            refine List.mem_map.mpr ⟨k, List.mem_filter.mpr ⟨List.mem_range.mpr kl, by rw [beq_eq_false_iff_ne.mpr kq]; rfl⟩, ?_⟩
            rw [getD_of hk])
  have rl : (rgD 0 n).length = n := by unfold rgD; simp
  rw [rl] at el
  obtain ⟨r1, r2⟩ := el.done
  refine ⟨B, L, runF_rt (s := s') ?_ (by rw [e2]; simp), r1, r2⟩
  show g__law_reduced [some (.int p), some (tq), some (.int (n : Int)), none, none, none, none, none, none, none, none, none] = _
  unfold g__law_reduced
  have tp := v_lcB (s := [some (.int p), some (tq), some (.int (n : Int)), none, none, none, none, none, none, none, none, none]) (s1 := [some (.int p), some (tq), some (.int (n : Int)), none, none, none, none, none, none, none, none, none]) (i := 9) (fi := iS (eVar 1)) (fe := eCall1 cTup (eVar 9)) (φ := rowD) (ψ := rowD) (xs := C) (htq.elim (fun z => by subst z; exact v_St (v_at rfl)) (fun z => by subst z; exact v_S (v_at rfl))) (by simp) (fun r hr => v_c1 (v_at rfl) rfl)
  refine (v_nx (v_as (v_tup (v_cons (v_F tp) (v_cons (v_F (v_lst rfl)) rfl))) rfl)).trans ?_
  refine (v_nx e1).trans ?_
  exact v_rt (v_c1 (a := .list (B.map rowD)) (by rw [e2]; exact v_at rfl) rfl)
theorem e_lawred {p : Int} {n : Nat} {C : List Rw} (hp : Pr p) (dC : ∀ r ∈ C, Dom p n r) (hn : n ≤ 1000) (hC : C.length ≤ 1000) :
    ∃ B L, Ret F__law_reduced [.int p, tabD C, .int (n : Int)] (tabD B) ∧ RL p n B L ∧ Ma.Same p C B := e_lawredG (.inl rfl) hp dC hn hC
end Pf
set_option linter.all false
set_option maxRecDepth 100000
namespace Pf
open PySem PySem.Spec L2 Mi Ma
theorem eqv_ints : ∀ ns : List Int, PyData.eqvAll (ns.map .int) (ns.map .int) = true
  | [] => by simp [PyData.eqvAll]
  | n :: ns => by simp [PyData.eqvAll, PyData.eqv, eqv_ints ns]
theorem dEq_ints (ns : List Int) : dEq (.list (ns.map .int)) (.list (ns.map .int)) = some (.bool true) := by
  unfold dEq
  rw [if_pos (by rw [ints_shaped ns]; rfl)]
  simp [PyData.eqv, eqv_ints]
theorem asc_len {n : Nat} : ∀ {L : List Nat} {m : Nat}, L.Pairwise (· < ·) → (∀ l ∈ L, m ≤ l ∧ l < n) → L.length ≤ n - m
  | [], _, _, _ => by simp
  | a :: L, m, h, b => by
    obtain ⟨h1, h2⟩ := List.pairwise_cons.mp h
    have := asc_len (L := L) (m := a + 1) h2 fun l hl => ⟨h1 l hl, (b l (List.mem_cons_of_mem _ hl)).2⟩
    obtain ⟨b1, b2⟩ := b a List.mem_cons_self
    rw [List.length_cons]
    omega
theorem first_range {t : Nat → Bool} : ∀ {n l : Nat}, l < n → t l = true → (∀ k, k < l → t k = false) → ∃ r, (List.range n).filter t = l :: r
  | 0, l, h, _, _ => by omega
  | n + 1, l, h, h1, h2 => by
    rw [List.range_succ, List.filter_append]
    by_cases e : l < n
    · obtain ⟨r, hr⟩ := first_range e h1 h2
      rw [hr]
      exact ⟨_, rfl⟩
    · have : l = n := by omega
      subst this
      have z : (List.range l).filter t = [] := List.filter_eq_nil_iff.mpr fun k hk => by
        rw [h2 k (List.mem_range.mp hk)]
        exact Bool.false_ne_true
      rw [z, List.filter_cons_of_pos h1]
      exact ⟨_, rfl⟩
theorem one_only {α : Type} {t : α → Bool} : ∀ {B : List α} {k : Nat}, k < B.length → (∀ (i : Nat) b, B[i]? = some b → t b = decide (i = k)) → (B.filter t).length = 1
  | [], k, h, _ => by simp at h
  | b :: B, 0, _, h => by
    have e := h 0 b rfl
    rw [List.filter_cons_of_pos (by rw [e]; rfl)]
    have z : B.filter t = [] := List.filter_eq_nil_iff.mpr fun x hx => by
      obtain ⟨i, hi, ex⟩ := List.mem_iff_getElem.mp hx
      have := h (i + 1) x (by rw [List.getElem?_cons_succ, List.getElem?_eq_getElem hi, ex])
      rw [this]
      simp
    rw [z]
    rfl
  | b :: B, k + 1, hk, h => by
    have e := h 0 b rfl
    rw [List.filter_cons_of_neg (by rw [e]; simp)]
    exact one_only (k := k) (by simpa using hk) fun i x hx => by
      have := h (i + 1) x (by simpa using hx)
      rw [this]
      simp
def leadOf (r : Rw) : Nat := ((List.range r.length).filter fun k => !(e0 r k == 0)).headD 0
theorem _root_.Ma.RL.lead {p : Int} {n : Nat} {B : List Rw} {L : List Nat} (R : RL p n B L) {i l : Nat} {b : Rw} (hb : B[i]? = some b) (hl : L[i]? = some l) : ∃ r, ((List.range b.length).filter fun k => !(e0 b k == 0)) = l :: r := by
  have d := R.dom b (List.mem_of_getElem? hb)
  refine first_range (by rw [d.len]; exact R.lt l (List.mem_of_getElem? hl)) (by rw [R.one i b l hb hl]; rfl) fun k hk => by rw [R.pre i b l k hb hl hk]; rfl
theorem _root_.Ma.RL.leads {p : Int} {n : Nat} {B : List Rw} {L : List Nat} (R : RL p n B L) : B.map leadOf = L := by
  apply List.ext_getElem (by rw [List.length_map, R.len])
  intro i h1 h2
  rw [List.length_map] at h1
  obtain ⟨r, e⟩ := R.lead (List.getElem?_eq_getElem h1) (List.getElem?_eq_getElem h2)
  rw [List.getElem_map]
  unfold leadOf
  rw [e]
  rfl
theorem _root_.Ma.RL.few {p : Int} {n : Nat} {B : List Rw} {L : List Nat} (R : RL p n B L) : B.length ≤ n := by
  rw [← R.len]
  have := asc_len (n := n) (m := 0) R.asc fun l hl => ⟨Nat.zero_le _, R.lt l hl⟩
  omega
theorem e_leads {p : Int} {n : Nat} {B : List Rw} {L : List Nat} (R : RL p n B L) (hn : n ≤ 50) : Ret F__law_leads [tabD B] (.list (L.map fun l : Nat => .int ((l : Nat) : Int))) := by
  refine runF_rt (s := [some (tabD B), none, none]) ?_ (by simp)
  show g__law_leads [some (tabD B), none, none] = _
  unfold g__law_leads
  have em : (L.map fun l : Nat => PyData.int ((l : Nat) : Int)) = B.map fun r => PyData.int ((leadOf r : Nat) : Int) := by
    rw [← R.leads, List.map_map]
    rfl
  rw [em]
  refine v_rt (v_lcB (φ := rowD) (xs := B) (v_St (v_at rfl)) (by simp) fun b hb => ?_)
  obtain ⟨i, hi, e⟩ := List.mem_iff_getElem.mp hb
  have eb : B[i]? = some b := by rw [List.getElem?_eq_getElem hi, e]
  have il : i < L.length := by rw [R.len]; exact hi
  obtain ⟨r, er⟩ := R.lead eb (List.getElem?_eq_getElem il)
  have lead : leadOf b = L[i] := by unfold leadOf; rw [er]; rfl
  have d := R.dom b hb
  refine v_bin (v_F (v_lcA (s1 := [some (tabD B), some (rowD b), none]) (t := fun k : Nat => !(e0 b k == 0)) (φ := fun k : Nat => PyData.int ((k : Nat) : Int)) (ψ := fun k : Nat => PyData.int ((k : Nat) : Int)) (xs := List.range b.length) ?_ (by simp) (fun k hk => ?_) (fun k hk _ => v_at rfl))) rfl ?_
  · have := v_R1 (s := [some (tabD B), some (rowD b), none]) (s1 := [some (tabD B), some (rowD b), none]) (f := eCall1 cLen (eVar 1)) (n := (b.length : Int)) (v_c1 (v_at rfl) (by show some (PyData.int ((b.map PyData.int).length : Int)) = _; rw [List.length_map])) (by rw [d.len]; omega)
    rw [Int.toNat_natCast, rgD_nat] at this
    exact this
  · exact v_tst (v_bin (v_bin (v_at rfl) (v_at rfl) (e0_ix (List.mem_range.mp hk))) rfl dNe_i)
  · rw [er, lead]
    exact ix_nat (j := 0) rfl
theorem natInts (L : List Nat) : (L.map fun l : Nat => PyData.int ((l : Nat) : Int)) = (L.map fun l : Nat => ((l : Nat) : Int)).map PyData.int := by rw [List.map_map]; rfl
end Pf
set_option linter.all false
set_option maxRecDepth 100000
namespace Pf
open PySem PySem.Spec L2 Mi Ma
structure Nice (k w : Nat) (d : D) : Prop where
  lay : PyData.canLay0 d = true
  dep : PyData.depth d ≤ k
  wt : PyData.weight d ≤ w
  sh : PyData.intsShort 13 d = true
  ok : PyData.showable d = true
structure NiceA (k w : Nat) (ds : List D) : Prop where
  lay : PyData.canLayAll0 ds = true
  dep : PyData.depthAll ds ≤ k
  wt : PyData.weightAll ds ≤ ds.length * (w + 1)
  sh : PyData.intsShortAll 13 ds = true
  ok : PyData.showableAll ds = true
theorem nice_all {k w : Nat} : ∀ {ds : List D}, (∀ d ∈ ds, Nice k w d) → NiceA k w ds
  | [], _ => ⟨by simp [PyData.canLayAll0], by simp [PyData.depthAll], by simp [PyData.weightAll], by simp [PyData.intsShortAll], by simp [PyData.showableAll]⟩
  | d :: ds, h => by
    have a := h d List.mem_cons_self
    have b := nice_all (ds := ds) fun e he => h e (List.mem_cons_of_mem _ he)
    refine ⟨by simp [PyData.canLayAll0, a.lay, b.lay], ?_, ?_, by simp [PyData.intsShortAll, a.sh, b.sh], by simp [PyData.showableAll, a.ok, b.ok]⟩
    · have h1 := a.dep
      have h2 := b.dep
      simp only [PyData.depthAll]
      omega
    · have h1 := a.wt
      have h2 := b.wt
      simp only [PyData.weightAll, List.length_cons, Nat.add_mul, Nat.one_mul]
      omega
theorem nice_tup {k w : Nat} {ds : List D} (h : ∀ d ∈ ds, Nice k w d) : Nice (k + 1) (ds.length * (w + 1)) (.tuple ds) := by
  have a := nice_all h
  refine ⟨by simp [PyData.canLay0, a.lay], ?_, ?_, by simp [PyData.intsShort, a.sh], by simp [PyData.showable, a.ok]⟩
  · have := a.dep
    simp only [PyData.depth]
    omega
  · have := a.wt
    simp only [PyData.weight]
    omega
theorem nice_lst {k w : Nat} {ds : List D} (h : ∀ d ∈ ds, Nice k w d) : Nice (k + 1) (ds.length * (w + 1)) (.list ds) := by
  have a := nice_all h
  refine ⟨by simp [PyData.canLay0, a.lay], ?_, ?_, by simp [PyData.intsShort, a.sh], by simp [PyData.showable, a.ok]⟩
  · have := a.dep
    simp only [PyData.depth]
    omega
  · have := a.wt
    simp only [PyData.weight]
    omega
theorem Nice.up {k w k2 w2 : Nat} {d : D} (h : Nice k w d) (h1 : k ≤ k2) (h2 : w ≤ w2) : Nice k2 w2 d := ⟨h.lay, Nat.le_trans h.dep h1, Nat.le_trans h.wt h2, h.sh, h.ok⟩
theorem nice_fin : ∀ a : Fin 13, (PyData.canLay0 (.int a.val) && decide (PyData.depth (.int a.val) ≤ 0) && decide (PyData.weight (.int a.val) ≤ 4) && PyData.intsShort 13 (.int a.val) && PyData.showable (.int a.val)) = true := by decide +kernel
theorem nice_int {a : Int} (h1 : 0 ≤ a) (h2 : a < 13) : Nice 0 4 (.int a) := by
  have := nice_fin ⟨a.toNat, by omega⟩
  have e : ((a.toNat : Nat) : Int) = a := by omega
  simp only [e, Bool.and_eq_true, decide_eq_true_eq] at this
  obtain ⟨⟨⟨⟨x1, x2⟩, x3⟩, x4⟩, x5⟩ := this
  exact ⟨x1, x2, x3, x4, x5⟩
theorem nice_row {p : Int} {n : Nat} {r : Rw} (hp : Pr p) (d : Dom p n r) (hn : n ≤ 50) : Nice 1 250 (rowD r) := by
  have hi := hp.hi
  refine (nice_tup (ds := r.map .int) (k := 0) (w := 4) fun e he => ?_).up (Nat.le_refl _) ?_
  · obtain ⟨a, ha, rfl⟩ := List.mem_map.mp he
    obtain ⟨h1, h2⟩ := d.ok a ha
    exact nice_int h1 (by omega)
  · rw [List.length_map, d.len]
    omega
theorem nice_tab {p : Int} {n : Nat} {B : List Rw} (hp : Pr p) (d : ∀ r ∈ B, Dom p n r) (hn : n ≤ 50) (hb : B.length ≤ 50) : Nice 2 12550 (tabD B) := by
  refine (nice_tup (ds := B.map rowD) (k := 1) (w := 250) fun e he => ?_).up (Nat.le_refl _) ?_
  · obtain ⟨r, hr, rfl⟩ := List.mem_map.mp he
    exact nice_row hp (d r hr) hn
  · rw [List.length_map]
    omega
theorem repr_l {k w : Nat} {ds : List D} (h : Nice k w (.list ds)) (hk : k ≤ 64) (hw : w ≤ 1000000) : cRepr (.list ds) = some (.str (PyData.list ds).shown) := by
  have z : PyData.layable0 (.list ds) = true := by
    unfold PyData.layable0
    rw [h.lay, decide_eq_true (Nat.le_trans h.dep hk), decide_eq_true (Nat.le_trans h.wt (Nat.le_trans hw (by decide)))]
    rfl
  unfold cRepr
  simp only [z, h.sh, h.ok]
  rfl
theorem repr_t {k w : Nat} {ds : List D} (h : Nice k w (.tuple ds)) (hk : k ≤ 64) (hw : w ≤ 1000000) : cRepr (.tuple ds) = some (.str (PyData.tuple ds).shown) := by
  have z : PyData.layable0 (.tuple ds) = true := by
    unfold PyData.layable0
    rw [h.lay, decide_eq_true (Nat.le_trans h.dep hk), decide_eq_true (Nat.le_trans h.wt (Nat.le_trans hw (by decide)))]
    rfl
  unfold cRepr
  simp only [z, h.sh, h.ok]
  rfl
theorem reprX_l {ds : List D} : cReprX (.list ds) = cRepr (.list ds) := rfl
theorem reprX_t {ds : List D} : cReprX (.tuple ds) = cRepr (.tuple ds) := rfl
theorem e_like {d : D} {x : Str} (h : cReprX d = some (.str x)) : Ret F__law_like [d, d] (.bool true) := by
  refine runF_rt (s := [some d, some d]) ?_ (by simp)
  show g__law_like [some d, some d] = _
  unfold g__law_like
  exact v_rt (v_bin (v_c1 (v_at rfl) h) (v_c1 (v_at rfl) h) (by show some (PyData.bool (decide (x = x))) = _; rw [decide_eq_true rfl]))
end Pf
set_option linter.all false
/-! All that is spanned, one column more at a time; sorted lists without repeats. -/
namespace Ma
def addL (p k : Int) (a b : Rw) : Rw := List.zipWith (fun x y => (x + k * y) % p) a b
section
variable {p k : Int} {n : Nat} {a b r : Rw}
theorem addL_at (h : a.length = b.length) (j : Nat) : e0 (addL p k a b) j = (e0 a j + k * e0 b j) % p := by
  by_cases q : j < a.length
  · have q' : j < b.length := by omega
    refine e0_get ?_
    unfold addL
    rw [List.getElem?_zipWith, List.getElem?_eq_getElem q, List.getElem?_eq_getElem q', e0_lt q, e0_lt q']
  · have q2 : (addL p k a b).length ≤ j := by unfold addL; rw [List.length_zipWith]; omega
    rw [e0_ge q2, e0_ge (r := a) (by omega), e0_ge (r := b) (by omega)]
    simp
theorem addL_dom (hp : 0 < p) (ha : Dom p n a) (hb : Dom p n b) : Dom p n (addL p k a b) := ⟨by unfold addL; rw [List.length_zipWith, ha.len, hb.len]; omega, fun x hx => by
  unfold addL at hx
  obtain ⟨i, hi, e⟩ := List.mem_iff_getElem.mp hx
  rw [List.getElem_zipWith] at e
  rw [← e]
  exact ⟨Int.emod_nonneg _ (by omega), Int.emod_lt_of_pos _ hp⟩⟩
end
theorem Sp.split {p : Int} {C : List Vc} {t v : Vc} (h : Sp p (C ++ [t]) v) : ∃ (k : Int) (w : Vc), Sp p C w ∧ ∀ j, p ∣ v j - (w j + k * t j) := by
  induction h with
  | @zero v z => exact ⟨0, v, .zero z, fun j => ⟨0, by omega⟩⟩
  | @add v w r hr k hw e ih =>
    obtain ⟨m, x, hx, ex⟩ := ih
    rcases List.mem_append.mp hr with z | z
    · refine ⟨m, fun j => x j + k * r j, .add z k hx fun j => ⟨0, by show x j + k * r j - (x j + k * r j) = p * 0; omega⟩, fun j => ?_⟩
      refine dvd_cast (Int.dvd_add (e j) (ex j)) ?_
      show v j - (w j + k * r j) + (w j - (x j + m * t j)) = v j - (x j + k * r j + m * t j)
      omega
    · rw [List.mem_singleton] at z
      subst z
      refine ⟨m + k, x, hx, fun j => ?_⟩
      refine dvd_cast (Int.dvd_add (e j) (ex j)) ?_
      rw [Int.add_mul]
      omega
theorem Sp.wide {p : Int} {C : List Vc} {t v : Vc} (h : Sp p C v) : Sp p (C ++ [t]) v := h.le fun r hr => .mem (List.mem_append_left _ hr)
/-- the row that stands for a column -/
def canon (p : Int) (n : Nat) (v : Vc) : Rw := (List.range n).map fun j => v j % p
theorem canon_dom {p : Int} {n : Nat} {v : Vc} (hp : 0 < p) : Dom p n (canon p n v) := ⟨by unfold canon; simp, fun x hx => by
  unfold canon at hx
  obtain ⟨j, _, rfl⟩ := List.mem_map.mp hx
  exact ⟨Int.emod_nonneg _ (by omega), Int.emod_lt_of_pos _ hp⟩⟩
theorem canon_at {p : Int} {n : Nat} {v : Vc} {j : Nat} (h : j < n) : e0 (canon p n v) j = v j % p := by
  refine e0_get ?_
  unfold canon
  rw [List.getElem?_map, List.getElem?_range h]
  rfl
theorem canon_cg {p : Int} {n : Nat} {v : Vc} (hp : 0 < p) (h : ∀ j, n ≤ j → p ∣ v j) : ∀ j, p ∣ e0 (canon p n v) j - v j := fun j => by
  by_cases q : j < n
  · rw [canon_at q]
    exact dvd_emod hp _
  · have := (canon_dom (n := n) (v := v) hp).len
    rw [e0_ge (by omega)]
    exact dvd_cast (Int.dvd_neg.mpr (h j (by omega))) (by omega)
/-- what is spanned by one column more -/
theorem span_step {p : Int} {n : Nat} {C : List Rw} {t : Rw} {R : List Rw} (hp : 0 < p) (dt : Dom p n t) (hR : ∀ v, v ∈ R ↔ Dom p n v ∧ Sp p (vcs C) (e0 v)) (v : Rw) :
    (v ∈ R ∨ ∃ r ∈ R, ∃ m : Int, 1 ≤ m ∧ m < p ∧ v = addL p m r t) ↔ Dom p n v ∧ Sp p (vcs (C ++ [t])) (e0 v) := by
  have vc : vcs (C ++ [t]) = vcs C ++ [e0 t] := by unfold vcs; rw [List.map_append]; rfl
  rw [vc]
  constructor
  · rintro (h | ⟨r, hr, m, m1, m2, rfl⟩)
    · obtain ⟨h1, h2⟩ := (hR v).mp h
      exact ⟨h1, h2.wide⟩
    · obtain ⟨h1, h2⟩ := (hR r).mp hr
      refine ⟨addL_dom hp h1 dt, .add (List.mem_append_right _ List.mem_cons_self) m h2.wide fun j => ?_⟩
      rw [addL_at (by rw [h1.len, dt.len])]
      exact dvd_emod hp _
  · rintro ⟨dv, h⟩
    obtain ⟨k, w, hw, e⟩ := h.split
    have w0 : ∀ j, n ≤ j → p ∣ w j := fun j hj => by
      have := e j
      rw [e0_ge (by have := dv.len; omega), e0_ge (by have := dt.len; omega)] at this
      exact dvd_cast (Int.dvd_neg.mpr this) (by omega)
    have dw : Dom p n (canon p n w) := canon_dom hp
    have cw := canon_cg (n := n) hp w0
    have rR : canon p n w ∈ R := (hR _).mpr ⟨dw, hw.cg cw⟩
    have ev : v = addL p (k % p) (canon p n w) t := by
      refine dv.ext (addL_dom hp dw dt) hp fun j => ?_
      rw [addL_at (by rw [dw.len, dt.len])]
      have a1 := Int.dvd_neg.mpr (dvd_emod hp (e0 (canon p n w) j + k % p * e0 t j))
      have a2 := Int.dvd_neg.mpr (cw j)
      have a3 : p ∣ (k % p - k) * e0 t j := Int.dvd_mul_of_dvd_left (dvd_emod hp k)
      have := Int.dvd_sub (Int.dvd_add (Int.dvd_add (e j) a1) a2) a3
      refine dvd_cast this ?_
      rw [Int.sub_mul]
      omega
    have k0 := Int.emod_nonneg k (show p ≠ 0 by omega)
    have k1 := Int.emod_lt_of_pos k hp
    by_cases z : k % p = 0
    · refine .inl ?_
      have : v = canon p n w := by
        rw [ev, z]
        refine (addL_dom hp dw dt).ext dw hp fun j => ?_
        rw [addL_at (by rw [dw.len, dt.len])]
        refine dvd_cast (dvd_emod hp (e0 (canon p n w) j + 0 * e0 t j)) ?_
        rw [Int.zero_mul, Int.add_zero]
      rw [this]
      exact rR
    · exact .inr ⟨_, rR, k % p, by omega, k1, ev⟩
theorem span_none {p : Int} {n : Nat} (hp : 0 < p) (v : Rw) : v ∈ [List.replicate n (0 : Int)] ↔ Dom p n v ∧ Sp p (vcs []) (e0 v) := by
  have dz : Dom p n (List.replicate n (0 : Int)) := ⟨by simp, fun x hx => by have := List.eq_of_mem_replicate hx; omega⟩
  have ez : ∀ j, e0 (List.replicate n (0 : Int)) j = 0 := fun j => by
    by_cases q : j < n
    · refine e0_get ?_
      rw [List.getElem?_replicate, if_pos q]
    · exact e0_ge (by simp; omega)
  rw [List.mem_singleton]
  constructor
  · rintro rfl
    exact ⟨dz, .zero fun j => by rw [ez]; exact ⟨0, by omega⟩⟩
  · rintro ⟨d, h⟩
    refine d.ext dz hp fun j => ?_
    rw [ez]
    have : ∀ v, Sp p (vcs []) v → ∀ j, p ∣ v j := fun v h => by
      cases h with
      | zero z => exact z
      | add hr _ _ _ => cases hr
    exact dvd_cast (this _ h j) (by omega)
/-! sorted lists -/
theorem sorted_eq {α : Type} {le : α → α → Bool} (anti : ∀ a b, le a b = true → le b a = true → a = b) : ∀ {l m : List α}, l.Pairwise (fun a b => le a b = true) → m.Pairwise (fun a b => le a b = true) → l.Perm m → l = m
  | [], m, _, _, h => h.symm.eq_nil.symm
  | a :: l, [], _, _, h => absurd h.eq_nil (by simp)
  | a :: l, b :: m, h1, h2, h => by
    obtain ⟨a1, a2⟩ := List.pairwise_cons.mp h1
    obtain ⟨b1, b2⟩ := List.pairwise_cons.mp h2
    have e : a = b := by
      rcases List.mem_cons.mp (h.mem_iff.mp List.mem_cons_self) with q | q
      · exact q
      · rcases List.mem_cons.mp (h.mem_iff.mpr List.mem_cons_self) with z | z
        · exact z.symm
        · exact anti a b (a1 b z) (b1 a q)
    subst e
    rw [sorted_eq anti a2 b2 (List.Perm.cons_inv h)]
theorem rows_sorted {R R' : List Rw} (n1 : R.Nodup) (n2 : R'.Nodup) (h : ∀ v, v ∈ R ↔ v ∈ R') : (R.mergeSort fun a b => decide (a ≤ b)) = R'.mergeSort fun a b => decide (a ≤ b) := by
  have pm : R.Perm R' := (List.perm_ext_iff_of_nodup n1 n2).mpr h
  have tr : ∀ a b c : Rw, decide (a ≤ b) = true → decide (b ≤ c) = true → decide (a ≤ c) = true := fun a b c h1 h2 => decide_eq_true (List.le_trans (of_decide_eq_true h1) (of_decide_eq_true h2))
  have to : ∀ a b : Rw, (decide (a ≤ b) || decide (b ≤ a)) = true := fun a b => by
    rcases List.le_total a b with z | z
    · rw [decide_eq_true z, Bool.true_or]
    · rw [decide_eq_true z, Bool.or_true]
  refine sorted_eq (fun a b h1 h2 => List.le_antisymm (of_decide_eq_true h1) (of_decide_eq_true h2)) (List.pairwise_mergeSort tr to R) (List.pairwise_mergeSort tr to R') ?_
  exact (List.mergeSort_perm R _).trans (pm.trans (List.mergeSort_perm R' _).symm)
end Ma
set_option linter.all false
/-! Products of rows with columns; what rows lead to zeros; as many lines as entries. -/
namespace Ma
def sumN (f : Nat → Int) : Nat → Int
  | 0 => 0
  | n + 1 => sumN f n + f n
abbrev dotV (n : Nat) (u v : Vc) : Int := sumN (fun j => u j * v j) n
section
variable {p : Int} {n : Nat} {f g h : Nat → Int}
theorem sumN_congr : ∀ {n : Nat}, (∀ j, j < n → f j = g j) → sumN f n = sumN g n
  | 0, _ => rfl
  | n + 1, e => by
    unfold sumN
    rw [sumN_congr fun j hj => e j (by omega), e n (by omega)]
theorem dvR (k : Int) {x : Int} (h : p ∣ x) : p ∣ k * x := Int.dvd_mul_of_dvd_right h
theorem sumN_cg : ∀ {n : Nat}, (∀ j, j < n → p ∣ f j - g j) → p ∣ sumN f n - sumN g n
  | 0, _ => ⟨0, by unfold sumN; omega⟩
  | n + 1, e => dvd_cast (Int.dvd_add (sumN_cg (n := n) fun j hj => e j (by omega)) (e n (by omega))) (by show _ = (sumN f n + f n) - (sumN g n + g n); omega)
theorem sumN_lin (k : Int) : ∀ {n : Nat}, (∀ j, j < n → h j = f j + k * g j) → sumN h n = sumN f n + k * sumN g n
  | 0, _ => by unfold sumN; omega
  | n + 1, e => by
    unfold sumN
    rw [sumN_lin k fun j hj => e j (by omega), e n (by omega), Int.mul_add]
    omega
theorem sumN_zero : ∀ {n : Nat}, (∀ j, j < n → f j = 0) → sumN f n = 0
  | 0, _ => rfl
  | n + 1, e => by
    unfold sumN
    rw [sumN_zero fun j hj => e j (by omega), e n (by omega)]
    rfl
theorem sumN_one {i : Nat} : ∀ {n : Nat}, i < n → (∀ j, j < n → j ≠ i → f j = 0) → sumN f n = f i
  | 0, h, _ => by omega
  | n + 1, hi, e => by
    unfold sumN
    by_cases q : i = n
    · subst q
      rw [sumN_zero fun j hj => e j (by omega) (by omega)]
      omega
    · rw [sumN_one (i := i) (n := n) (by omega) fun j hj hne => e j (by omega) hne, e n (by omega) (by omega)]
      omega
theorem sumN_first : ∀ {n : Nat}, sumN f (n + 1) = f 0 + sumN (fun j => f (j + 1)) n
  | 0 => by unfold sumN; unfold sumN; omega
  | n + 1 => by
    rw [sumN, sumN_first (n := n)]
    show _ = f 0 + (sumN (fun j => f (j + 1)) n + f (n + 1))
    omega
theorem sumN_back : ∀ {n : Nat} {f : Nat → Int}, sumN (fun j => f (n - 1 - j)) n = sumN f n
  | 0, f => rfl
  | n + 1, f => by
    rw [sumN_first]
    have e : sumN (fun j => f (n + 1 - 1 - (j + 1))) n = sumN (fun j => f (n - 1 - j)) n := sumN_congr fun j hj => by congr 1; omega
    rw [e, sumN_back (n := n) (f := f)]
    show f (n + 1 - 1 - 0) + sumN f n = sumN f n + f n
    rw [show n + 1 - 1 - 0 = n by omega]
    omega
theorem sumN_swap {a : Nat → Nat → Int} : ∀ {m n : Nat}, sumN (fun i => sumN (fun j => a i j) n) m = sumN (fun j => sumN (fun i => a i j) m) n
  | 0, n => by
    exact (sumN_zero fun j _ => rfl).symm
  | m + 1, n => by
    show sumN (fun i => sumN (fun j => a i j) n) m + sumN (fun j => a m j) n = _
    rw [sumN_swap (m := m) (n := n)]
    have := sumN_lin (n := n) (h := fun j => sumN (fun i => a i j) (m + 1)) (f := fun j => sumN (fun i => a i j) m) (g := fun j => a m j) 1 fun j _ => by
      show sumN (fun i => a i j) m + a m j = _
      omega
    rw [this]
    omega
theorem sumN_mul {c : Int} : ∀ {n : Nat}, sumN (fun j => f j * c) n = sumN f n * c
  | 0 => by unfold sumN; omega
  | n + 1 => by
    unfold sumN
    rw [sumN_mul, Int.add_mul]
theorem sumN_mulL {c : Int} : ∀ {n : Nat}, sumN (fun j => c * f j) n = c * sumN f n
  | 0 => by unfold sumN; omega
  | n + 1 => by
    unfold sumN
    rw [sumN_mulL, Int.mul_add]
/-- what is led to zeros by some rows is by all sums of them -/
theorem dot_span {C : List Vc} {u w : Vc} (h : ∀ r ∈ C, p ∣ dotV n r w) (hu : Sp p C u) : p ∣ dotV n u w := by
  induction hu with
  | @zero v z =>
    have := sumN_cg (p := p) (n := n) (f := fun j => v j * w j) (g := fun _ => 0) fun j _ => by
      rw [Int.sub_zero]
      exact Int.dvd_mul_of_dvd_left (z j)
    rw [sumN_zero (f := fun _ => 0) fun _ _ => rfl, Int.sub_zero] at this
    exact this
  | @add v x r hr k hw e ih =>
    have l := sumN_lin (n := n) (h := fun j => (x j + k * r j) * w j) (f := fun j => x j * w j) (g := fun j => r j * w j) k fun j _ => by
      show (x j + k * r j) * w j = x j * w j + k * (r j * w j)
      rw [Int.add_mul, Int.mul_assoc]
    have c := sumN_cg (p := p) (n := n) (f := fun j => v j * w j) (g := fun j => (x j + k * r j) * w j) fun j _ => by
      rw [← Int.sub_mul]
      exact Int.dvd_mul_of_dvd_left (e j)
    have k1 : p ∣ k * dotV n r w := Int.dvd_mul_of_dvd_right (h r hr)
    rw [l] at c
    exact dvd_cast (Int.dvd_add c (Int.dvd_add ih k1)) (by show (sumN (fun j => v j * w j) n - (sumN (fun j => x j * w j) n + k * sumN (fun j => r j * w j) n)) + (sumN (fun j => x j * w j) n + k * sumN (fun j => r j * w j) n) = sumN (fun j => v j * w j) n; omega)
/-- the other side -/
theorem dot_spanR {C : List Vc} {u w : Vc} (h : ∀ r ∈ C, p ∣ dotV n u r) (hw : Sp p C w) : p ∣ dotV n u w := by
  have e : ∀ a b : Vc, dotV n a b = dotV n b a := fun a b => sumN_congr fun j _ => Int.mul_comm _ _
  rw [e]
  exact dot_span (fun r hr => by rw [e]; exact h r hr) hw
end
/-! ### columns that reduced rows lead to zeros -/
structure Free (p : Int) (n : Nat) (R : List Rw) (L : List Nat) (f : Nat) (c : Vc) : Prop where
  one : p ∣ c f - 1
  led : ∀ (i l : Nat) (b : Rw), L[i]? = some l → R[i]? = some b → p ∣ c l + e0 b f
  off : ∀ j, j < n → j ∉ L → j ≠ f → p ∣ c j
  out : ∀ j, n ≤ j → p ∣ c j
section
variable {p : Int} {n : Nat} {R : List Rw} {L : List Nat} {f : Nat} {c : Vc}
theorem Free.kills (F : Free p n R L f c) (E : RL p n R L) (hf : f < n) (hn : f ∉ L) {b : Rw} (hb : b ∈ R) : p ∣ dotV n (e0 b) c := by
  obtain ⟨i, hi, eb⟩ := List.mem_iff_getElem.mp hb
  have gb : R[i]? = some b := by rw [List.getElem?_eq_getElem hi, eb]
  have il : i < L.length := by rw [E.len]; exact hi
  have gl : L[i]? = some L[i] := List.getElem?_eq_getElem il
  have ml : L[i] ∈ L := List.getElem_mem il
  have ln := E.lt _ ml
  have ne : L[i] ≠ f := fun z => hn (z ▸ ml)
  -- only two entries count
  have c1 := sumN_cg (p := p) (n := n) (f := fun j => e0 b j * c j) (g := fun j => (if j = f then e0 b f else 0) + 1 * (if j = L[i] then c L[i] else 0)) fun j hj => by
    by_cases q1 : j = f
    · subst q1
      rw [if_pos rfl, if_neg (Ne.symm ne)]
      have := dvR (e0 b j) F.one
      refine dvd_cast this ?_
      rw [Int.mul_sub]
      omega
    · rw [if_neg q1]
      by_cases q2 : j = L[i]
      · subst q2
        rw [if_pos rfl, E.one i b _ gb gl]
        exact ⟨0, by omega⟩
      · rw [if_neg q2]
        by_cases q3 : j ∈ L
        · obtain ⟨k, hk, ek⟩ := List.mem_iff_getElem.mp q3
          have gk : L[k]? = some j := by rw [List.getElem?_eq_getElem hk, ek]
          have ki : k ≠ i := fun z => q2 (by subst z; exact ek.symm)
          rw [E.off k i b j gb gk ki]
          exact ⟨0, by omega⟩
        · refine dvd_cast (dvR (e0 b j) (F.off j hj q3 q1)) (by omega)
  have s1 : sumN (fun j => if j = f then e0 b f else 0) n = e0 b f := by
    rw [sumN_one hf fun j _ hne => by rw [if_neg hne]]
    rw [if_pos rfl]
  have s2 : sumN (fun j => if j = L[i] then c L[i] else 0) n = c L[i] := by
    rw [sumN_one ln fun j _ hne => by rw [if_neg hne]]
    rw [if_pos rfl]
  rw [sumN_lin (n := n) 1 (f := fun j => if j = f then e0 b f else 0) (g := fun j => if j = L[i] then c L[i] else 0) fun j _ => rfl, s1, s2] at c1
  exact dvd_cast (Int.dvd_add c1 (F.led i _ b gl gb)) (by show sumN (fun j => e0 b j * c j) n - (e0 b f + 1 * c L[i]) + (c L[i] + e0 b f) = sumN (fun j => e0 b j * c j) n; omega)
/-- just the sums of these are led to zeros -/
theorem ker_span (E : RL p n R L) {Cs : List Vc} (h1 : ∀ f, f < n → f ∉ L → ∃ c ∈ Cs, Free p n R L f c) (h2 : ∀ c ∈ Cs, ∃ f, f < n ∧ f ∉ L ∧ Free p n R L f c) {w : Vc} (hw : ∀ j, n ≤ j → p ∣ w j) :
    (∀ b ∈ R, p ∣ dotV n (e0 b) w) ↔ Sp p Cs w := by
  constructor
  · intro kw
    have build : ∀ k, k ≤ n → ∃ u, Sp p Cs u ∧ (∀ j, j < k → j ∉ L → p ∣ u j - w j) ∧ (∀ j, k ≤ j → j < n → j ∉ L → p ∣ u j) ∧ ∀ j, n ≤ j → p ∣ u j := by
      intro k
      induction k with
      | zero => exact fun _ => ⟨fun _ => 0, .zero fun _ => ⟨0, by omega⟩, fun j hj => absurd hj (by omega), fun _ _ _ _ => Int.dvd_zero p, fun _ _ => Int.dvd_zero p⟩
      | succ k ih =>
        intro hk
        obtain ⟨u, su, u1, u2, u3⟩ := ih (by omega)
        by_cases q : k ∈ L
        · exact ⟨u, su, fun j hj hn => u1 j (by have : j ≠ k := fun z => hn (z ▸ q); omega) hn, fun j h1 h2 h3 => u2 j (by omega) h2 h3, u3⟩
        · obtain ⟨c, hc, F⟩ := h1 k (by omega) q
          refine ⟨fun j => u j + w k * c j, Sp.sum su (.mem hc) (w k) fun j => ⟨0, by omega⟩, fun j hj hn => ?_, fun j a1 a2 a3 => ?_, fun j hj => ?_⟩
          · by_cases e : j = k
            · subst e
              have z1 := u2 j (by omega) (by omega) hn
              have z2 := dvR (w j) F.one
              refine dvd_cast (Int.dvd_add z1 z2) ?_
              show u j + w j * (c j - 1) = (u j + w j * c j) - w j
              rw [Int.mul_sub]
              omega
            · have z1 := u1 j (by omega) hn
              have z2 := dvR (w k) (F.off j (by omega) hn e)
              exact dvd_cast (Int.dvd_add z1 z2) (by show _ = (u j + w k * c j) - w j; omega)
          · exact Int.dvd_add (u2 j (by omega) a2 a3) (Int.dvd_mul_of_dvd_right (F.off j a2 a3 (by omega)))
          · exact Int.dvd_add (u3 j hj) (Int.dvd_mul_of_dvd_right (F.out j hj))
    obtain ⟨u, su, u1, _, u3⟩ := build n (Nat.le_refl _)
    have ku : ∀ b ∈ R, p ∣ dotV n (e0 b) u := fun b hb => dot_spanR (fun c hc => by
      obtain ⟨f, a1, a2, F⟩ := h2 c hc
      exact F.kills E a1 a2 hb) su
    refine su.cg fun j => ?_
    by_cases hj : j < n
    · by_cases q : j ∈ L
      · obtain ⟨i, hi, ei⟩ := List.mem_iff_getElem.mp q
        have gl : L[i]? = some j := by rw [List.getElem?_eq_getElem hi, ei]
        have ib : i < R.length := by rw [← E.len]; exact hi
        have gb : R[i]? = some R[i] := List.getElem?_eq_getElem ib
        have mb : R[i] ∈ R := List.getElem_mem ib
        have l := sumN_lin (n := n) (h := fun x => e0 R[i] x * (w x - u x)) (f := fun x => e0 R[i] x * w x) (g := fun x => e0 R[i] x * u x) (-1) fun x _ => by
          show e0 R[i] x * (w x - u x) = e0 R[i] x * w x + -1 * (e0 R[i] x * u x)
          rw [Int.mul_sub]
          omega
        have one := sumN_cg (p := p) (n := n) (f := fun x => e0 R[i] x * (w x - u x)) (g := fun x => if x = j then w j - u j else 0) fun x hx => by
          by_cases e : x = j
          · subst e
            rw [if_pos rfl, E.one i _ _ gb gl]
            exact ⟨0, by omega⟩
          · rw [if_neg e]
            by_cases qx : x ∈ L
            · obtain ⟨k, hk, ek⟩ := List.mem_iff_getElem.mp qx
              have gk : L[k]? = some x := by rw [List.getElem?_eq_getElem hk, ek]
              have ki : k ≠ i := fun z => e (by subst z; rw [← ei]; exact ek.symm)
              rw [E.off k i _ x gb gk ki]
              exact ⟨0, by omega⟩
            · have z := u1 x hx qx
              have := dvR (- e0 R[i] x) z
              refine dvd_cast this ?_
              rw [Int.neg_mul, Int.mul_sub, Int.mul_sub]
              omega
        rw [sumN_one hj (f := fun x => if x = j then w j - u j else 0) (fun x _ hne => by rw [if_neg hne]), if_pos rfl, l] at one
        have a1 := kw _ mb
        have a2 := ku _ mb
        have a3 : p ∣ dotV n (e0 R[i]) w + -1 * dotV n (e0 R[i]) u := Int.dvd_add a1 (Int.dvd_mul_of_dvd_right a2)
        have := Int.dvd_sub a3 one
        refine dvd_cast this ?_
        show dotV n (e0 R[i]) w + -1 * dotV n (e0 R[i]) u - (dotV n (e0 R[i]) w + -1 * dotV n (e0 R[i]) u - (w j - u j)) = w j - u j
        omega
      · exact dvd_cast (Int.dvd_neg.mpr (u1 j hj q)) (by omega)
    · exact Int.dvd_sub (hw j (by omega)) (u3 j (by omega))
  · intro sw b hb
    exact dot_spanR (fun c hc => by
      obtain ⟨f, a1, a2, F⟩ := h2 c hc
      exact F.kills E a1 a2 hb) sw
end
end Ma
set_option linter.all false
/-! There is a reduced basis of at most as many rows; lines and entries have one rank. -/
namespace Ma
section
variable {p : Int} {n : Nat} {C : List Rw}
theorem red_ex (hp : 1 < p) (inv : ∀ x : Int, 0 < x → x < p → ∃ k : Int, 1 ≤ k ∧ k < p ∧ (k * x) % p = 1) (dC : ∀ r ∈ C, Dom p n r) : ∃ B L, RL p n B L ∧ Same p C B ∧ B.length ≤ C.length := by
  have go : ∀ c, c ≤ n → ∃ F L, El p n c C F L ∧ F.length = C.length := by
    intro c
    induction c with
    | zero => exact fun _ => ⟨C, [], .init dC, rfl⟩
    | succ c ih =>
      intro hc
      obtain ⟨F, L, e, fl⟩ := ih (by omega)
      by_cases q : ∃ k b, L.length ≤ k ∧ F[k]? = some b ∧ e0 b c ≠ 0
      · obtain ⟨k, Q, hk, eQ, nz⟩ := q
        have dQ := e.dom Q (List.mem_of_getElem? eQ)
        have aQ := dQ.at (by omega) c
        obtain ⟨u, _, _, hu⟩ := inv (e0 Q c) (by omega) aQ.2
        have kl : k < F.length := by obtain ⟨z, _⟩ := List.getElem?_eq_some_iff.mp eQ; exact z
        refine ⟨((F.set k F[L.length]).set L.length (mulL p u Q)).mapIdx fun i b => if i ≠ L.length ∧ e0 b c ≠ 0 then offL p (e0 b c) b (mulL p u Q) else b, L ++ [c], e.pivot hp (by omega) hk eQ (List.getElem?_eq_getElem (by omega)) hu ?_ fun i b hb => ?_, ?_⟩
        · simp
        · rw [List.getElem?_mapIdx, hb]
          rfl
        · simp [fl]
      · exact ⟨F, L, e.skip fun k b h1 h2 => Classical.byContradiction fun z => q ⟨k, b, h1, h2, z⟩, fl⟩
  obtain ⟨F, L, e, fl⟩ := go n (Nat.le_refl _)
  obtain ⟨r1, r2⟩ := e.done
  exact ⟨_, _, r1, r2, by rw [List.length_take]; have := e.le; omega⟩
theorem asc_sub : ∀ {L L' : List Nat}, L.Pairwise (· < ·) → (∀ l ∈ L, l ∈ L') → L.length ≤ L'.length
  | [], _, _, _ => Nat.zero_le _
  | a :: L, L', h, s => by
    obtain ⟨h1, h2⟩ := List.pairwise_cons.mp h
    have := asc_sub (L' := L'.erase a) h2 fun l hl => by
      have := h1 l hl
      exact (List.mem_erase_of_ne (by omega)).mpr (s l (List.mem_cons_of_mem _ hl))
    have m := s a List.mem_cons_self
    have := List.length_erase_of_mem m
    have := List.length_pos_of_mem m
    simp only [List.length_cons]
    omega
theorem few_of {B : List Rw} {L : List Nat} (hp : 1 < p) (inv : ∀ x : Int, 0 < x → x < p → ∃ k : Int, 1 ≤ k ∧ k < p ∧ (k * x) % p = 1) (dC : ∀ r ∈ C, Dom p n r) (R : RL p n B L) (h : ∀ v ∈ vcs B, Sp p (vcs C) v) : B.length ≤ C.length := by
  obtain ⟨B', L', R', s, le⟩ := red_ex hp inv dC
  have n1 : ¬ p ∣ 1 := fun z => by
    have := Int.le_of_dvd (by omega) z
    omega
  have := asc_sub R.asc (R'.rb.leads_le R.rb n1 fun r hr => (h r hr).le s.le)
  rw [R.len, R'.len] at this
  omega
end
/-! columns of a table -/
def cols (T : List Rw) (n : Nat) : List Rw := (List.range n).map fun j => T.map fun r => e0 r j
theorem cols_len {T : List Rw} {n : Nat} : (cols T n).length = n := by unfold cols; simp
theorem cols_get {T : List Rw} {n j : Nat} (h : j < n) : (cols T n)[j]? = some (T.map fun r => e0 r j) := by
  unfold cols
  rw [List.getElem?_map, List.getElem?_range h]
  rfl
theorem e0_map {T : List Rw} {g : Rw → Int} {i : Nat} {r : Rw} (h : T[i]? = some r) : e0 (T.map g) i = g r := e0_get (by rw [List.getElem?_map, h]; rfl)
theorem cols_at {T : List Rw} {n i j : Nat} {c r : Rw} (h : (cols T n)[j]? = some c) (hr : T[i]? = some r) : e0 c i = e0 r j := by
  have hj : j < n := by obtain ⟨z, _⟩ := List.getElem?_eq_some_iff.mp h; rw [cols_len] at z; exact z
  rw [cols_get hj] at h
  cases h
  exact e0_map hr
section
variable {p : Int} {n m : Nat} {T : List Rw}
theorem cols_dom (hp : 0 < p) (dT : ∀ r ∈ T, Dom p n r) (ht : T.length = m) : ∀ c ∈ cols T n, Dom p m c := fun c hc => by
  unfold cols at hc
  obtain ⟨j, hj, rfl⟩ := List.mem_map.mp hc
  refine ⟨by rw [List.length_map, ht], fun x hx => ?_⟩
  obtain ⟨r, hr, rfl⟩ := List.mem_map.mp hx
  exact (dT r hr).at hp j
theorem comb_sp : ∀ {cs : List Int} {bs : List Vc} {D : List Vc}, (∀ b ∈ bs, b ∈ D) → Sp p D (comb cs bs)
  | [], _, _, _ => .zero fun _ => by unfold comb; exact Int.dvd_zero p
  | _ :: _, [], _, _ => .zero fun _ => by unfold comb; exact Int.dvd_zero p
  | c :: cs, b :: bs, D, h => by
    refine Sp.sum (comb_sp (cs := cs) (bs := bs) fun x hx => h x (List.mem_cons_of_mem _ hx)) (.mem (h b List.mem_cons_self)) c fun j => ?_
    show p ∣ (c * b j + comb cs bs j) - (comb cs bs j + c * b j)
    exact ⟨0, by omega⟩
theorem comb_flip (r : Vc) (j i : Nat) (g : Nat → Vc) : ∀ (L : List Nat) (R : List Rw), (∀ l ∈ L, g l i = r l) → comb (L.map r) (vcs R) j = comb (R.map fun b => e0 b j) (L.map g) i
  | [], [], _ => rfl
  | [], _ :: _, _ => rfl
  | _ :: _, [], _ => rfl
  | l :: L, b :: R, h => by
    show r l * e0 b j + comb (L.map r) (vcs R) j = e0 b j * g l i + comb (R.map fun b => e0 b j) (L.map g) i
    rw [comb_flip r j i g L R fun l hl => h l (List.mem_cons_of_mem _ hl), h l List.mem_cons_self, Int.mul_comm]
/-- the columns are sums of as many as there are reduced rows -/
theorem rank_le (hp : 1 < p) (inv : ∀ x : Int, 0 < x → x < p → ∃ k : Int, 1 ≤ k ∧ k < p ∧ (k * x) % p = 1) (dT : ∀ r ∈ T, Dom p n r) (ht : T.length = m) {R I : List Rw} {L J : List Nat} (E : RL p n R L) (s : Same p T R) (EI : RL p m I J) (sI : ∀ v ∈ vcs I, Sp p (vcs (cols T n)) v) : I.length ≤ R.length := by
  have dA : ∀ a ∈ L.map fun l => T.map fun r => e0 r l, Dom p m a := fun a ha => by
    obtain ⟨l, hl, rfl⟩ := List.mem_map.mp ha
    refine ⟨by rw [List.length_map, ht], fun x hx => ?_⟩
    obtain ⟨r, hr, rfl⟩ := List.mem_map.mp hx
    exact (dT r hr).at (by omega) l
  have := few_of (C := L.map fun l => T.map fun r => e0 r l) hp inv dA EI fun v hv => (sI v hv).le fun c hc => by
    obtain ⟨j, c, hj, rfl⟩ := of_vcs hc
    have jn : j < n := by obtain ⟨z, _⟩ := List.getElem?_eq_some_iff.mp hj; rw [cols_len] at z; exact z
    refine (comb_sp (p := p) (cs := R.map fun b => e0 b j) (bs := vcs (L.map fun l => T.map fun r => e0 r l)) fun b h => h).cg fun i => ?_
    by_cases hi : i < m
    · have gi : T[i]? = some T[i] := List.getElem?_eq_getElem (by omega)
      rw [cols_at hj gi]
      have told := E.rb.told (s.le _ (vcs_mem gi)) j
      have fl := comb_flip (e0 T[i]) j i (fun l => e0 (T.map fun r => e0 r l)) L R fun l _ => e0_map gi
      rw [fl] at told
      have ev : vcs (L.map fun l => T.map fun r => e0 r l) = L.map fun l => e0 (T.map fun r => e0 r l) := by unfold vcs; rw [List.map_map]; rfl
      rw [ev]
      exact told
    · have z1 : e0 c i = 0 := e0_ge (by
        have := (cols_dom (by omega) dT ht c (List.mem_of_getElem? hj)).len
        omega)
      rw [z1]
      have z2 : p ∣ comb (R.map fun b => e0 b j) (vcs (L.map fun l => T.map fun r => e0 r l)) i := comb_off fun k x b _ hb => by
        obtain ⟨a, ha, rfl⟩ := vcs_get hb
        have : e0 a i = 0 := e0_ge (by have := (dA a (List.mem_of_getElem? ha)).len; omega)
        rw [this, Int.mul_zero]
        exact Int.dvd_zero p
      exact Int.dvd_sub (Int.dvd_zero p) z2
  rw [List.length_map, E.len] at this
  exact this
theorem cols_cols (dT : ∀ r ∈ T, Dom p n r) (ht : T.length = m) : cols (cols T n) m = T := by
  apply List.ext_getElem (by rw [cols_len, ht])
  intro i h1 h2
  have gi : T[i]? = some T[i] := List.getElem?_eq_getElem h2
  have e : (cols (cols T n) m)[i]? = some ((cols T n).map fun c => e0 c i) := cols_get (by omega)
  rw [List.getElem?_eq_getElem h1] at e
  have e := Option.some.inj e
  rw [e]
  have dl := (dT _ (List.getElem_mem h2)).len
  apply List.ext_getElem (by rw [List.length_map, cols_len, dl])
  intro j a1 a2
  rw [List.getElem_map]
  have jn : j < (cols T n).length := by rw [cols_len]; omega
  have gj : (cols T n)[j]? = some (cols T n)[j] := List.getElem?_eq_getElem jn
  rw [cols_at gj gi, e0_lt a2]
theorem rank_eq (hp : 1 < p) (inv : ∀ x : Int, 0 < x → x < p → ∃ k : Int, 1 ≤ k ∧ k < p ∧ (k * x) % p = 1) (dT : ∀ r ∈ T, Dom p n r) (ht : T.length = m) {R I : List Rw} {L J : List Nat} (E : RL p n R L) (s : Same p T R) (EI : RL p m I J) (sI : Same p (cols T n) I) : I.length = R.length := by
  refine Nat.le_antisymm (rank_le hp inv dT ht E s EI sI.ge) ?_
  refine rank_le (T := cols T n) (n := m) (m := n) hp inv (cols_dom (by omega) dT ht) cols_len EI sI E ?_
  rw [cols_cols dT ht]
  exact s.ge
end
end Ma
set_option linter.all false
set_option maxRecDepth 100000
namespace Mi
open PySem PySem.Spec L2
/-- a def that writes its first argument -/
def RetM (F : FF) (m : D) (ds : List D) (d m' : D) : Prop := ∃ ys, F (m :: ds) = some (d, some m' :: ys) ∧ ds.length ≤ ys.length
section
variable {s s1 s2 : SD} {f g : FE} {d m m' : D}
theorem runF_m {n : Nat} {g : FS} {ds : List D} {ys : SD} (h : g (st0 n (m :: ds)) = some (.rt d (some m' :: ys))) (hl : ds.length ≤ ys.length) : RetM (runF n g) m ds d m' := ⟨ys, by unfold runF; rw [h]; rfl, hl⟩
theorem v_ow {F : FF} {k : Nat} (fs : List FE) {ds : List D} {m0 : D} (h0 : s[k]? = some (some m0)) (h : (fs.foldr aCons aNil) s = some (ds, s1)) (hl : ds.length = fs.length) (h1 : s1[k]? = some (some m)) (r : RetM F m ds d m') : eCall F (.ow k :: fs.map .sh) s = some (d, s1.set k (some m')) := by
  obtain ⟨ys, h2, h3⟩ := r
  unfold eCall
  have e1 : a1 (.ow k :: fs.map .sh) s = some (none :: ds.map some, s1) := by
    show ((eVar k s).bind _) = _
    rw [v_at h0]
    show ((a1 (fs.map AK.sh) s).map _) = _
    rw [a1_sh ⟨_, rfl, h⟩]
    rfl
  rw [e1]
  show ((a2 (.ow k :: fs.map .sh) (none :: ds.map some) s1).bind _) = _
  have e2 : a2 (.ow k :: fs.map .sh) (none :: ds.map some) s1 = some (m :: ds) := by
    show ((eVar k s1).bind _) = _
    rw [v_at h1]
    show ((a2 (fs.map AK.sh) (ds.map some) s1).map _) = _
    rw [a2_sh hl]
    rfl
  rw [e2]
  show ((F (m :: ds)).bind _) = _
  rw [h2]
  show ((a3 (fs.map .sh) ys (s1.set k (some m'))).map _) = _
  rw [a3_sh (by omega)]
  rfl
/-- comprehensions whose item writes -/
theorem lc_run {i : Nat} {fe : FE} {Y : D → Prop} (I : Nat → SD → Prop) : ∀ {items : List D} {s : SD} {acc : List D} {k : Nat}, I k s → (∀ (j : Nat) (d : D) (s : SD), items[j]? = some d → I (k + j) s → ∃ y s2, fe (s.set i (some d)) = some (y, s2) ∧ Y y ∧ I (k + j + 1) (s2.set i none)) →
    ∃ ys s', lcGo (gNm i) tYs fe [i] items s acc = some (acc ++ ys, s') ∧ ys.length = items.length ∧ (∀ y ∈ ys, Y y) ∧ I (k + items.length) s'
  | [], s, acc, k, h0, _ => ⟨[], s, by simp [lcGo], rfl, fun y hy => (nomatch hy), h0⟩
  | d :: items, s, acc, k, h0, st => by
    obtain ⟨y, s2, e1, e2, e3⟩ := st 0 d s rfl h0
    obtain ⟨ys, s', q1, q2, q3, q4⟩ := lc_run I (items := items) (s := s2.set i none) (acc := acc ++ [y]) (k := k + 1) e3 fun j d s hj hI => by
      have := st (j + 1) d s (by simpa using hj) (by rw [show k + (j + 1) = k + 1 + j by omega]; exact hI)
      rw [show k + (j + 1) + 1 = k + 1 + j + 1 by omega] at this
      exact this
    refine ⟨y :: ys, s', ?_, by rw [List.length_cons, List.length_cons, q2], fun z hz => ?_, by rw [List.length_cons, show k + (items.length + 1) = k + 1 + items.length by omega]; exact q4⟩
    · unfold lcGo
      show ((fe (s.set i (some d))).bind _) = _
      rw [e1]
      show lcGo (gNm i) tYs fe [i] items (s2.set i none) (acc ++ [y]) = _
      rw [q1, List.append_assoc]
      rfl
    · rcases List.mem_cons.mp hz with rfl | hz
      · exact e2
      · exact q3 z hz
theorem v_lcR {i : Nat} {fi : FA} {fe : FE} {Y : D → Prop} {items : List D} (I : Nat → SD → Prop) (hi : fi s = some (items, s1)) (h0 : I 0 (s1.set i none)) (st : ∀ (j : Nat) (d : D) (s : SD), items[j]? = some d → I j s → ∃ y s2, fe (s.set i (some d)) = some (y, s2) ∧ Y y ∧ I (j + 1) (s2.set i none)) :
    ∃ ys s', eLc fi (gNm i) tYs fe [i] s = some (.list ys, s'.set i (s1[i]?.getD none)) ∧ ys.length = items.length ∧ (∀ y ∈ ys, Y y) ∧ I items.length s' := by
  obtain ⟨ys, s', q1, q2, q3, q4⟩ := lc_run (i := i) (fe := fe) (Y := Y) I (items := items) (s := s1.set i none) (acc := []) (k := 0) h0 fun j d s hj hI => by
    rw [Nat.zero_add] at hI ⊢
    exact st j d s hj hI
  refine ⟨ys, s', ?_, q2, q3, by rw [Nat.zero_add] at q4; exact q4⟩
  unfold eLc
  rw [hi]
  show ((lcGo (gNm i) tYs fe [i] items (s1.set i none) []).map _) = _
  rw [q1]
  rfl
end
end Mi
set_option linter.all false
set_option maxRecDepth 100000
namespace Pf
open PySem PySem.Spec L2 Mi Ma
abbrev mL (a b : Int) (cs : List Int) (c : Nat) : List (D × D) := [(.str "left", .int a), (.str "seed", .int b), (.str "cells", .list (cs.map .int)), (.str "spot", .int (c : Int))]
abbrev mD (a b : Int) (cs : List Int) (c : Nat) : D := .dict (mL a b cs c)
theorem look_left (x y z w : D) : lookD [(.str "left", x), (.str "seed", y), (.str "cells", z), (.str "spot", w)] (.str "left") = some x := by rfl
theorem look_seed (x y z w : D) : lookD [(.str "left", x), (.str "seed", y), (.str "cells", z), (.str "spot", w)] (.str "seed") = some y := by rfl
theorem look_cells (x y z w : D) : lookD [(.str "left", x), (.str "seed", y), (.str "cells", z), (.str "spot", w)] (.str "cells") = some z := by rfl
theorem look_spot (x y z w : D) : lookD [(.str "left", x), (.str "seed", y), (.str "cells", z), (.str "spot", w)] (.str "spot") = some w := by rfl
theorem put_left (x y z w v : D) : putD [(.str "left", x), (.str "seed", y), (.str "cells", z), (.str "spot", w)] (.str "left") v = [(.str "left", v), (.str "seed", y), (.str "cells", z), (.str "spot", w)] := by rfl
theorem put_spot (x y z w v : D) : putD [(.str "left", x), (.str "seed", y), (.str "cells", z), (.str "spot", w)] (.str "spot") v = [(.str "left", x), (.str "seed", y), (.str "cells", z), (.str "spot", v)] := by rfl
theorem eDi_m {s : SD} {k : Nat} {x y z w : D} (h : s[k]? = some (some (.dict [(.str "left", x), (.str "seed", y), (.str "cells", z), (.str "spot", w)]))) : eDi k s = some [(.str "left", x), (.str "seed", y), (.str "cells", z), (.str "spot", w)] := by unfold eDi; rw [h]
theorem v_dg {s : SD} {k : Nat} {key : Str} {l : List (D × D)} {d : D} (h : eDi k s = some l) (h2 : lookD l (.str key) = some d) : eDG k (eC (.str key)) s = some (d, s) := by
  unfold eDG
  rw [h]
  show ((eDi k s).bind _) = _
  rw [h]
  show ((lookD l (.str key)).map _) = _
  rw [h2]
  rfl
theorem v_dp {s s1 : SD} {k : Nat} {key : Str} {l l2 : List (D × D)} {f : FE} {d : D} (h1 : f s = some (d, s1)) (h : eDi k s1 = some l) (h2 : putD l (.str key) d = l2) (h3 : l.length < 1000000) : sDP k f (eC (.str key)) s = some (.nx (s1.set k (some (.dict l2)))) := by
  unfold sDP
  rw [h1]
  show ((eDi k s1).bind _) = _
  rw [h]
  show ((eDi k s1).bind _) = _
  rw [h]
  show (if l.length < 1000000 then _ else _) = _
  rw [if_pos h3, h2]
theorem dDiv_p {a b : Int} (h : 0 < b) (h2 : b < 1073741824) : dDiv (.int a) (.int b) = some (.int (a / b)) := by
  show (if okDiv a b then some (PyData.int (a.fdiv b)) else none) = _
  rw [if_pos (by unfold okDiv; rw [decide_eq_true (by omega), decide_eq_true (by omega)]; rfl), Int.fdiv_eq_ediv_of_nonneg _ (by omega)]
theorem e_draw {a b bound : Int} {cs : List Int} {c : Nat} (h0 : 0 < bound) (h1 : bound < 1073741824) (hc : cs ≠ []) (hs : c < 1099511627776) :
    ∃ v a' c', RetM F__law_draw (mD a b cs c) [.int bound] (.int v) (mD a' b cs c') ∧ 0 ≤ v ∧ v < bound ∧ c' ≤ c + 1 := by
  by_cases pos : 0 < a
  · refine ⟨a % bound, a / bound, c, runF_m (ys := [some (.int bound), some (.int (a % bound)), none, none, none, none, none]) ?_ (by simp), Int.emod_nonneg _ (by omega), Int.emod_lt_of_pos _ h0, by omega⟩
    show g__law_draw [some (mD a b cs c), some (.int bound), none, none, none, none, none, none] = _
    unfold g__law_draw
    have gt : dGt (.int a) (.int 0) = some (.bool true) := by show some (PyData.bool (decide (0 < a))) = _; rw [decide_eq_true pos]
    refine v_end (o := .rt (.int (a % bound)) [some (mD (a / bound) b cs c), some (.int bound), some (.int (a % bound)), none, none, none, none, none]) ?_ (fun s' z => nomatch z)
    refine (v_sif (x := true) (v_tst (v_bin (v_dg (eDi_m rfl) (look_left ..)) rfl gt))).trans ?_
    have el : eDG 0 (eC (.str "left")) [some (mD a b cs c), some (.int bound), none, none, none, none, none, none] = some (.int a, [some (mD a b cs c), some (.int bound), none, none, none, none, none, none]) := v_dg (eDi_m rfl) (look_left ..)
    refine (v_nx (v_set (d := .int (a % bound)) (v_bin (v_c1 el rfl) (v_at rfl) (dMod_p h0)))).trans ?_
    have el2 : eDG 0 (eC (.str "left")) [some (mD a b cs c), some (.int bound), some (.int (a % bound)), none, none, none, none, none] = some (.int a, [some (mD a b cs c), some (.int bound), some (.int (a % bound)), none, none, none, none, none]) := v_dg (eDi_m rfl) (look_left ..)
    refine (v_nx (v_dp (d := .int (a / bound)) (v_bin el2 (v_at rfl) (dDiv_p h0 h1)) (eDi_m rfl) (put_left ..) (by simp))).trans ?_
    exact v_rt (v_at rfl)
  · have ln : 0 < cs.length := List.length_pos_iff.mpr hc
    have ix : (c % cs.length) < cs.length := Nat.mod_lt _ ln
    let cell := cs[c % cs.length]
    have s0 : ((40503 * (c : Int)) * c) = 40503 * (c : Int) * c := rfl
    let b1 : Int := (cell * (2 * c + 3) + (b + 40503 * c * c)) % 2147483647
    let b2 : Int := (b1 * b1 + 69621 * c + b) % 2147483629
    let v : Int := (b2 * 48271 + c) % 2147483647 / 11 % bound
    have r1 : 0 ≤ b1 ∧ b1 < 2147483647 := ⟨Int.emod_nonneg _ (by omega), Int.emod_lt_of_pos _ (by omega)⟩
    have r2 : 0 ≤ b2 ∧ b2 < 2147483629 := ⟨Int.emod_nonneg _ (by omega), Int.emod_lt_of_pos _ (by omega)⟩
    refine ⟨v, a, c + 1, runF_m (ys := [some (.int bound), none, some (.int (c : Int)), some (.list (cs.map .int)), some (.int (b + 40503 * c * c)), some (.int cell), some (.int b2)]) ?_ (by simp), Int.emod_nonneg _ (by omega), Int.emod_lt_of_pos _ h0, by omega⟩
    show g__law_draw [some (mD a b cs c), some (.int bound), none, none, none, none, none, none] = _
    unfold g__law_draw
    have gt : dGt (.int a) (.int 0) = some (.bool false) := by show some (PyData.bool (decide (0 < a))) = _; rw [decide_eq_false pos]
    have cp : dPlus (.int (c : Int)) (.int 1) = some (.int ((c + 1 : Nat) : Int)) := by show some (PyData.int ((c : Int) + 1)) = _; rw [Int.natCast_add]; rfl
    have cm : dMod (.int (c : Int)) (.int (cs.length : Int)) = some (.int ((c % cs.length : Nat) : Int)) := by rw [dMod_p (by omega), Int.natCast_emod]
    have ixc : dIx (.list (cs.map .int)) (.int ((c % cs.length : Nat) : Int)) = some (.int cell) := ix_nat (by rw [List.getElem?_map, List.getElem?_eq_getElem ix]; rfl)
    refine (v_nx ((v_sif (x := false) (v_tst (v_bin (v_dg (eDi_m rfl) (look_left ..)) rfl gt))).trans rfl)).trans ?_
    refine (v_nx (v_set (v_dg (eDi_m rfl) (look_spot ..)))).trans ?_
    refine (v_nx (v_dp (v_bin (v_at rfl) rfl cp) (eDi_m rfl) (put_spot ..) (by simp))).trans ?_
    refine (v_nx (v_par (v_dg (eDi_m rfl) (look_cells ..)) (v_bin (v_dg (eDi_m rfl) (look_seed ..)) (v_bin (v_bin rfl (v_at rfl) (dMul_l (a := 40503) (by decide))) (v_at rfl) (dMul_r (b := (c : Int)) (by omega))) rfl))).trans ?_
    have elen : eCall1 cLen (eVar 4) [some (mD a b cs (c + 1)), some (.int bound), none, some (.int (c : Int)), some (.list (cs.map .int)), some (.int (b + 40503 * c * c)), none, none] = some (.int (cs.length : Int), [some (mD a b cs (c + 1)), some (.int bound), none, some (.int (c : Int)), some (.list (cs.map .int)), some (.int (b + 40503 * c * c)), none, none]) :=
      v_c1 (v_at rfl) (by show some (PyData.int ((cs.map PyData.int).length : Int)) = _; rw [List.length_map])
    have emod : eBin dMod (eCall1 cInt (eVar 3)) (eCall1 cLen (eVar 4)) [some (mD a b cs (c + 1)), some (.int bound), none, some (.int (c : Int)), some (.list (cs.map .int)), some (.int (b + 40503 * c * c)), none, none] = some (.int ((c % cs.length : Nat) : Int), [some (mD a b cs (c + 1)), some (.int bound), none, some (.int (c : Int)), some (.list (cs.map .int)), some (.int (b + 40503 * c * c)), none, none]) := v_bin (a := .int (c : Int)) (v_c1 (v_at rfl) rfl) elen cm
    have ecell : eBin dIx (eVar 4) (eBin dMod (eCall1 cInt (eVar 3)) (eCall1 cLen (eVar 4))) [some (mD a b cs (c + 1)), some (.int bound), none, some (.int (c : Int)), some (.list (cs.map .int)), some (.int (b + 40503 * c * c)), none, none] = some (.int cell, [some (mD a b cs (c + 1)), some (.int bound), none, some (.int (c : Int)), some (.list (cs.map .int)), some (.int (b + 40503 * c * c)), none, none]) := v_bin (v_at rfl) emod ixc
    refine (v_nx (v_set (d := .int cell) ecell)).trans ?_
    have m1 : eBin dMul (eVar 6) (eBin dPlus (eBin dMul (eC (.int 2)) (eVar 3)) (eC (.int 3))) [some (mD a b cs (c + 1)), some (.int bound), none, some (.int (c : Int)), some (.list (cs.map .int)), some (.int (b + 40503 * c * c)), some (.int cell), none] = some (.int (cell * (2 * c + 3)), [some (mD a b cs (c + 1)), some (.int bound), none, some (.int (c : Int)), some (.list (cs.map .int)), some (.int (b + 40503 * c * c)), some (.int cell), none]) := v_bin (v_at rfl) (v_bin (v_bin rfl (v_at rfl) (dMul_l (a := 2) (by decide))) rfl rfl) (dMul_r (b := 2 * (c : Int) + 3) (by omega))
    have m2 : eBin dMod (eCall1 cInt (eBin dPlus (eBin dMul (eVar 6) (eBin dPlus (eBin dMul (eC (.int 2)) (eVar 3)) (eC (.int 3)))) (eVar 5))) (eC (.int 2147483647)) [some (mD a b cs (c + 1)), some (.int bound), none, some (.int (c : Int)), some (.list (cs.map .int)), some (.int (b + 40503 * c * c)), some (.int cell), none] = some (.int b1, [some (mD a b cs (c + 1)), some (.int bound), none, some (.int (c : Int)), some (.list (cs.map .int)), some (.int (b + 40503 * c * c)), some (.int cell), none]) := v_bin (a := .int (cell * (2 * c + 3) + (b + 40503 * c * c))) (b := .int 2147483647) (v_c1 (v_bin m1 (v_at rfl) rfl) rfl) rfl (dMod_p (by omega))
    refine (v_nx (v_set m2)).trans ?_
    have n1 : eBin dMul (eVar 7) (eVar 7) [some (mD a b cs (c + 1)), some (.int bound), none, some (.int (c : Int)), some (.list (cs.map .int)), some (.int (b + 40503 * c * c)), some (.int cell), some (.int b1)] = some (.int (b1 * b1), [some (mD a b cs (c + 1)), some (.int bound), none, some (.int (c : Int)), some (.list (cs.map .int)), some (.int (b + 40503 * c * c)), some (.int cell), some (.int b1)]) := v_bin (v_at rfl) (v_at rfl) (dMul_r (b := b1) (by omega))
    have n2 : eBin dMul (eC (.int 69621)) (eVar 3) [some (mD a b cs (c + 1)), some (.int bound), none, some (.int (c : Int)), some (.list (cs.map .int)), some (.int (b + 40503 * c * c)), some (.int cell), some (.int b1)] = some (.int (69621 * c), [some (mD a b cs (c + 1)), some (.int bound), none, some (.int (c : Int)), some (.list (cs.map .int)), some (.int (b + 40503 * c * c)), some (.int cell), some (.int b1)]) := v_bin rfl (v_at rfl) (dMul_l (a := 69621) (by decide))
    have n3 : eDG 0 (eC (.str "seed")) [some (mD a b cs (c + 1)), some (.int bound), none, some (.int (c : Int)), some (.list (cs.map .int)), some (.int (b + 40503 * c * c)), some (.int cell), some (.int b1)] = some (.int b, [some (mD a b cs (c + 1)), some (.int bound), none, some (.int (c : Int)), some (.list (cs.map .int)), some (.int (b + 40503 * c * c)), some (.int cell), some (.int b1)]) := v_dg (eDi_m rfl) (look_seed ..)
    have n4 : eBin dMod (eCall1 cInt (eBin dPlus (eBin dPlus (eBin dMul (eVar 7) (eVar 7)) (eBin dMul (eC (.int 69621)) (eVar 3))) (eDG 0 (eC (.str "seed"))))) (eC (.int 2147483629)) [some (mD a b cs (c + 1)), some (.int bound), none, some (.int (c : Int)), some (.list (cs.map .int)), some (.int (b + 40503 * c * c)), some (.int cell), some (.int b1)] = some (.int b2, [some (mD a b cs (c + 1)), some (.int bound), none, some (.int (c : Int)), some (.list (cs.map .int)), some (.int (b + 40503 * c * c)), some (.int cell), some (.int b1)]) := v_bin (a := .int (b1 * b1 + 69621 * c + b)) (b := .int 2147483629) (v_c1 (v_bin (v_bin n1 n2 rfl) n3 rfl) rfl) rfl (dMod_p (by omega))
    refine (v_nx (v_set n4)).trans ?_
    have k1 : eBin dMul (eVar 7) (eC (.int 48271)) [some (mD a b cs (c + 1)), some (.int bound), none, some (.int (c : Int)), some (.list (cs.map .int)), some (.int (b + 40503 * c * c)), some (.int cell), some (.int b2)] = some (.int (b2 * 48271), [some (mD a b cs (c + 1)), some (.int bound), none, some (.int (c : Int)), some (.list (cs.map .int)), some (.int (b + 40503 * c * c)), some (.int cell), some (.int b2)]) := v_bin (v_at rfl) rfl (dMul_r (b := 48271) (by decide))
    have k2 : eBin dMod (eCall1 cInt (eBin dPlus (eBin dMul (eVar 7) (eC (.int 48271))) (eVar 3))) (eC (.int 2147483647)) [some (mD a b cs (c + 1)), some (.int bound), none, some (.int (c : Int)), some (.list (cs.map .int)), some (.int (b + 40503 * c * c)), some (.int cell), some (.int b2)] = some (.int ((b2 * 48271 + c) % 2147483647), [some (mD a b cs (c + 1)), some (.int bound), none, some (.int (c : Int)), some (.list (cs.map .int)), some (.int (b + 40503 * c * c)), some (.int cell), some (.int b2)]) := v_bin (a := .int (b2 * 48271 + c)) (b := .int 2147483647) (v_c1 (v_bin k1 (v_at rfl) rfl) rfl) rfl (dMod_p (by omega))
    have k3 : eBin dDiv (eBin dMod (eCall1 cInt (eBin dPlus (eBin dMul (eVar 7) (eC (.int 48271))) (eVar 3))) (eC (.int 2147483647))) (eC (.int 11)) [some (mD a b cs (c + 1)), some (.int bound), none, some (.int (c : Int)), some (.list (cs.map .int)), some (.int (b + 40503 * c * c)), some (.int cell), some (.int b2)] = some (.int ((b2 * 48271 + c) % 2147483647 / 11), [some (mD a b cs (c + 1)), some (.int bound), none, some (.int (c : Int)), some (.list (cs.map .int)), some (.int (b + 40503 * c * c)), some (.int cell), some (.int b2)]) := v_bin (b := .int 11) k2 rfl (dDiv_p (by omega) (by omega))
    exact v_rt (v_bin k3 (v_at rfl) (dMod_p h0))
theorem e_of {a b : Int} {cs : List Int} {c : Nat} {xs : List D} (hx : xs ≠ []) (hl : xs.length < 1000) (hc : cs ≠ []) (hs : c < 1099511627776) :
    ∃ d a' c', RetM F__law_of (mD a b cs c) [.list xs] d (mD a' b cs c') ∧ d ∈ xs ∧ c' ≤ c + 1 := by
  have ln : 0 < xs.length := List.length_pos_iff.mpr hx
  obtain ⟨v, a', c', h, v0, v1, hc'⟩ := e_draw (a := a) (b := b) (bound := (xs.length : Int)) (by omega) (by omega) hc hs
  have vl : v.toNat < xs.length := by omega
  refine ⟨xs[v.toNat], a', c', runF_m (ys := [some (.list xs)]) ?_ (by simp), List.getElem_mem vl, hc'⟩
  show g__law_of [some (mD a b cs c), some (.list xs)] = _
  unfold g__law_of
  have ix : dIx (.list xs) (.int v) = some xs[v.toNat] := by
    have := ix_nat (xs := xs) (j := v.toNat) (List.getElem?_eq_getElem vl)
    rwa [show ((v.toNat : Nat) : Int) = v by omega] at this
  refine v_rt (v_bin (v_at rfl) (v_ow [eCall1 cLen (eVar 1)] rfl (v_cons (v_c1 (v_at rfl) rfl) rfl) rfl rfl h) ix)
theorem e_of01 {a b : Int} {cs : List Int} {c : Nat} {xs : List D} (hx : xs ≠ []) (hl : xs.length < 1000) (hc : cs ≠ []) (hs : c < 1099511627776) :
    ∃ d a' c', F__law_of_01 [mD a b cs c, .list xs] = some (d, [some (mD a' b cs c'), some (.list xs)]) ∧ d ∈ xs ∧ c' ≤ c + 1 := by
  have ln : 0 < xs.length := List.length_pos_iff.mpr hx
  obtain ⟨v, a', c', h, v0, v1, hc'⟩ := e_draw (a := a) (b := b) (bound := (xs.length : Int)) (by omega) (by omega) hc hs
  have vl : v.toNat < xs.length := by omega
  have ix : dIx (.list xs) (.int v) = some xs[v.toNat] := by
    have := ix_nat (xs := xs) (j := v.toNat) (List.getElem?_eq_getElem vl)
    rwa [show ((v.toNat : Nat) : Int) = v by omega] at this
  refine ⟨xs[v.toNat], a', c', ?_, List.getElem_mem vl, hc'⟩
  have : g__law_of_01 [some (mD a b cs c), some (.list xs)] = some (.rt xs[v.toNat] [some (mD a' b cs c'), some (.list xs)]) := by
    unfold g__law_of_01
    exact v_rt (v_binO rfl (v_ow [eCall1 cLen (eF (eVar 1))] rfl (v_cons (v_c1 (v_F (v_at rfl)) rfl) rfl) rfl rfl h) rfl ix)
  show ((g__law_of_01 [some (mD a b cs c), some (.list xs)]).bind _) = _
  rw [this]
  rfl
end Pf
set_option linter.all false
set_option maxRecDepth 100000
namespace Mi
open PySem PySem.Spec L2
section
variable {s s1 s2 : SD} {f g : FE} {p q : FS} {t : FT} {a : D} {o : Out}
theorem v_ifT (h : t s = some (true, s1)) (h2 : f s1 = some (a, s2)) : eIf t f g s = some (a, s2) := (v_if h).trans h2
theorem v_ifF (h : t s = some (false, s1)) (h2 : g s1 = some (a, s2)) : eIf t f g s = some (a, s2) := (v_if h).trans h2
theorem v_sifT (h : t s = some (true, s1)) (h2 : p s1 = some o) : sIf t p q s = some o := (v_sif h).trans h2
theorem v_sifF (h : t s = some (false, s1)) (h2 : q s1 = some o) : sIf t p q s = some o := (v_sif h).trans h2
theorem v_eqT {a b : Int} (h1 : f s = some (.int a, s1)) (h2 : g s1 = some (.int b, s2)) (h : a = b) (e : dEq (.int a) (.int b) = some (.bool (a == b))) : eTst (eBin dEq f g) s = some (true, s2) := v_tst (v_bin h1 h2 (by rw [e, beq_iff_eq.mpr h]))
theorem v_eqF {a b : Int} (h1 : f s = some (.int a, s1)) (h2 : g s1 = some (.int b, s2)) (h : a ≠ b) (e : dEq (.int a) (.int b) = some (.bool (a == b))) : eTst (eBin dEq f g) s = some (false, s2) := v_tst (v_bin h1 h2 (by rw [e, beq_eq_false_iff_ne.mpr h]))
end
end Mi
namespace Pf
open PySem PySem.Spec L2 Mi Ma
theorem e_small {a b : Int} {cs : List Int} {c : Nat} (hc : cs ≠ []) (hs : c < 1099511627776) : ∃ p a' c', RetM F__law_small_prime (mD a b cs c) [] (.int p) (mD a' b cs c') ∧ Pr p ∧ p ≤ 7 ∧ c' ≤ c + 1 := by
  obtain ⟨d, a', c', h, hm, hc'⟩ := e_of (a := a) (b := b) (xs := [.int 2, .int 3, .int 5, .int 2, .int 3, .int 7]) (by simp) (by simp) hc hs
  have pd : ∃ p : Int, d = .int p ∧ Pr p ∧ p ≤ 7 := by
    simp only [List.mem_cons, List.not_mem_nil, or_false] at hm
    rcases hm with rfl | rfl | rfl | rfl | rfl | rfl
    · exact ⟨2, rfl, pr2, by decide⟩
    · exact ⟨3, rfl, pr3, by decide⟩
    · exact ⟨5, rfl, pr5, by decide⟩
    · exact ⟨2, rfl, pr2, by decide⟩
    · exact ⟨3, rfl, pr3, by decide⟩
    · exact ⟨7, rfl, pr7, by decide⟩
  obtain ⟨p, rfl, hp, p7⟩ := pd
  refine ⟨p, a', c', runF_m (ys := []) ?_ (Nat.le_refl _), hp, p7, hc'⟩
  show g__law_small_prime [some (mD a b cs c)] = _
  unfold g__law_small_prime
  exact v_rt (v_ow [eF (eLst (aCons (eC (.int 2)) (aCons (eC (.int 3)) (aCons (eC (.int 5)) (aCons (eC (.int 2)) (aCons (eC (.int 3)) (aCons (eC (.int 7)) aNil))))))) ] rfl (v_cons (v_F (v_lst rfl)) rfl) rfl rfl h)
theorem e_prime {a b : Int} {cs : List Int} {c : Nat} (hc : cs ≠ []) (hs : c < 1099511627776) : ∃ p a' c', RetM F__law_prime (mD a b cs c) [] (.int p) (mD a' b cs c') ∧ Pr p ∧ c' ≤ c + 1 := by
  obtain ⟨d, a', c', h, hm, hc'⟩ := e_of (a := a) (b := b) (xs := [.int 2, .int 3, .int 5, .int 7, .int 11, .int 13]) (by simp) (by simp) hc hs
  have pd : ∃ p : Int, d = .int p ∧ Pr p := by
    simp only [List.mem_cons, List.not_mem_nil, or_false] at hm
    rcases hm with rfl | rfl | rfl | rfl | rfl | rfl
    · exact ⟨2, rfl, pr2⟩
    · exact ⟨3, rfl, pr3⟩
    · exact ⟨5, rfl, pr5⟩
    · exact ⟨7, rfl, pr7⟩
    · exact ⟨11, rfl, pr11⟩
    · exact ⟨13, rfl, pr13⟩
  obtain ⟨p, rfl, hp⟩ := pd
  refine ⟨p, a', c', runF_m (ys := []) ?_ (Nat.le_refl _), hp, hc'⟩
  show g__law_prime [some (mD a b cs c)] = _
  unfold g__law_prime
  exact v_rt (v_ow [eF (eLst (aCons (eC (.int 2)) (aCons (eC (.int 3)) (aCons (eC (.int 5)) (aCons (eC (.int 7)) (aCons (eC (.int 11)) (aCons (eC (.int 13)) aNil))))))) ] rfl (v_cons (v_F (v_lst rfl)) rfl) rfl rfl h)
theorem row_of {p : Int} : ∀ {ys : List D}, (∀ y ∈ ys, ∃ v : Int, y = .int v ∧ 0 ≤ v ∧ v < p) → ∃ r : Rw, ys = r.map .int ∧ (∀ x ∈ r, 0 ≤ x ∧ x < p) ∧ r.length = ys.length
  | [], _ => ⟨[], rfl, fun x hx => (nomatch hx), rfl⟩
  | y :: ys, h => by
    obtain ⟨v, rfl, h1, h2⟩ := h y List.mem_cons_self
    obtain ⟨r, rfl, h3, h4⟩ := row_of (ys := ys) fun z hz => h z (List.mem_cons_of_mem _ hz)
    exact ⟨v :: r, rfl, fun x hx => (List.mem_cons.mp hx).elim (fun e => e ▸ ⟨h1, h2⟩) (h3 x), by simp⟩
theorem e_column {p a b : Int} {cs : List Int} {c n : Nat} (hp : Pr p) (hc : cs ≠ []) (hn : n ≤ 50) (hs : c < 1000000000) : ∃ r a' c', RetM F__law_column (mD a b cs c) [.int p, .int (n : Int)] (rowD r) (mD a' b cs c') ∧ Dom p n r ∧ c' ≤ c + 2 * n := by
  have lo := hp.lo
  have hi := hp.hi
  obtain ⟨ys, s', e1, l1, l2, a', c', e2, hc'⟩ := v_lcR (i := 3) (fi := iR1 (eVar 2)) (fe := eIf (eTst (eBin dEq (eCall F__law_draw [.ow 0, .sh (eC (.int 3))]) (eC (.int 0)))) (eC (.int 0)) (eCall F__law_draw [.ow 0, .sh (eVar 1)])) (Y := fun y => ∃ v : Int, y = .int v ∧ 0 ≤ v ∧ v < p) (items := rgD 0 n)
    (s := [some (mD a b cs c), some (.int p), some (.int (n : Int)), none]) (s1 := [some (mD a b cs c), some (.int p), some (.int (n : Int)), none])
    (fun j s => ∃ a' c', s = [some (mD a' b cs c'), some (.int p), some (.int (n : Int)), none] ∧ c' ≤ c + 2 * j)
    (by have := v_R1 (s := [some (mD a b cs c), some (.int p), some (.int (n : Int)), none]) (s1 := [some (mD a b cs c), some (.int p), some (.int (n : Int)), none]) (f := eVar 2) (n := (n : Int)) (v_at rfl) (by omega); exact this)
    ⟨a, c, rfl, by omega⟩ (fun j d s hj ⟨a', c', es, hc'⟩ => by
      subst es
      have jl : j < n := by
        obtain ⟨z, _⟩ := List.getElem?_eq_some_iff.mp hj
        unfold rgD at z
        simpa using z
      obtain ⟨v, a2, c2, h, v0, v1, hc2⟩ := e_draw (a := a') (b := b) (bound := 3) (c := c') (by decide) (by decide) hc (by omega)
      have t1 : eCall F__law_draw [.ow 0, .sh (eC (.int 3))] [some (mD a' b cs c'), some (.int p), some (.int (n : Int)), some d] = some (.int v, [some (mD a2 b cs c2), some (.int p), some (.int (n : Int)), some d]) := v_ow [eC (.int 3)] rfl (v_cons rfl rfl) rfl rfl h
      by_cases z : v = 0
      · refine ⟨.int 0, [some (mD a2 b cs c2), some (.int p), some (.int (n : Int)), some d], ?_, ⟨0, rfl, by omega, by omega⟩, a2, c2, rfl, by omega⟩
        exact v_ifT (v_eqT t1 rfl z dEq_i) rfl
      · obtain ⟨v2, a3, c3, h3, w0, w1, hc3⟩ := e_draw (a := a2) (b := b) (bound := p) (c := c2) (by omega) (by omega) hc (by omega)
        refine ⟨.int v2, [some (mD a3 b cs c3), some (.int p), some (.int (n : Int)), some d], ?_, ⟨v2, rfl, w0, w1⟩, a3, c3, rfl, by omega⟩
        exact v_ifF (v_eqF t1 rfl z dEq_i) (v_ow [eVar 1] rfl (v_cons (v_at rfl) rfl) rfl rfl h3))
  subst e2
  have rl : (rgD 0 n).length = n := by unfold rgD; simp
  rw [rl] at l1 hc'
  obtain ⟨r, rfl, r1, r2⟩ := row_of l2
  refine ⟨r, a', c', runF_m (ys := [some (.int p), some (.int (n : Int)), none]) ?_ (by simp), ⟨by omega, r1⟩, hc'⟩
  show g__law_column [some (mD a b cs c), some (.int p), some (.int (n : Int)), none] = _
  unfold g__law_column
  exact v_rt (v_c1 (v_F e1) rfl)
theorem ne_nil_rows {p : Int} {n : Nat} {F : List Rw} (hp : Pr p) (hn : n ≤ 50) (dF : ∀ r ∈ F, Dom p n r) : dNe (.list (F.map rowD)) (.list []) = some (.bool (!F.isEmpty)) := by
  have sh : SeqAt.shaped (.list (F.map rowD)) = true := by
    have := nice_lst (ds := F.map rowD) (k := 1) (w := 250) fun e he => by
      obtain ⟨r, hr, rfl⟩ := List.mem_map.mp he
      exact nice_row hp (dF r hr) hn
    unfold SeqAt.shaped
    rw [this.lay, decide_eq_true (Nat.le_trans this.dep (by decide))]
    rfl
  unfold dNe
  rw [if_pos (by rw [sh]; exact ints_shaped [])]
  cases F with
  | nil => simp [PyData.eqv, PyData.eqvAll]
  | cons r F => simp [PyData.eqv, PyData.eqvAll]
theorem e_table {p a b : Int} {cs : List Int} {c n k : Nat} (hp : Pr p) (hc : cs ≠ []) (hn : n ≤ 50) (hk : k ≤ 50) (hs : c < 100000000) : ∃ F a' c', RetM F__law_table (mD a b cs c) [.int p, .int (k : Int), .int (n : Int)] (tabD F) (mD a' b cs c') ∧ (∀ r ∈ F, Dom p n r) ∧ F.length = k ∧ c' ≤ c + k * 200 := by
  have lo := hp.lo
  have hi := hp.hi
  obtain ⟨s', e1, F, a', c', x5, x6, x7, e2, dF, fl, hc'⟩ := v_for (items := rgD 0 k) (fi := iR1 (eVar 2)) (h := gNm 5) (fb := (sCons (sAs (eCall F__law_column [.ow 0, .sh (eVar 1), .sh (eVar 3)]) (gNm 6))
    (sCons (sIf (tAn (eTst (eBinO dNe 4 (eF (eLst aNil)))) (eTst (eBin dEq (eCall F__law_draw [.ow 0, .sh (eC (.int 3))]) (eC (.int 0))))) (sCons (sAs (eCall F__law_of_01 [.ow 0, .ow 4]) (gNm 7))
    (sAs (eCall1 cTup (eF (eLc (iS (eVar 7)) (gNm 8) tYs (eBin dMod (eCall1 cInt (eBin dMul (eC (.int 2)) (eVar 8))) (eVar 1)) [8]))) (gNm 6))) sNil)
    (sApp 4 (eVar 6)))))
    (s := [some (mD a b cs c), some (.int p), some (.int (k : Int)), some (.int (n : Int)), some (.list []), none, none, none, none]) (s1 := [some (mD a b cs c), some (.int p), some (.int (k : Int)), some (.int (n : Int)), some (.list []), none, none, none, none])
    (fun j s => ∃ (F : List Rw) (a' : Int) (c' : Nat) (x5 x6 x7 : Option D), s = [some (mD a' b cs c'), some (.int p), some (.int (k : Int)), some (.int (n : Int)), some (.list (F.map rowD)), x5, x6, x7, none] ∧ (∀ r ∈ F, Dom p n r) ∧ F.length = j ∧ c' ≤ c + j * 200)
    (by have := v_R1 (s := [some (mD a b cs c), some (.int p), some (.int (k : Int)), some (.int (n : Int)), some (.list []), none, none, none, none]) (s1 := [some (mD a b cs c), some (.int p), some (.int (k : Int)), some (.int (n : Int)), some (.list []), none, none, none, none]) (f := eVar 2) (n := (k : Int)) (v_at rfl) (by omega); exact this)
    ⟨[], a, c, none, none, none, rfl, fun r hr => (nomatch hr), rfl, by omega⟩ (fun j d s hj ⟨F, a', c', x5, x6, x7, es, dF, fl, hc'⟩ => by
      subst es
      have jl : j < k := by
        obtain ⟨z, _⟩ := List.getElem?_eq_some_iff.mp hj
        unfold rgD at z
        simpa using z
      obtain ⟨r, a2, c2, h, dr, hc2⟩ := e_column (a := a') (b := b) (c := c') hp hc hn (by omega)
      let S (m : D) (r : Rw) (x7 : Option D) : SD := [some m, some (.int p), some (.int (k : Int)), some (.int (n : Int)), some (.list (F.map rowD)), some d, some (rowD r), x7, none]
      have app : ∀ (m : D) (r : Rw) (x7 : Option D), sApp 4 (eVar 6) (S m r x7) = some (.nx [some m, some (.int p), some (.int (k : Int)), some (.int (n : Int)), some (.list ((F ++ [r]).map rowD)), some d, some (rowD r), x7, none]) := fun m r x7 => by
        show (if (F.map rowD).length < 1000000 then some (Out.nx ((S m r x7).set 4 (some (.list ((F.map rowD) ++ [rowD r]))))) else none) = _
        rw [if_pos (by rw [List.length_map]; omega), List.map_append]
        rfl
      have dA : ∀ {r : Rw}, Dom p n r → ∀ x ∈ F ++ [r], Dom p n x := fun {r} d x hx => (List.mem_append.mp hx).elim (dF x) fun z => by rw [List.mem_singleton] at z; exact z ▸ d
      have lA : ∀ r : Rw, (F ++ [r]).length = j + 1 := fun r => by rw [List.length_append, fl]; rfl
      refine ⟨[some (mD a' b cs c'), some (.int p), some (.int (k : Int)), some (.int (n : Int)), some (.list (F.map rowD)), some d, x6, x7, none], ?_⟩
      have st1 : sAs (eCall F__law_column [.ow 0, .sh (eVar 1), .sh (eVar 3)]) (gNm 6) [some (mD a' b cs c'), some (.int p), some (.int (k : Int)), some (.int (n : Int)), some (.list (F.map rowD)), some d, x6, x7, none] = some (.nx (S (mD a2 b cs c2) r x7)) := v_set (d := rowD r) (s1 := [some (mD a2 b cs c2), some (.int p), some (.int (k : Int)), some (.int (n : Int)), some (.list (F.map rowD)), some d, x6, x7, none]) (v_ow [eVar 1, eVar 3] rfl (v_cons (v_at rfl) (v_cons (v_at rfl) rfl)) rfl rfl h)
      have ne : eBinO dNe 4 (eF (eLst aNil)) (S (mD a2 b cs c2) r x7) = some (.bool (!F.isEmpty), S (mD a2 b cs c2) r x7) := v_binO rfl (v_F (v_lst rfl)) rfl (ne_nil_rows hp hn dF)
      by_cases em : F = []
      · refine ⟨_, _, rfl, (v_nx st1).trans ((v_nx ((v_sif (x := false) (v_anF (v_tst (ne.trans (by rw [em]; rfl))))).trans rfl)).trans (app _ r x7)), .inl rfl, _, a2, c2, _, _, _, rfl, dA dr, lA r, by omega⟩
      · have ne1 : (!F.isEmpty) = true := by cases F with | nil => exact absurd rfl em | cons _ _ => rfl
        rw [ne1] at ne
        obtain ⟨v, a3, c3, h3, v0, v1, hc3⟩ := e_draw (a := a2) (b := b) (bound := 3) (c := c2) (by decide) (by decide) hc (by omega)
        have t1 : eCall F__law_draw [.ow 0, .sh (eC (.int 3))] (S (mD a2 b cs c2) r x7) = some (.int v, S (mD a3 b cs c3) r x7) := v_ow [eC (.int 3)] rfl (v_cons rfl rfl) rfl rfl h3
        by_cases z : v = 0
        · obtain ⟨o, a4, c4, h4, ho, hc4⟩ := e_of01 (a := a3) (b := b) (c := c3) (xs := F.map rowD) (by simpa using em) (by rw [List.length_map]; omega) hc (by omega)
          obtain ⟨q, hq, rfl⟩ := List.mem_map.mp ho
          have c01 : eCall F__law_of_01 [.ow 0, .ow 4] (S (mD a3 b cs c3) r x7) = some (rowD q, S (mD a4 b cs c4) r x7) := by
            show ((F__law_of_01 [mD a3 b cs c3, .list (F.map rowD)]).bind _) = _
            rw [h4]
            rfl
          have lc := v_lcB (s := S (mD a4 b cs c4) r (some (rowD q))) (s1 := S (mD a4 b cs c4) r (some (rowD q))) (i := 8) (fi := iS (eVar 7)) (fe := eBin dMod (eCall1 cInt (eBin dMul (eC (.int 2)) (eVar 8))) (eVar 1)) (φ := PyData.int) (ψ := fun x : Int => .int ((2 * x) % p)) (xs := q) (v_St (v_at rfl)) (by show 8 < 9; decide) (fun x hx => v_bin (v_c1 (v_bin rfl (v_at rfl) (dMul_l (a := 2) (by decide))) rfl) (v_at rfl) (dMod_p (by omega)))
          have em1 : (q.map fun x : Int => PyData.int ((2 * x) % p)) = (mulL p 2 q).map .int := by unfold mulL; rw [List.map_map]; rfl
          rw [em1] at lc
          have st2 : sCons (sAs (eCall F__law_of_01 [.ow 0, .ow 4]) (gNm 7)) (sAs (eCall1 cTup (eF (eLc (iS (eVar 7)) (gNm 8) tYs (eBin dMod (eCall1 cInt (eBin dMul (eC (.int 2)) (eVar 8))) (eVar 1)) [8]))) (gNm 6)) (S (mD a3 b cs c3) r x7) = some (.nx (S (mD a4 b cs c4) (mulL p 2 q) (some (rowD q)))) :=
            (v_nx (v_set c01)).trans (v_set (d := rowD (mulL p 2 q)) (s1 := S (mD a4 b cs c4) r (some (rowD q))) (v_c1 (v_F lc) rfl))
          refine ⟨_, _, rfl, (v_nx st1).trans ((v_nx (v_sifT (v_anT (v_tst ne) (v_eqT t1 rfl z dEq_i)) st2)).trans (app _ (mulL p 2 q) (some (rowD q)))), .inl rfl, _, a4, c4, _, _, _, rfl, dA (mulL_dom (by omega) (dF q hq)), lA _, by omega⟩
        · refine ⟨_, _, rfl, (v_nx st1).trans ((v_nx (v_sifF (v_anT (v_tst ne) (v_eqF t1 rfl z dEq_i)) rfl)).trans (app _ r x7)), .inl rfl, _, a3, c3, _, _, _, rfl, dA dr, lA r, by omega⟩)
  have rl : (rgD 0 k).length = k := by unfold rgD; simp
  rw [rl] at fl hc'
  refine ⟨F, a', c', runF_m (ys := [some (.int p), some (.int (k : Int)), some (.int (n : Int)), some (.list (F.map rowD)), x5, x6, x7, none]) ?_ (by simp), dF, fl, hc'⟩
  show g__law_table [some (mD a b cs c), some (.int p), some (.int (k : Int)), some (.int (n : Int)), none, none, none, none, none] = _
  unfold g__law_table
  refine (v_nx (v_setO (d := .list []) (s1 := [some (mD a b cs c), some (.int p), some (.int (k : Int)), some (.int (n : Int)), none, none, none, none, none]) (v_lst rfl) (by simp))).trans ?_
  refine (v_nx e1).trans ?_
  rw [e2]
  exact v_rt (v_c1 (v_F (v_at rfl)) rfl)
end Pf
set_option linter.all false
set_option maxRecDepth 1000000
namespace Pf
open PySem PySem.Spec L2 Mi Ma
theorem ret_of {F : FF} {ds : List D} {d : D} {n : Nat} (h : (F ds).map (fun r => (r.1, r.2.length)) = some (d, n)) (hn : ds.length ≤ n) : Ret F ds d := by
  obtain ⟨⟨d', xs⟩, h1, h2⟩ := Option.map_eq_some_iff.mp h
  cases h2
  exact ⟨xs, h1, hn⟩
theorem cut_ints {ns : List Int} (lo hi : Option Int) : ∃ ms : List Int, cutD (ns.map .int) lo hi = ms.map .int ∧ ms.length ≤ ns.length := by
  unfold cutD
  refine ⟨(ns.drop (HT.sIx (ns.map PyData.int).length 0 lo)).take (HT.sIx (ns.map PyData.int).length (ns.map PyData.int).length hi - HT.sIx (ns.map PyData.int).length 0 lo), ?_, ?_⟩
  · rw [List.map_take, List.map_drop]
  · rw [List.length_take, List.length_drop]
    omega
theorem v_sl {s s1 s2 s3 : SD} {f : FE} {lo hi : FO} {ds : List D} {l h : Option Int} (h1 : f s = some (.list ds, s1)) (h2 : lo s1 = some (l, s2)) (h3 : hi s2 = some (h, s3)) : eSl f lo hi s = some (.list (cutD ds l h), s3) := by
  unfold eSl; rw [h1]; show ((lo s1).bind _) = _; rw [h2]; show ((hi s2).bind _) = _; rw [h3]; rfl
theorem v_slT {s s1 s2 s3 : SD} {f : FE} {lo hi : FO} {ds : List D} {l h : Option Int} (h1 : f s = some (.tuple ds, s1)) (h2 : lo s1 = some (l, s2)) (h3 : hi s2 = some (h, s3)) : eSl f lo hi s = some (.tuple (cutD ds l h), s3) := by
  unfold eSl; rw [h1]; show ((lo s1).bind _) = _; rw [h2]; show ((hi s2).bind _) = _; rw [h3]; rfl
theorem v_in {s s1 : SD} {f : FE} {i : Int} (h : f s = some (.int i, s1)) : oIn f s = some (some i, s1) := by unfold oIn; rw [h]; rfl
theorem cat_ints {a b : List Int} (h : a.length + b.length ≤ 1000000) : dPlus (.list (a.map .int)) (.list (b.map .int)) = some (.list ((a ++ b).map .int)) := by
  show (if (a.map PyData.int).length + (b.map PyData.int).length ≤ 1000000 then some (PyData.list (a.map .int ++ b.map .int)) else none) = _
  rw [if_pos (by rw [List.length_map, List.length_map]; exact h), List.map_append]
theorem e_begun {ns : List Int} {k : Int} (hl : ns.length ≤ 63) : ∃ a b cs, Ret F__law_begun [.list (ns.map .int), .int k] (mD a b cs 0) ∧ cs ≠ [] := by
  obtain ⟨m1, c1, l1⟩ := cut_ints (ns := ns) (some k) none
  obtain ⟨m2, c2, l2⟩ := cut_ints (ns := ns) none (some k)
  let cells := m1 ++ m2
  have cl : cells.length ≤ 126 := by show (m1 ++ m2).length ≤ 126; rw [List.length_append]; omega
  let S0 : SD := [some (.list (ns.map .int)), some (.int k), none, none, none, none]
  let S1 : SD := [some (.list (ns.map .int)), some (.int k), some (.list (cells.map .int)), none, none, none]
  have g1 : eBin dPlus (eSl (eVar 0) (oIn (eVar 1)) oNo) (eSl (eVar 0) oNo (oIn (eVar 1))) S0 = some (.list (cells.map .int), S0) := by
    have x1 : eSl (eVar 0) (oIn (eVar 1)) oNo S0 = some (.list (m1.map .int), S0) := by rw [← c1]; exact v_sl (v_at rfl) (v_in (v_at rfl)) rfl
    have x2 : eSl (eVar 0) oNo (oIn (eVar 1)) S0 = some (.list (m2.map .int), S0) := by rw [← c2]; exact v_sl (v_at rfl) rfl (v_in (v_at rfl))
    exact v_bin x1 x2 (cat_ints (by omega))
  have pw : dPow (.int 10) (.int 18) = some (.int (10 ^ 18)) := by kernel_rfl
  have g2 := v_lcA (s := S1) (s1 := S1) (i := 5) (fi := iS (eVar 2)) (ft := eTst (eBin dGe (eVar 5) (eBin dPow (eC (.int 10)) (eC (.int 18))))) (fe := eVar 5) (t := fun x : Int => decide ((10 : Int) ^ 18 ≤ x)) (φ := PyData.int) (ψ := PyData.int) (xs := cells) (v_S (v_at rfl)) (by show 5 < 6; decide) (fun x hx => v_tst (v_bin (v_at rfl) (v_bin rfl rfl pw) rfl)) (fun x hx _ => v_at rfl)
  let great := cells.filter fun x : Int => decide ((10 : Int) ^ 18 ≤ x)
  obtain ⟨s', e1, b, x5, e2⟩ := v_for (items := cells.map PyData.int) (fi := iS (eVar 2)) (h := gNm 5) (fb := sAs (eBin dMod (eCall1 cInt (eBin dPlus (eBin dMul (eVar 4) (eC (.int 48271))) (eVar 5))) (eC (.int 2147483647))) (gNm 4))
    (s := [some (.list (ns.map .int)), some (.int k), some (.list (cells.map .int)), some (.list (great.map .int)), some (.int (71 + k)), none]) (s1 := [some (.list (ns.map .int)), some (.int k), some (.list (cells.map .int)), some (.list (great.map .int)), some (.int (71 + k)), none])
    (fun j s => ∃ (b : Int) (x5 : Option D), s = [some (.list (ns.map .int)), some (.int k), some (.list (cells.map .int)), some (.list (great.map .int)), some (.int b), x5])
    (v_S (v_at rfl)) ⟨71 + k, none, rfl⟩ (fun j x s hj ⟨b, x5, es⟩ => by
      subst es
      rw [List.getElem?_map] at hj
      cases q : cells[j]? with
      | none => rw [q] at hj; cases hj
      | some y =>
        rw [q] at hj
        have hj : PyData.int y = x := Option.some.inj hj
        subst hj
        have m1 : eBin dMul (eVar 4) (eC (.int 48271)) [some (.list (ns.map .int)), some (.int k), some (.list (cells.map .int)), some (.list (great.map .int)), some (.int b), some (.int y)] = some (.int (b * 48271), [some (.list (ns.map .int)), some (.int k), some (.list (cells.map .int)), some (.list (great.map .int)), some (.int b), some (.int y)]) := v_bin (v_at rfl) rfl (dMul_r (b := 48271) (by decide))
        refine ⟨[some (.list (ns.map .int)), some (.int k), some (.list (cells.map .int)), some (.list (great.map .int)), some (.int b), some (.int y)], _, _, rfl, v_set (d := .int ((b * 48271 + y) % 2147483647)) (v_bin (a := .int (b * 48271 + y)) (b := .int 2147483647) (v_c1 (v_bin m1 (v_at rfl) rfl) rfl) rfl (dMod_p (by omega))), .inl rfl, _, _, rfl⟩)
  let S2 : SD := [some (.list (ns.map .int)), some (.int k), some (.list (cells.map .int)), some (.list (great.map .int)), some (.int b), x5]
  have ne := ne_nil_ints great
  have gl : ∃ a : Int, eIf (eTst (eBin dNe (eVar 3) (eF (eLst aNil)))) (eBin dIx (eVar 3) (eC (.int 0))) (eC (.int 0)) S2 = some (.int a, S2) := by
    cases hg : great with
    | nil =>
      rw [hg] at ne
      refine ⟨0, v_ifF (v_tst (v_bin (v_at (d := .list (([] : List Int).map .int)) (by show some (some (PyData.list (great.map .int))) = _; rw [hg])) (v_F (v_lst rfl)) ne)) rfl⟩
    | cons y r =>
      rw [hg] at ne
      have at3 : eVar 3 S2 = some (.list ((y :: r).map .int), S2) := v_at (by show some (some (PyData.list (great.map .int))) = _; rw [hg])
      exact ⟨y, v_ifT (v_tst (v_bin at3 (v_F (v_lst rfl)) ne)) (v_bin at3 rfl (ix_nat (j := 0) rfl))⟩
  obtain ⟨a, ga⟩ := gl
  have gc : eBin dPlus (eVar 2) (eF (eLst (aCons (eBin dPlus (eBin dMul (eC (.int 53)) (eVar 1)) (eC (.int 11))) aNil))) S2 = some (.list ((cells ++ [53 * k + 11]).map .int), S2) := by
    have m53 : eBin dMul (eC (.int 53)) (eVar 1) S2 = some (.int (53 * k), S2) := v_bin rfl (v_at rfl) (dMul_l (a := 53) (by decide))
    exact v_bin (a := .list (cells.map .int)) (b := .list ([53 * k + 11].map .int)) (v_at rfl) (v_F (v_lst (v_cons (v_bin m53 rfl rfl) rfl))) (cat_ints (by show cells.length + 1 ≤ 1000000; omega))
  refine ⟨a, b, cells ++ [53 * k + 11], runF_rt (s := S2) ?_ (by show 2 ≤ 6; decide), by simp⟩
  show g__law_begun S0 = _
  unfold g__law_begun
  refine (v_nx (v_set (d := .list (cells.map .int)) g1)).trans ?_
  refine (v_nx (v_set (d := .list (great.map .int)) (s1 := S1) (v_F g2))).trans ?_
  refine (v_nx (v_set (d := .int (71 + k)) (v_bin (a := .int 71) (b := .int k) rfl (v_at rfl) rfl))).trans ?_
  refine (v_nx e1).trans ?_
  rw [e2]
  refine v_rt ?_
  show ((pGo _ S2).map _) = _
  have pg : pGo [((.inr "left"), (eIf (eTst (eBin dNe (eVar 3) (eF (eLst aNil)))) (eBin dIx (eVar 3) (eC (.int 0))) (eC (.int 0)))), ((.inr "seed"), (eVar 4)), ((.inr "cells"), (eBin dPlus (eVar 2) (eF (eLst (aCons (eBin dPlus (eBin dMul (eC (.int 53)) (eVar 1)) (eC (.int 11))) aNil))))), ((.inr "spot"), (eC (.int 0)))] S2 = some (mL a b (cells ++ [53 * k + 11]) 0, S2) := by
    show ((eIf (eTst (eBin dNe (eVar 3) (eF (eLst aNil)))) (eBin dIx (eVar 3) (eC (.int 0))) (eC (.int 0)) S2).bind _) = _
    rw [ga]
    show (((eBin dPlus (eVar 2) (eF (eLst (aCons (eBin dPlus (eBin dMul (eC (.int 53)) (eVar 1)) (eC (.int 11))) aNil))) S2).bind _).map _).map _ = _
    rw [gc]
    rfl
  rw [pg]
  rfl
end Pf
set_option linter.all false
/-! What a table leads to; columns led back. -/
namespace Ma
def ledL (p : Int) (n : Nat) (T : List Rw) (v : Rw) : Rw := T.map fun r => dotV n (e0 r) (e0 v) % p
abbrev Kills (p : Int) (n : Nat) (T : List Rw) (v : Vc) : Prop := ∀ r ∈ T, p ∣ dotV n (e0 r) v
section
variable {p : Int} {n m : Nat} {T R K : List Rw} {L LK : List Nat} {v w c : Rw}
theorem ledL_len : (ledL p n T v).length = T.length := by unfold ledL; rw [List.length_map]
theorem ledL_dom (hp : 0 < p) (ht : T.length = m) : Dom p m (ledL p n T v) := ⟨by rw [ledL_len, ht], fun x hx => by
  unfold ledL at hx
  obtain ⟨r, _, rfl⟩ := List.mem_map.mp hx
  exact ⟨Int.emod_nonneg _ (by omega), Int.emod_lt_of_pos _ hp⟩⟩
theorem dotV_sub {u a b : Vc} {n : Nat} : dotV n u (fun j => a j - b j) = dotV n u a - dotV n u b := by
  have := sumN_lin (n := n) (h := fun j => u j * (a j - b j)) (f := fun j => u j * a j) (g := fun j => u j * b j) (-1) fun j _ => by
    show u j * (a j - b j) = u j * a j + -1 * (u j * b j)
    rw [Int.mul_sub]; omega
  show sumN (fun j => u j * (a j - b j)) n = sumN (fun j => u j * a j) n - sumN (fun j => u j * b j) n
  rw [this]
  omega
theorem led_eq (hp : 0 < p) (h : ledL p n T v = ledL p n T w) : Kills p n T (fun j => e0 v j - e0 w j) := fun r hr => by
  obtain ⟨i, hi, rfl⟩ := List.mem_iff_getElem.mp hr
  have e : (ledL p n T v)[i]? = (ledL p n T w)[i]? := by rw [h]
  unfold ledL at e
  rw [List.getElem?_map, List.getElem?_map, List.getElem?_eq_getElem hi] at e
  have e : dotV n (e0 T[i]) (e0 v) % p = dotV n (e0 T[i]) (e0 w) % p := Option.some.inj e
  rw [dotV_sub]
  exact Int.dvd_of_emod_eq_zero (by rw [Int.sub_emod, e, Int.sub_self, Int.zero_emod])
/-- kills the rows: kills all sums -/
theorem Kills.same (s : Same p T R) {u : Vc} : Kills p n T u ↔ Kills p n R u :=
  ⟨fun h r hr => dot_span (C := vcs T) (fun x hx => by obtain ⟨y, hy, rfl⟩ := List.mem_map.mp hx; exact h y hy) (s.ge _ (List.mem_map.mpr ⟨r, hr, rfl⟩)),
   fun h r hr => dot_span (C := vcs R) (fun x hx => by obtain ⟨y, hy, rfl⟩ := List.mem_map.mp hx; exact h y hy) (s.le _ (List.mem_map.mpr ⟨r, hr, rfl⟩))⟩
/-- the kernel's basis, from columns one for each free place -/
theorem ker_of (E : RL p n R L) (s : Same p T R) {Cs : List Rw} (h1 : ∀ f, f < n → f ∉ L → ∃ c ∈ Cs, Free p n R L f (e0 c)) (h2 : ∀ c ∈ Cs, ∃ f, f < n ∧ f ∉ L ∧ Free p n R L f (e0 c)) (sK : Same p Cs K) {u : Vc} (hu : ∀ j, n ≤ j → p ∣ u j) :
    Kills p n T u ↔ Sp p (vcs K) u := by
  rw [Kills.same s]
  have := ker_span (Cs := vcs Cs) E (fun f a b => by
    obtain ⟨c, hc, F⟩ := h1 f a b
    exact ⟨_, List.mem_map.mpr ⟨c, hc, rfl⟩, F⟩) (fun c hc => by
    obtain ⟨c', hc', rfl⟩ := List.mem_map.mp hc
    exact h2 c' hc') hu
  exact this.trans ⟨fun h => h.le sK.le, fun h => h.le sK.ge⟩
/-- two columns with zeros at the leads of the kernel that are led alike are one -/
theorem back_unique (hp : 1 < p) (EK : RL p n K LK) (ker : ∀ u : Vc, (∀ j, n ≤ j → p ∣ u j) → (Kills p n T u ↔ Sp p (vcs K) u)) (dv : Dom p n v) (dw : Dom p n w) (zv : ∀ f ∈ LK, e0 v f = 0) (zw : ∀ f ∈ LK, e0 w f = 0) (h : ledL p n T v = ledL p n T w) : v = w := by
  have k := led_eq (by omega) h
  have sp := (ker (fun j => e0 v j - e0 w j) fun j hj => by
    rw [e0_ge (by rw [dv.len]; exact hj), e0_ge (by rw [dw.len]; exact hj)]
    exact Int.dvd_zero p).mp k
  refine Dom.ext dv dw (by omega) fun j => ?_
  have t := EK.rb.told sp j
  have z : p ∣ comb (LK.map fun j => e0 v j - e0 w j) (vcs K) j := comb_zero (fun c hc => by
    obtain ⟨f, hf, rfl⟩ := List.mem_map.mp hc
    rw [zv f hf, zw f hf]
    exact Int.dvd_zero p) j
  exact dvd_cast (Int.dvd_add t z) (by omega)
/-- lines turned about, with an entry more -/
def wideL (T : List Rw) (c : Rw) : List Rw := List.zipWith (fun r x => r.reverse ++ [x]) T c
theorem wide_get (ht : T.length = c.length) {i : Nat} {r : Rw} (h : T[i]? = some r) : (wideL T c)[i]? = some (r.reverse ++ [e0 c i]) := by
  unfold wideL
  obtain ⟨hi, e⟩ := List.getElem?_eq_some_iff.mp h
  have hc : c[i]? = some c[i] := List.getElem?_eq_getElem (by omega)
  rw [List.getElem?_zipWith, h, hc]
  show some (r.reverse ++ [c[i]]) = _
  rw [e0_lt (by omega)]
theorem wide_mem (ht : T.length = c.length) {x : Rw} (h : x ∈ wideL T c) : ∃ (i : Nat) (r : Rw), T[i]? = some r ∧ x = r.reverse ++ [e0 c i] := by
  obtain ⟨i, hi, e⟩ := List.mem_iff_getElem.mp h
  have li : i < T.length := by unfold wideL at hi; rw [List.length_zipWith] at hi; omega
  have g := wide_get ht (List.getElem?_eq_getElem li)
  rw [List.getElem?_eq_getElem hi] at g
  exact ⟨i, T[i], List.getElem?_eq_getElem li, by rw [← e]; exact Option.some.inj g⟩
theorem e0_back {r : Rw} (hr : r.length = n) {j : Nat} (hj : j < n) : e0 r.reverse j = e0 r (n - 1 - j) := by
  rw [e0_lt (by rw [List.length_reverse]; omega), e0_lt (by omega), List.getElem_reverse]
  congr 1
  omega
theorem e0_wide {r : Rw} {x : Int} (hr : r.length = n) {j : Nat} : e0 (r.reverse ++ [x]) j = if j < n then e0 r (n - 1 - j) else if j = n then x else 0 := by
  by_cases h1 : j < n
  · rw [if_pos h1, ← e0_back hr h1]
    unfold e0
    rw [List.getD_eq_getElem?_getD, List.getD_eq_getElem?_getD, List.getElem?_append_left (by rw [List.length_reverse]; omega)]
  · rw [if_neg h1]
    by_cases h2 : j = n
    · rw [if_pos h2]
      refine e0_get ?_
      rw [List.getElem?_append_right (by rw [List.length_reverse]; omega), List.length_reverse, hr, h2, Nat.sub_self]
      rfl
    · rw [if_neg h2]
      exact e0_ge (by rw [List.length_append, List.length_reverse]; simp; omega)
/-- a column turned about, with -1 behind it -/
def uOf (n : Nat) (v : Vc) : Vc := fun j => if j < n then v (n - 1 - j) else if j = n then -1 else 0
theorem dot_wide {r : Rw} {x : Int} (hr : r.length = n) {v : Vc} : dotV (n + 1) (e0 (r.reverse ++ [x])) (uOf n v) = dotV n (e0 r) v - x := by
  show dotV n (e0 (r.reverse ++ [x])) (uOf n v) + e0 (r.reverse ++ [x]) n * uOf n v n = _
  have a : dotV n (e0 (r.reverse ++ [x])) (uOf n v) = sumN (fun j => (fun i => e0 r i * v i) (n - 1 - j)) n := sumN_congr fun j hj => by
    rw [e0_wide hr, if_pos hj]
    unfold uOf
    rw [if_pos hj]
  have bk : sumN (fun j => (fun i => e0 r i * v i) (n - 1 - j)) n = sumN (fun i => e0 r i * v i) n := sumN_back (f := fun i => e0 r i * v i)
  have a2 : uOf n v n = -1 := by
    unfold uOf
    rw [if_neg (by omega), if_pos rfl]
  rw [a, bk, e0_wide hr, if_neg (by omega), if_pos rfl, a2]
  show sumN (fun i => e0 r i * v i) n + x * -1 = sumN (fun i => e0 r i * v i) n - x
  omega
theorem wide_kills (ht : T.length = c.length) (dT : ∀ r ∈ T, Dom p n r) {v : Vc} : Kills p (n + 1) (wideL T c) (uOf n v) ↔ ∀ i r, T[i]? = some r → p ∣ dotV n (e0 r) v - e0 c i :=
  ⟨fun h i r hr => by
    have := h _ (List.mem_of_getElem? (wide_get ht hr))
    rw [dot_wide (dT r (List.mem_of_getElem? hr)).len] at this
    exact this, fun h x hx => by
    obtain ⟨i, r, hr, rfl⟩ := wide_mem ht hx
    rw [dot_wide (dT r (List.mem_of_getElem? hr)).len]
    exact h i r hr⟩
theorem led_is (hp : 0 < p) (dc : Dom p m c) (ht : T.length = m) : ledL p n T v = c ↔ ∀ i r, T[i]? = some r → p ∣ dotV n (e0 r) (e0 v) - e0 c i := by
  constructor
  · intro h i r hr
    have : e0 c i = dotV n (e0 r) (e0 v) % p := by rw [← h]; exact e0_map hr
    rw [this]
    exact dvd_cast (Int.dvd_neg.mpr (dvd_emod hp (dotV n (e0 r) (e0 v)))) (by omega)
  · intro h
    refine Dom.ext (ledL_dom hp ht) dc hp fun i => ?_
    by_cases hi : i < T.length
    · have g : T[i]? = some T[i] := List.getElem?_eq_getElem hi
      have : e0 (ledL p n T v) i = dotV n (e0 T[i]) (e0 v) % p := e0_map g
      rw [this]
      exact dvd_cast (Int.dvd_add (dvd_emod hp (dotV n (e0 T[i]) (e0 v))) (h i _ g)) (by omega)
    · rw [e0_ge (by rw [ledL_len]; omega), e0_ge (by rw [dc.len]; omega)]
      exact ⟨0, by omega⟩
/-- the column that is told -/
structure Sol (n : Nat) (R : List Rw) (L : List Nat) (v : Rw) : Prop where
  on : ∀ (i l : Nat) (b : Rw), L[i]? = some l → R[i]? = some b → e0 v (n - 1 - l) = e0 b n
  off : ∀ j, j < n → (n - 1 - j) ∉ L → e0 v j = 0
theorem solved_ok (hp : 1 < p) (dT : ∀ r ∈ T, Dom p n r) (ht : T.length = m) (dc : Dom p m c) (E : RL p (n + 1) R L) (s : Same p (wideL T c) R) (hn : n ∉ L) (S : Sol n R L v) : ledL p n T v = c := by
  have htc : T.length = c.length := by rw [ht, dc.len]
  rw [led_is (by omega) dc ht]
  refine (wide_kills (v := e0 v) htc dT).mp ((Kills.same s).mpr fun b hb => ?_)
  obtain ⟨i, hi, eb⟩ := List.mem_iff_getElem.mp hb
  have gb : R[i]? = some b := by rw [List.getElem?_eq_getElem hi, eb]
  have il : i < L.length := by rw [E.len]; exact hi
  have gl : L[i]? = some L[i] := List.getElem?_eq_getElem il
  have ml : L[i] ∈ L := List.getElem_mem il
  have ln : L[i] < n := by
    have := E.lt _ ml
    have : L[i] ≠ n := fun z => hn (z ▸ ml)
    omega
  have key : dotV n (e0 b) (uOf n (e0 v)) = e0 b L[i] * uOf n (e0 v) L[i] := sumN_one ln fun j hj hne => by
    by_cases q : j ∈ L
    · obtain ⟨k, hk, ek⟩ := List.mem_iff_getElem.mp q
      have gk : L[k]? = some j := by rw [List.getElem?_eq_getElem hk, ek]
      have ki : k ≠ i := fun z => hne (by subst z; exact ek.symm)
      rw [E.off k i b j gb gk ki, Int.zero_mul]
    · have : uOf n (e0 v) j = 0 := by
        unfold uOf
        rw [if_pos hj]
        exact S.off _ (by omega) (by rw [show n - 1 - (n - 1 - j) = j by omega]; exact q)
      rw [this, Int.mul_zero]
  show p ∣ dotV n (e0 b) (uOf n (e0 v)) + e0 b n * uOf n (e0 v) n
  rw [key, E.one i b _ gb gl]
  have a1 : uOf n (e0 v) L[i] = e0 b n := by
    unfold uOf
    rw [if_pos ln]
    exact S.on i _ b gl gb
  have a2 : uOf n (e0 v) n = -1 := by
    unfold uOf
    rw [if_neg (by omega), if_pos rfl]
  rw [a1, a2]
  exact ⟨0, by omega⟩
theorem solved_none (hp : 1 < p) (dT : ∀ r ∈ T, Dom p n r) (ht : T.length = m) (dc : Dom p m c) (E : RL p (n + 1) R L) (s : Same p (wideL T c) R) (hn : n ∈ L) : ledL p n T v ≠ c := fun h => by
  have htc : T.length = c.length := by rw [ht, dc.len]
  have k := (Kills.same s).mp ((wide_kills (v := e0 v) htc dT).mpr ((led_is (by omega) dc ht).mp h))
  obtain ⟨i, hi, el⟩ := List.mem_iff_getElem.mp hn
  have gl : L[i]? = some n := by rw [List.getElem?_eq_getElem hi, el]
  have ib : i < R.length := by rw [← E.len]; exact hi
  have gb : R[i]? = some R[i] := List.getElem?_eq_getElem ib
  have z := k _ (List.getElem_mem ib)
  have zero : dotV n (e0 R[i]) (uOf n (e0 v)) = 0 := sumN_zero fun j hj => by rw [E.pre i _ n j gb gl hj, Int.zero_mul]
  have z : p ∣ dotV n (e0 R[i]) (uOf n (e0 v)) + e0 R[i] n * uOf n (e0 v) n := z
  have a2 : uOf n (e0 v) n = -1 := by
    unfold uOf
    rw [if_neg (by omega), if_pos rfl]
  rw [zero, E.one i _ n gb gl, a2] at z
  have := Int.le_of_dvd (by omega) (Int.dvd_neg.mpr z)
  omega
theorem solved_zero (hp : 1 < p) (dT : ∀ r ∈ T, Dom p n r) (ht : T.length = m) (dc : Dom p m c) (E : RL p (n + 1) R L) (s : Same p (wideL T c) R) (hn : n ∉ L) (S : Sol n R L v) (EK : RL p n K LK) (ker : ∀ u : Vc, (∀ j, n ≤ j → p ∣ u j) → (Kills p n T u ↔ Sp p (vcs K) u)) : ∀ f ∈ LK, e0 v f = 0 := fun f hf => by
  have htc : T.length = c.length := by rw [ht, dc.len]
  have fn := EK.lt f hf
  refine S.off f fn fun q => ?_
  obtain ⟨k, hk, ek⟩ := List.mem_iff_getElem.mp hf
  have gk : LK[k]? = some f := by rw [List.getElem?_eq_getElem hk, ek]
  have kb : k < K.length := by rw [← EK.len]; exact hk
  have gK : K[k]? = some K[k] := List.getElem?_eq_getElem kb
  have kk : Kills p n T (e0 K[k]) := (ker (e0 K[k]) fun j hj => by
    rw [e0_ge (by rw [(EK.dom _ (List.getElem_mem kb)).len]; exact hj)]
    exact Int.dvd_zero p).mpr (.mem (vcs_mem gK))
  obtain ⟨i, hi, ei⟩ := List.mem_iff_getElem.mp q
  have gi : L[i]? = some (n - 1 - f) := by rw [List.getElem?_eq_getElem hi, ei]
  have ib : i < R.length := by rw [← E.len]; exact hi
  have gb : R[i]? = some R[i] := List.getElem?_eq_getElem ib
  -- the column turned about, with 0 behind it
  have kw : Kills p (n + 1) (wideL T c) (fun j => if j < n then e0 K[k] (n - 1 - j) else 0) := fun x hx => by
    obtain ⟨a, r, hr, rfl⟩ := wide_mem htc hx
    have hl := (dT r (List.mem_of_getElem? hr)).len
    have : dotV (n + 1) (e0 (r.reverse ++ [e0 c a])) (fun j => if j < n then e0 K[k] (n - 1 - j) else 0) = dotV n (e0 r) (e0 K[k]) := by
      show dotV n _ _ + e0 (r.reverse ++ [e0 c a]) n * (if n < n then e0 K[k] (n - 1 - n) else 0) = _
      rw [if_neg (by omega), Int.mul_zero, Int.add_zero]
      have : dotV n (e0 (r.reverse ++ [e0 c a])) (fun j => if j < n then e0 K[k] (n - 1 - j) else 0) = sumN (fun j => (fun i => e0 r i * e0 K[k] i) (n - 1 - j)) n := sumN_congr fun j hj => by
        show e0 (r.reverse ++ [e0 c a]) j * (if j < n then e0 K[k] (n - 1 - j) else 0) = e0 r (n - 1 - j) * e0 K[k] (n - 1 - j)
        rw [e0_wide hl, if_pos hj, if_pos hj]
      exact this.trans (sumN_back (f := fun i => e0 r i * e0 K[k] i))
    rw [this]
    exact kk r (List.mem_of_getElem? hr)
  have z := (Kills.same s).mp kw _ (List.getElem_mem ib)
  have key : dotV (n + 1) (e0 R[i]) (fun j => if j < n then e0 K[k] (n - 1 - j) else 0) = e0 R[i] (n - 1 - f) * (if n - 1 - f < n then e0 K[k] (n - 1 - (n - 1 - f)) else 0) := sumN_one (i := n - 1 - f) (n := n + 1) (by omega) fun j hj hne => by
    by_cases h1 : j < n - 1 - f
    · rw [E.pre i _ _ j gb gi h1, Int.zero_mul]
    · show e0 R[i] j * (if j < n then e0 K[k] (n - 1 - j) else 0) = 0
      by_cases h2 : j < n
      · rw [if_pos h2, EK.pre k _ f (n - 1 - j) gK gk (by omega), Int.mul_zero]
      · rw [if_neg h2, Int.mul_zero]
  rw [key, if_pos (by omega), E.one i _ _ gb gi, show n - 1 - (n - 1 - f) = f by omega, EK.one k _ f gK gk] at z
  have := Int.le_of_dvd (by omega) z
  omega
end
end Ma
set_option linter.all false
/-! Tables turned back; steps. -/
namespace Ma
def uV (k : Nat) : Vc := fun j => if j = k then 1 else 0
def unitL (n k : Nat) : Rw := (List.range n).map fun j => if j = k then 1 else 0
def stillL (n : Nat) : List Rw := (List.range n).map (unitL n)
theorem unitL_len {n k : Nat} : (unitL n k).length = n := by unfold unitL; simp
theorem unitL_at {n k j : Nat} (h : j < n) : e0 (unitL n k) j = if j = k then 1 else 0 := by
  refine e0_get ?_
  unfold unitL
  rw [List.getElem?_map, List.getElem?_range h]
  rfl
theorem unitL_dom {p : Int} (hp : 1 < p) {n k : Nat} : Dom p n (unitL n k) := ⟨unitL_len, fun x hx => by
  unfold unitL at hx
  obtain ⟨j, _, rfl⟩ := List.mem_map.mp hx
  split <;> omega⟩
theorem stillL_len {n : Nat} : (stillL n).length = n := by unfold stillL; simp
theorem stillL_get {n k : Nat} (h : k < n) : (stillL n)[k]? = some (unitL n k) := by
  unfold stillL
  rw [List.getElem?_map, List.getElem?_range h]
  rfl
abbrev rowAt (T : List Rw) (k : Nat) : Rw := T.getD k []
theorem rowAt_get {T : List Rw} {k : Nat} {r : Rw} (h : T[k]? = some r) : rowAt T k = r := by
  show T.getD k [] = r
  rw [List.getD_eq_getElem?_getD, h]
  rfl
theorem comb_sum {j : Nat} : ∀ {cs : Rw} {T : List Rw}, cs.length = T.length → comb cs (vcs T) j = sumN (fun k => e0 cs k * e0 (rowAt T k) j) T.length
  | [], [], _ => rfl
  | c :: cs, [], h => by simp at h
  | [], t :: T, h => by simp at h
  | c :: cs, t :: T, h => by
    have ih := comb_sum (j := j) (cs := cs) (T := T) (by simpa using h)
    show c * e0 t j + comb cs (vcs T) j = sumN _ (T.length + 1)
    rw [sumN_first, ih]
    rfl
section
variable {p : Int} {n : Nat} {T R : List Rw} {L : List Nat}
def wide2 (n : Nat) (T : List Rw) : List Rw := T.mapIdx fun i r => r ++ unitL n i
theorem wide2_get {i : Nat} {r : Rw} (h : T[i]? = some r) : (wide2 n T)[i]? = some (r ++ unitL n i) := by
  unfold wide2
  rw [List.getElem?_mapIdx, h]
  rfl
theorem wide2_len : (wide2 n T).length = T.length := by unfold wide2; rw [List.length_mapIdx]
theorem wide2_mem {x : Rw} (h : x ∈ wide2 n T) : ∃ (i : Nat) (r : Rw), T[i]? = some r ∧ x = r ++ unitL n i := by
  obtain ⟨i, hi, e⟩ := List.mem_iff_getElem.mp h
  have li : i < T.length := by rw [wide2_len] at hi; exact hi
  have g := wide2_get (n := n) (List.getElem?_eq_getElem li)
  rw [List.getElem?_eq_getElem hi] at g
  exact ⟨i, T[i], List.getElem?_eq_getElem li, by rw [← e]; exact Option.some.inj g⟩
theorem e0_cat {a b : Rw} {j : Nat} : e0 (a ++ b) j = if j < a.length then e0 a j else e0 b (j - a.length) := by
  unfold e0
  rw [List.getD_eq_getElem?_getD, List.getD_eq_getElem?_getD, List.getD_eq_getElem?_getD]
  split
  · rename_i h
    rw [List.getElem?_append_left h]
  · rename_i h
    rw [List.getElem?_append_right (by omega)]
theorem wide2_dom (hp : 1 < p) (dT : ∀ r ∈ T, Dom p n r) : ∀ x ∈ wide2 n T, Dom p (2 * n) x := fun x hx => by
  obtain ⟨i, r, hr, rfl⟩ := wide2_mem hx
  have d := dT r (List.mem_of_getElem? hr)
  have u := unitL_dom hp (n := n) (k := i)
  exact ⟨by rw [List.length_append, d.len, u.len]; omega, fun y hy => (List.mem_append.mp hy).elim (d.2 y) (u.2 y)⟩
theorem w2_lo (dT : ∀ r ∈ T, Dom p n r) {i j : Nat} {r : Rw} (hr : T[i]? = some r) (hj : j < n) : e0 (r ++ unitL n i) j = e0 r j := by
  rw [e0_cat, if_pos (by rw [(dT r (List.mem_of_getElem? hr)).len]; exact hj)]
theorem w2_hi (dT : ∀ r ∈ T, Dom p n r) {i t : Nat} {r : Rw} (hr : T[i]? = some r) (ht : t < n) : e0 (r ++ unitL n i) (n + t) = if t = i then 1 else 0 := by
  rw [e0_cat, (dT r (List.mem_of_getElem? hr)).len, if_neg (by omega), show n + t - n = t by omega, unitL_at ht]
theorem sp_wide (dT : ∀ r ∈ T, Dom p n r) {v : Vc} (h : Sp p (vcs T) v) : ∃ w, Sp p (vcs (wide2 n T)) w ∧ ∀ j, j < n → p ∣ w j - v j := by
  induction h with
  | @zero v z => exact ⟨fun _ => 0, .zero fun _ => Int.dvd_zero p, fun j _ => dvd_cast (Int.dvd_neg.mpr (z j)) (by show -v j = 0 - v j; omega)⟩
  | @add v w r hr k hw e ih =>
    obtain ⟨u, su, hu⟩ := ih
    obtain ⟨i, x, hx, rfl⟩ := of_vcs hr
    refine ⟨fun j => u j + k * e0 (x ++ unitL n i) j, Sp.sum su (.mem (vcs_mem (wide2_get hx))) k fun j => ⟨0, by omega⟩, fun j hj => ?_⟩
    show p ∣ u j + k * e0 (x ++ unitL n i) j - v j
    rw [w2_lo dT hx hj]
    exact dvd_cast (Int.dvd_sub (hu j hj) (e j)) (by omega)
theorem wide_sp (dT : ∀ r ∈ T, Dom p n r) (ht : T.length = n) {w : Vc} (h : Sp p (vcs (wide2 n T)) w) : ∀ j, j < n → p ∣ w j - sumN (fun k => w (n + k) * e0 (rowAt T k) j) n := by
  induction h with
  | @zero v z =>
    intro j _
    have := sumN_cg (p := p) (n := n) (f := fun k => v (n + k) * e0 (rowAt T k) j) (g := fun _ => 0) fun k _ => by
      show p ∣ v (n + k) * e0 (rowAt T k) j - 0
      rw [Int.sub_zero]
      exact Int.dvd_mul_of_dvd_left (z _)
    rw [sumN_zero (f := fun _ => 0) fun _ _ => rfl, Int.sub_zero] at this
    exact Int.dvd_sub (z j) this
  | @add v x r hr k hw e ih =>
    intro j hj
    obtain ⟨i, y, hy, rfl⟩ := of_vcs hr
    obtain ⟨a, t, hat, rfl⟩ := wide2_mem (List.mem_of_getElem? hy)
    have la : a < n := by
      obtain ⟨z, _⟩ := List.getElem?_eq_some_iff.mp hat
      omega
    have l := sumN_lin (n := n) (h := fun b => (x (n + b) + k * e0 (t ++ unitL n a) (n + b)) * e0 (rowAt T b) j) (f := fun b => x (n + b) * e0 (rowAt T b) j) (g := fun b => e0 (t ++ unitL n a) (n + b) * e0 (rowAt T b) j) k fun b _ => by
      show (x (n + b) + k * e0 (t ++ unitL n a) (n + b)) * e0 (rowAt T b) j = x (n + b) * e0 (rowAt T b) j + k * (e0 (t ++ unitL n a) (n + b) * e0 (rowAt T b) j)
      rw [Int.add_mul, Int.mul_assoc]
    have one : sumN (fun b => e0 (t ++ unitL n a) (n + b) * e0 (rowAt T b) j) n = e0 t j := by
      rw [sumN_one (i := a) la fun b hb hne => by rw [w2_hi dT hat hb, if_neg hne, Int.zero_mul]]
      rw [w2_hi dT hat la, if_pos rfl, rowAt_get hat, Int.one_mul]
    have c := sumN_cg (p := p) (n := n) (f := fun b => v (n + b) * e0 (rowAt T b) j) (g := fun b => (x (n + b) + k * e0 (t ++ unitL n a) (n + b)) * e0 (rowAt T b) j) fun b _ => by
      show p ∣ v (n + b) * e0 (rowAt T b) j - (x (n + b) + k * e0 (t ++ unitL n a) (n + b)) * e0 (rowAt T b) j
      rw [← Int.sub_mul]
      exact Int.dvd_mul_of_dvd_left (e _)
    rw [l, one] at c
    have ej := e j
    rw [w2_lo dT hat hj] at ej
    exact dvd_cast (Int.dvd_sub (Int.dvd_add ej (ih j hj)) c) (by omega)
theorem all_leads (hL : L.Pairwise (· < ·)) (le : L.length ≤ n) (h : ∀ k, k < n → k ∈ L) : L = List.range n := by
  have asc : (List.range n).Pairwise (· < ·) := List.pairwise_lt_range
  refine asc_eq hL asc fun l => ⟨fun hl => ?_, fun hl => h l (List.mem_range.mp hl)⟩
  apply Classical.byContradiction
  intro nl
  have ln : n ≤ l := by
    by_cases q : l < n
    · exact absurd (List.mem_range.mpr q) nl
    · omega
  have := asc_sub (L := List.range n ++ [l]) (L' := L) (List.pairwise_append.mpr ⟨asc, List.pairwise_singleton _ _, fun a ha b hb => by
    rw [List.mem_singleton.mp hb]
    have := List.mem_range.mp ha
    omega⟩) fun a ha => (List.mem_append.mp ha).elim (fun z => h a (List.mem_range.mp z)) fun z => by rw [List.mem_singleton.mp z]; exact hl
  rw [List.length_append, List.length_range] at this
  simp at this
  omega
/-- all units are sums of the lines -/
def Full (p : Int) (n : Nat) (T : List Rw) : Prop := ∀ k, k < n → Sp p (vcs T) (uV k)
theorem n1_of (hp : 1 < p) : ¬ p ∣ 1 := fun z => by
  have := Int.le_of_dvd (by omega) z
  omega
theorem full_take (hp : 1 < p) (inv : ∀ x : Int, 0 < x → x < p → ∃ k : Int, 1 ≤ k ∧ k < p ∧ (k * x) % p = 1) (dT : ∀ r ∈ T, Dom p n r) (ht : T.length = n) (F : Full p n T) (E : RL p (2 * n) R L) (s : Same p (wide2 n T) R) : R.map (List.take n) = stillL n := by
  have le : R.length ≤ n := by
    have := few_of hp inv (wide2_dom hp dT) E s.ge
    rw [wide2_len, ht] at this
    exact this
  have all : ∀ k, k < n → k ∈ L := fun k hk => by
    obtain ⟨w, sw, hw⟩ := sp_wide dT (F k hk)
    refine E.rb.first (sw.le s.le) (fun j hj => ?_) fun z => ?_
    · have := hw j (by omega)
      unfold uV at this
      rw [if_neg (by omega), Int.sub_zero] at this
      exact this
    · have := hw k hk
      unfold uV at this
      rw [if_pos rfl] at this
      exact n1_of hp (dvd_cast (Int.dvd_sub z this) (by omega))
  have eL := all_leads E.asc (by rw [E.len]; exact le) all
  have lR : R.length = n := by rw [← E.len, eL, List.length_range]
  apply List.ext_getElem (by rw [List.length_map, stillL_len, lR])
  intro i h1 h2
  rw [List.length_map] at h1
  have gi : R[i]? = some R[i] := List.getElem?_eq_getElem h1
  have si := stillL_get (n := n) (k := i) (by omega)
  rw [List.getElem?_eq_getElem h2] at si
  rw [Option.some.inj si, List.getElem_map]
  have dR := E.dom _ (List.getElem_mem h1)
  apply List.ext_getElem (by rw [List.length_take, dR.len, unitL_len]; omega)
  intro j j1 j2
  rw [unitL_len] at j2
  rw [List.getElem_take, ← e0_lt, ← e0_lt, unitL_at j2]
  have gj : L[j]? = some j := by rw [eL, List.getElem?_range j2]
  by_cases q : j = i
  · subst q
    rw [if_pos rfl, E.one j _ j gi gj]
  · rw [if_neg q, E.off j i _ j gi gj q]
theorem e0_take {r : Rw} {n j : Nat} (h : j < n) : e0 (r.take n) j = e0 r j := by
  unfold e0
  rw [List.getD_eq_getElem?_getD, List.getD_eq_getElem?_getD, List.getElem?_take, if_pos h]
theorem e0_drop {r : Rw} {n j : Nat} : e0 (r.drop n) j = e0 r (n + j) := by
  unfold e0
  rw [List.getD_eq_getElem?_getD, List.getD_eq_getElem?_getD, List.getElem?_drop]
/-- what is told undoes the table from both sides -/
theorem take_inv (hp : 1 < p) (dT : ∀ r ∈ T, Dom p n r) (ht : T.length = n) (E : RL p (2 * n) R L) (s : Same p (wide2 n T) R) (h : R.map (List.take n) = stillL n) :
    R.length = n ∧ (∀ i j, i < n → j < n → p ∣ sumN (fun k => e0 (rowAt (R.map (List.drop n)) i) k * e0 (rowAt T k) j) n - (if j = i then 1 else 0)) ∧ (∀ i j, i < n → j < n → p ∣ sumN (fun k => e0 (rowAt T i) k * e0 (rowAt (R.map (List.drop n)) k) j) n - (if j = i then 1 else 0)) ∧ Full p n T := by
  have lR : R.length = n := by
    have := congrArg List.length h
    rw [List.length_map, stillL_len] at this
    exact this
  have ent : ∀ i j, i < n → j < n → ∀ b, R[i]? = some b → e0 b j = if j = i then 1 else 0 := fun i j hi hj b hb => by
    have e : (R.map (List.take n))[i]? = (stillL n)[i]? := by rw [h]
    rw [List.getElem?_map, hb, stillL_get hi] at e
    have e : b.take n = unitL n i := Option.some.inj e
    rw [← e0_take hj, e, unitL_at hj]
  have getR : ∀ i, i < n → ∃ b, R[i]? = some b := fun i hi => ⟨R[i]'(by omega), List.getElem?_eq_getElem (by omega)⟩
  have getT : ∀ i, i < n → ∃ b, T[i]? = some b := fun i hi => ⟨T[i]'(by omega), List.getElem?_eq_getElem (by omega)⟩
  have lead : ∀ i, i < n → L[i]? = some i := fun i hi => by
    obtain ⟨b, hb⟩ := getR i hi
    have il : i < L.length := by rw [E.len]; omega
    have gl : L[i]? = some L[i] := List.getElem?_eq_getElem il
    rw [gl]
    congr 1
    rcases Nat.lt_trichotomy L[i] i with q | q | q
    · have := E.one i b _ hb gl
      rw [ent i _ hi (by omega) b hb, if_neg (by omega)] at this
      cases this
    · exact q
    · have := E.pre i b _ i hb gl q
      rw [ent i i hi hi b hb, if_pos rfl] at this
      cases this
  have eL : L = List.range n := by
    apply List.ext_getElem (by rw [E.len, lR, List.length_range])
    intro i h1 h2
    rw [List.length_range] at h2
    have := lead i h2
    rw [List.getElem?_eq_getElem h1] at this
    rw [Option.some.inj this, List.getElem_range]
  have dropAt : ∀ i j b, R[i]? = some b → e0 (rowAt (R.map (List.drop n)) i) j = e0 b (n + j) := fun i j b hb => by
    rw [rowAt_get (r := b.drop n) (by rw [List.getElem?_map, hb]; rfl), e0_drop]
  have BT : ∀ i j, i < n → j < n → p ∣ sumN (fun k => e0 (rowAt (R.map (List.drop n)) i) k * e0 (rowAt T k) j) n - (if j = i then 1 else 0) := fun i j hi hj => by
    obtain ⟨b, hb⟩ := getR i hi
    have := wide_sp dT ht (s.ge _ (vcs_mem hb)) j hj
    rw [ent i j hi hj b hb] at this
    have e : sumN (fun k => e0 (rowAt (R.map (List.drop n)) i) k * e0 (rowAt T k) j) n = sumN (fun k => e0 b (n + k) * e0 (rowAt T k) j) n := sumN_congr fun k hk => by rw [dropAt i k b hb]
    rw [e]
    exact dvd_cast (Int.dvd_neg.mpr this) (by omega)
  refine ⟨lR, BT, fun i j hi hj => ?_, fun k hk => ?_⟩
  · obtain ⟨t, htt⟩ := getT i hi
    have told := E.rb.told (s.le _ (vcs_mem (wide2_get htt))) (n + j)
    rw [w2_hi dT htt hj] at told
    have cs : comb (L.map (e0 (t ++ unitL n i))) (vcs R) (n + j) = sumN (fun k => e0 (rowAt T i) k * e0 (rowAt (R.map (List.drop n)) k) j) n := by
      rw [comb_sum (by rw [List.length_map, E.len]), lR]
      refine sumN_congr fun k hk => ?_
      obtain ⟨b, hb⟩ := getR k hk
      have e1 : e0 (L.map (e0 (t ++ unitL n i))) k = e0 t k := by
        rw [e0_get (x := e0 (t ++ unitL n i) k) (by rw [List.getElem?_map, lead k hk]; rfl), w2_lo dT htt hk]
      rw [e1, rowAt_get hb, rowAt_get htt, dropAt k j b hb]
    rw [cs] at told
    exact dvd_cast (Int.dvd_neg.mpr told) (by omega)
  · obtain ⟨b, hb⟩ := getR k hk
    refine (comb_sp (p := p) (cs := b.drop n) (bs := vcs T) fun x hx => hx).cg fun j => ?_
    have lb := (E.dom b (List.mem_of_getElem? hb)).len
    rw [comb_sum (by rw [List.length_drop, lb, ht]; omega), ht]
    by_cases hj : j < n
    · have := BT k j hk hj
      have e : sumN (fun a => e0 (rowAt (R.map (List.drop n)) k) a * e0 (rowAt T a) j) n = sumN (fun a => e0 (b.drop n) a * e0 (rowAt T a) j) n := sumN_congr fun a ha => by
        rw [dropAt k a b hb, e0_drop]
      rw [e] at this
      unfold uV
      exact dvd_cast (Int.dvd_neg.mpr this) (by omega)
    · have z : sumN (fun a => e0 (b.drop n) a * e0 (rowAt T a) j) n = 0 := sumN_zero fun a ha => by
        obtain ⟨t, htt⟩ := getT a ha
        rw [rowAt_get htt, e0_ge (r := t) (by rw [(dT t (List.mem_of_getElem? htt)).len]; omega), Int.mul_zero]
      rw [z]
      unfold uV
      rw [if_neg (by omega)]
      exact ⟨0, by omega⟩
theorem full_rank (hp : 1 < p) (E : RL p n R L) (s : Same p T R) : Full p n T ↔ R.length = n := by
  constructor
  · intro F
    have all : ∀ k, k < n → k ∈ L := fun k hk => by
      refine E.rb.first ((F k hk).le s.le) (fun j hj => ?_) fun z => ?_
      · unfold uV
        rw [if_neg (by omega)]
        exact Int.dvd_zero p
      · unfold uV at z
        rw [if_pos rfl] at z
        exact n1_of hp z
    have a1 := asc_sub (L := List.range n) (L' := L) List.pairwise_lt_range fun k hk => all k (List.mem_range.mp hk)
    have a2 := asc_sub (L := L) (L' := List.range n) E.asc fun k hk => List.mem_range.mpr (E.lt k hk)
    rw [List.length_range] at a1 a2
    rw [← E.len]
    omega
  · intro h k hk
    have eL : L = List.range n := by
      refine asc_eq E.asc List.pairwise_lt_range fun l => ⟨fun hl => List.mem_range.mpr (E.lt l hl), fun hl => ?_⟩
      apply Classical.byContradiction
      intro nl
      have := asc_sub (L := L) (L' := (List.range n).erase l) E.asc fun x hx => (List.mem_erase_of_ne (fun e => nl (by rw [← e]; exact hx))).mpr (List.mem_range.mpr (E.lt x hx))
      rw [List.length_erase_of_mem hl, List.length_range, E.len, h] at this
      have := List.mem_range.mp hl
      omega
    have gb : R[k]? = some (R[k]'(by omega)) := List.getElem?_eq_getElem (by omega)
    have dR := E.dom _ (List.mem_of_getElem? gb)
    refine ((Sp.mem (vcs_mem gb)).le s.ge).cg fun j => ?_
    unfold uV
    by_cases hj : j < n
    · have gj : L[j]? = some j := by rw [eL, List.getElem?_range hj]
      by_cases q : j = k
      · subst q
        rw [if_pos rfl, E.one j _ j gb gj]
        exact ⟨0, by omega⟩
      · rw [if_neg q, E.off j k _ j gb gj q]
        exact ⟨0, by omega⟩
    · rw [if_neg (by omega), e0_ge (by rw [dR.len]; omega)]
      exact ⟨0, by omega⟩
end
end Ma
set_option linter.all false
/-! Steps keep what is spanned. -/
namespace Ma
section
variable {p : Int} {n : Nat} {F G : List Rw}
theorem Full.le (h : Full p n F) (s : ∀ v ∈ vcs F, Sp p (vcs G) v) : Full p n G := fun k hk => (h k hk).le s
theorem full_still (hp : 1 < p) : Full p n (stillL n) := fun k hk => (Sp.mem (vcs_mem (stillL_get hk))).cg fun j => by
  unfold uV
  by_cases hj : j < n
  · rw [unitL_at hj]
    exact ⟨0, by omega⟩
  · rw [if_neg (by omega), e0_ge (by rw [unitL_len]; omega)]
    exact ⟨0, by omega⟩
/-- a line with a multiple of another one more -/
theorem full_add (hp : 0 < p) (dF : ∀ r ∈ F, Dom p n r) {i j : Nat} {a b : Rw} {k : Int} (ha : F[i]? = some a) (hb : F[j]? = some b) (ne : i ≠ j) (h : Full p n F) : Full p n (F.set i (addL p k a b)) := by
  obtain ⟨li, _⟩ := List.getElem?_eq_some_iff.mp ha
  have da := dF a (List.mem_of_getElem? ha)
  have db := dF b (List.mem_of_getElem? hb)
  refine h.le fun v hv => ?_
  obtain ⟨x, r, hx, rfl⟩ := of_vcs hv
  by_cases q : x = i
  · subst q
    rw [ha] at hx
    cases hx
    have g1 : (F.set x (addL p k a b))[x]? = some (addL p k a b) := List.getElem?_set_self li
    have g2 : (F.set x (addL p k a b))[j]? = some b := by rw [List.getElem?_set_ne ne]; exact hb
    refine Sp.sum (.mem (vcs_mem g1)) (.mem (vcs_mem g2)) (-k) fun t => ?_
    rw [addL_at (by rw [da.len, db.len])]
    have := dvd_emod hp (e0 a t + k * e0 b t)
    refine dvd_cast (Int.dvd_neg.mpr this) ?_
    rw [Int.neg_mul]
    omega
  · exact .mem (vcs_mem (by rw [List.getElem?_set_ne (fun e => q e.symm)]; exact hx))
/-- a line multiplied -/
theorem full_mul (hp : 1 < p) (inv : ∀ x : Int, 0 < x → x < p → ∃ k : Int, 1 ≤ k ∧ k < p ∧ (k * x) % p = 1) {i : Nat} {a : Rw} {k : Int} (ha : F[i]? = some a) (h1 : 0 < k) (h2 : k < p) (h : Full p n F) : Full p n (F.set i (mulL p k a)) := by
  obtain ⟨li, _⟩ := List.getElem?_eq_some_iff.mp ha
  obtain ⟨u, _, _, hu⟩ := inv k h1 h2
  refine h.le fun v hv => ?_
  obtain ⟨x, r, hx, rfl⟩ := of_vcs hv
  by_cases q : x = i
  · subst q
    rw [ha] at hx
    cases hx
    have g1 : (F.set x (mulL p k a))[x]? = some (mulL p k a) := List.getElem?_set_self li
    refine Sp.mul (.mem (vcs_mem g1)) u fun t => ?_
    rw [mulL_at]
    have a1 := dvR u (dvd_emod (p := p) (by omega) (k * e0 a t))
    have a2 : p ∣ (u * k - 1) * e0 a t := Int.dvd_mul_of_dvd_left (by
      have := dvd_emod (p := p) (by omega) (u * k)
      rw [hu] at this
      exact dvd_cast (Int.dvd_neg.mpr this) (by omega))
    refine dvd_cast (Int.dvd_neg.mpr (Int.dvd_add a1 a2)) ?_
    rw [Int.mul_sub, Int.sub_mul, Int.mul_assoc]
    omega
  · exact .mem (vcs_mem (by rw [List.getElem?_set_ne (fun e => q e.symm)]; exact hx))
theorem full_perm (h : Full p n F) (s : ∀ r ∈ F, r ∈ G) : Full p n G := h.le fun v hv => by
  obtain ⟨r, hr, rfl⟩ := List.mem_map.mp hv
  exact .mem (List.mem_map.mpr ⟨r, s r hr, rfl⟩)
end
end Ma
set_option linter.all false
set_option maxRecDepth 100000
namespace Pf
open PySem PySem.Spec L2 Mi Ma
abbrev rowW (r : Rw) : D := wk (r.map .int)
theorem flat_one {α : Type} (x : α) : ∀ n : Nat, (List.replicate n [x]).flatten = List.replicate n x
  | 0 => rfl
  | n + 1 => by rw [List.replicate_succ, List.replicate_succ, List.flatten_cons, flat_one x n]; rfl
theorem rg_nat {s s1 : SD} {f : FE} {n : Nat} (h : f s = some (.int (n : Int), s1)) (hn : n ≤ 1000000) : iR1 f s = some ((List.range n).map fun i : Nat => PyData.int ((i : Nat) : Int), s1) := by
  have := v_R1 h (by omega)
  rw [Int.toNat_natCast, rgD_nat] at this
  exact this
theorem e_zeros {n : Nat} (hn : n ≤ 1000) : Ret F_zeros [.int (n : Int)] (rowD (List.replicate n 0)) := by
  refine runF_rt (s := [some (.int (n : Int))]) ?_ (by simp)
  show g_zeros [some (.int (n : Int))] = _
  unfold g_zeros
  refine v_rt (v_bin (v_tup (v_cons rfl rfl)) (v_at rfl) ?_)
  show (if _ then _ else _) = _
  rw [if_pos ⟨by simp, by omega, by omega, by simp⟩, Int.toNat_natCast, flat_one]
  show some (PyData.tuple (List.replicate n (PyData.int 0))) = some (PyData.tuple ((List.replicate n (0 : Int)).map .int))
  rw [List.map_replicate]
theorem unit_cat {n k : Nat} (h : k < n) : List.replicate k (0 : Int) ++ [1] ++ List.replicate (n - k - 1) 0 = unitL n k := by
  apply List.ext_getElem (by simp [unitL_len]; omega)
  intro j h1 h2
  rw [unitL_len] at h2
  rw [← e0_lt, ← e0_lt, unitL_at h2, e0_cat, e0_cat]
  have z : ∀ m t, e0 (List.replicate m (0 : Int)) t = 0 := fun m t => by
    unfold e0
    rw [List.getD_eq_getElem?_getD, List.getElem?_replicate]
    split <;> rfl
  by_cases a : j < k
  · rw [if_pos (by simp; omega), if_pos (by simp; omega), z, if_neg (by omega)]
  · by_cases b : j = k
    · subst b
      rw [if_pos (by simp), if_neg (by simp), if_pos rfl]
      simp [e0]
    · rw [if_neg (by simp; omega), z, if_neg b]
theorem cat_rows {a b : Rw} (h : a.length + b.length ≤ 1000000) : dPlus (rowD a) (rowD b) = some (rowD (a ++ b)) := by
  show (if (a.map PyData.int).length + (b.map PyData.int).length ≤ 1000000 then some (PyData.tuple (a.map PyData.int ++ b.map PyData.int)) else none) = _
  rw [if_pos (by rw [List.length_map, List.length_map]; exact h), ← List.map_append]
theorem e_unit {n k : Nat} (hk : k < n) (hn : n ≤ 1000) : Ret F_unit [.int (n : Int), .int (k : Int)] (rowD (unitL n k)) := by
  refine runF_rt (s := [some (.int (n : Int)), some (.int (k : Int))]) ?_ (by simp)
  show g_unit [some (.int (n : Int)), some (.int (k : Int))] = _
  unfold g_unit
  have e1 : ((n : Int) - (k : Int)) - 1 = ((n - k - 1 : Nat) : Int) := by omega
  refine v_rt (v_bin (v_bin (v_call [eVar 1] (v_cons (v_at rfl) rfl) rfl (e_zeros (n := k) (by omega))) (b := rowD [1]) rfl (cat_rows (b := [1]) (by simp; omega))) (v_call [eBin dSub (eBin dSub (eVar 0) (eVar 1)) (eC (.int 1))] (ds := [.int ((n - k - 1 : Nat) : Int)]) (v_cons (v_bin (v_bin (v_at rfl) (v_at rfl) rfl) rfl (by show some (PyData.int ((n : Int) - (k : Int) - 1)) = _; rw [e1])) rfl) rfl (e_zeros (n := n - k - 1) (by omega))) ?_)
  rw [cat_rows (by simp; omega), unit_cat hk]
theorem e_still {n : Nat} (hn : n ≤ 1000) : Ret F_still_table [.int (n : Int)] (tabD (stillL n)) := by
  refine runF_rt (s := [some (.int (n : Int)), none]) ?_ (by simp)
  show g_still_table [some (.int (n : Int)), none] = _
  unfold g_still_table
  refine v_rt (v_c1 (v_F (v_lcB (s1 := [some (.int (n : Int)), none]) (φ := fun i : Nat => PyData.int ((i : Nat) : Int)) (ψ := fun k : Nat => rowD (unitL n k)) (xs := List.range n) (rg_nat (v_at rfl) (by omega)) (by simp) fun k hk => ?_)) ?_)
  · exact v_call [eVar 0, eVar 1] (v_cons (v_at rfl) (v_cons (v_at rfl) rfl)) rfl (e_unit (List.mem_range.mp hk) hn)
  · show some (PyData.tuple _) = some (PyData.tuple ((stillL n).map rowD))
    unfold stillL
    rw [List.map_map]
    rfl
theorem e_lunit {n : Nat} (hn : n ≤ 1000) : Ret F__law_unit [.int (n : Int)] (tabD (stillL n)) := by
  refine runF_rt (s := [some (.int (n : Int)), none, none]) ?_ (by simp)
  show g__law_unit [some (.int (n : Int)), none, none] = _
  unfold g__law_unit
  refine v_rt (v_c1 (v_F (v_lcB (s1 := [some (.int (n : Int)), none, none]) (φ := fun i : Nat => PyData.int ((i : Nat) : Int)) (ψ := fun k : Nat => rowD (unitL n k)) (xs := List.range n) (rg_nat (v_at rfl) (by omega)) (by simp) fun k hk => ?_)) ?_)
  · refine v_c1 (v_F (v_lcB (s1 := [some (.int (n : Int)), some (.int (k : Int)), none]) (φ := fun i : Nat => PyData.int ((i : Nat) : Int)) (ψ := fun j : Nat => PyData.int (if j = k then 1 else 0)) (xs := List.range n) (rg_nat (v_at rfl) (by omega)) (by simp) fun j hj => ?_)) ?_
    · by_cases e : j = k
      · subst e
        rw [if_pos rfl]
        exact v_ifT (v_eqT (v_at rfl) (v_at rfl) rfl dEq_i) rfl
      · rw [if_neg e]
        exact v_ifF (v_eqF (v_at rfl) (v_at rfl) (fun z => e (by omega)) dEq_i) rfl
    · show some (PyData.tuple _) = some (PyData.tuple ((unitL n k).map .int))
      unfold unitL
      rw [List.map_map]
      rfl
  · show some (PyData.tuple _) = some (PyData.tuple ((stillL n).map rowD))
    unfold stillL
    rw [List.map_map]
    rfl
/-! sums -/
theorem sum_range (f : Nat → Int) : ∀ n : Nat, ((List.range n).map f).sum = sumN f n
  | 0 => rfl
  | n + 1 => by
    rw [List.range_succ, List.map_append, List.sum_append, sum_range f n]
    show _ + (f n + 0) = sumN f n + f n
    omega
theorem cSum_ints (ns : List Int) : cSum (.list (ns.map .int)) = some (.int ns.sum) := by
  show (wholesOf (ns.map .int)).map _ = _
  rw [wholesOf_map]
  rfl
theorem small_e0 {p : Int} {n : Nat} {r : Rw} (hp : Pr p) (d : Dom p n r) (j : Nat) : (e0 r j).natAbs < 18446744073709551616 := by
  have := d.at (by have := hp.lo; omega) j
  have := hp.hi
  omega
theorem e_led {p : Int} {n m : Nat} {T : List Rw} {v : Rw} {w : D} (hp : Pr p) (dT : ∀ r ∈ T, Dom p n r) (dv : Dom p n v) (hn : n ≤ 1000) (hx : ∀ j, j < n → dIx w (.int (j : Int)) = some (.int (e0 v j))) (hl : cLen w = some (.int (n : Int))) : Ret F__law_led [.int p, tabD T, w] (rowW (ledL p n T v)) := by
  refine runF_rt (s := [some (.int p), some (tabD T), some w, none, none]) ?_ (by simp)
  show g__law_led [some (.int p), some (tabD T), some w, none, none] = _
  unfold g__law_led
  have lc := v_lcB (s := [some (.int p), some (tabD T), some w, none, none]) (s1 := [some (.int p), some (tabD T), some w, none, none]) (i := 3) (fi := iS (eVar 1)) (fe := eBin dMod (eCall1 cInt (eCall1 cSum (eF (eLc (iR1 (eCall1 cLen (eVar 2))) (gNm 4) tYs (eBin dMul (eBin dIx (eVar 3) (eVar 4)) (eBin dIx (eVar 2) (eVar 4))) [4])))) (eVar 0))
    (φ := rowD) (ψ := fun r => PyData.int (dotV n (e0 r) (e0 v) % p)) (xs := T) (v_St (v_at rfl)) (by simp) fun r hr => by
      have d := dT r hr
      have inn := v_lcB (s := [some (.int p), some (tabD T), some w, some (rowD r), none]) (s1 := [some (.int p), some (tabD T), some w, some (rowD r), none]) (i := 4) (fi := iR1 (eCall1 cLen (eVar 2))) (fe := eBin dMul (eBin dIx (eVar 3) (eVar 4)) (eBin dIx (eVar 2) (eVar 4)))
        (φ := fun i : Nat => PyData.int ((i : Nat) : Int)) (ψ := fun j : Nat => PyData.int (e0 r j * e0 v j)) (xs := List.range n) (rg_nat (v_c1 (v_at rfl) hl) (by omega)) (by simp) fun j hj => by
          have hj := List.mem_range.mp hj
          exact v_bin (v_bin (v_at rfl) (v_at rfl) (e0_ix (by rw [d.len]; exact hj))) (v_bin (v_at rfl) (v_at rfl) (hx j hj)) (dMul_r (small_e0 hp dv j))
      refine v_bin (v_c1 (v_c1 (v_F inn) (c := .int (dotV n (e0 r) (e0 v))) ?_) rfl) (v_at rfl) (dMod_p (by have := hp.lo; omega))
      have : (List.range n).map (fun j : Nat => PyData.int (e0 r j * e0 v j)) = ((List.range n).map fun j => e0 r j * e0 v j).map .int := by rw [List.map_map]; rfl
      rw [this, cSum_ints, sum_range]
  refine v_rt ?_
  unfold eWk
  rw [v_c1 (op := cTupL) (c := .tuple (T.map fun r => PyData.int (dotV n (e0 r) (e0 v) % p))) lc rfl]
  show some (wk _, _) = some (wk ((ledL p n T v).map .int), _)
  unfold ledL
  rw [List.map_map]
  rfl
theorem e_rank {p : Int} {n : Nat} {C : List Rw} (hp : Pr p) (dC : ∀ r ∈ C, Dom p n r) (hn : n ≤ 1000) (hC : C.length ≤ 1000) : ∃ B L, Ret F__law_rank [.int p, tabD C, .int (n : Int)] (.int (B.length : Int)) ∧ RL p n B L ∧ Ma.Same p C B := by
  obtain ⟨B, L, r, R, s⟩ := e_lawred hp dC hn hC
  refine ⟨B, L, runF_rt (s := [some (.int p), some (tabD C), some (.int (n : Int))]) ?_ (by simp), R, s⟩
  show g__law_rank [some (.int p), some (tabD C), some (.int (n : Int))] = _
  unfold g__law_rank
  refine v_rt (v_c1 (v_call [eVar 0, eVar 1, eVar 2] (v_cons (v_at rfl) (v_cons (v_at rfl) (v_cons (v_at rfl) rfl))) rfl r) ?_)
  show some (PyData.int ((B.map rowD).length : Int)) = _
  rw [List.length_map]
end Pf
set_option linter.all false
set_option maxRecDepth 100000
namespace Pf
open PySem PySem.Spec L2 Mi Ma
variable {s s1 s2 : SD} {f : FE}
theorem eLi_at {k : Nat} {l : List D} (h : s[k]? = some (some (.list l))) : eLi k s = some l := by unfold eLi; rw [h]
theorem v_appL {k : Nat} {d : D} {l0 l : List D} (h0 : s[k]? = some (some (.list l0))) (h : f s = some (d, s1)) (h1 : s1[k]? = some (some (.list l))) (hl : l.length < 1000000) : sApp k f s = some (.nx (s1.set k (some (.list (l ++ [d]))))) := by
  unfold sApp
  rw [eLi_at h0]
  show ((f s).bind _) = _
  rw [h]
  show ((eLi k s1).bind _) = _
  rw [eLi_at h1]
  show (if _ then _ else _) = _
  rw [if_pos hl]
theorem v_ext {k : Nat} {l0 l es : List D} (h0 : s[k]? = some (some (.list l0))) (h : f s = some (.list es, s1)) (h1 : s1[k]? = some (some (.list l))) (hl : l.length + es.length ≤ 1000000) : sExt k f s = some (.nx (s1.set k (some (.list (l ++ es))))) := by
  unfold sExt
  rw [eLi_at h0]
  show ((f s).bind _) = _
  rw [h]
  show ((eLi k s1).bind _) = _
  rw [eLi_at h1]
  show (if _ then _ else _) = _
  rw [if_pos hl]
theorem v_mv {i j : Nat} {g : FS} {d : D} {ds : List D} (h : f s = some (d, s1)) (hi : i < s1.length) (hg : g (s1.set i (some d)) = some (.nx s2)) (h2 : s2[i]? = some (some (.list ds))) (hj : j < s2.length) : sOwnMv f i g j s = some (.nx ((s2.set i none).set j (some (.list ds)))) := by
  unfold sOwnMv
  rw [h]
  show (if _ then _ else _) = _
  rw [if_pos hi]
  show ((g (s1.set i (some d))).bind _) = _
  rw [hg]
  show ((eLi i s2).bind _) = _
  rw [eLi_at h2]
  show (if _ then _ else _) = _
  rw [if_pos hj]
theorem v_parO {g : FE} {i j : Nat} {a b : D} (h1 : f s = some (a, s1)) (h2 : g s1 = some (b, s2)) (hj : j < s2.length) : sParO i j f g s = some (.nx ((s2.set i (some a)).set j (some b))) := by
  unfold sParO
  rw [h1]
  show ((g s1).bind _) = _
  rw [h2]
  show (if _ then _ else _) = _
  rw [if_pos hj]
theorem v_bor {own : List Nat} {k : Nat} {d : D} {l : List D} {t : SD} (h0 : s[k]? = some (some (.list l))) (h : f (hideD own k s) = some (d, t)) (hm : imm d = true) : eBor own k f s = some (d, s) := by
  unfold eBor
  rw [eLi_at h0]
  show ((f (hideD own k s)).bind _) = _
  rw [h]
  show (if imm d = true then _ else _) = _
  rw [if_pos hm]
/-! all columns -/
def grow (P : Nat) (E : List Rw) : List Rw := E.flatMap fun v => (List.range P).map fun x : Nat => v ++ [(x : Int)]
theorem grow_mem {P : Nat} {E : List Rw} {j : Nat} (h : ∀ v, v ∈ E ↔ Dom (P : Int) j v) (v : Rw) : v ∈ grow P E ↔ Dom (P : Int) (j + 1) v := by
  unfold grow
  rw [List.mem_flatMap]
  constructor
  · intro ⟨u, hu, hv⟩
    obtain ⟨x, hx, rfl⟩ := List.mem_map.mp hv
    have d := (h u).mp hu
    have := List.mem_range.mp hx
    refine ⟨by rw [List.length_append, d.len]; rfl, fun y hy => ?_⟩
    rcases List.mem_append.mp hy with z | z
    · exact d.2 y z
    · rw [List.mem_singleton.mp z]
      omega
  · intro d
    have ln := d.len
    have ne : v ≠ [] := fun z => by rw [z] at ln; simp at ln
    have lst := d.2 _ (List.getLast_mem ne)
    refine ⟨v.dropLast, (h _).mpr ⟨by rw [List.length_dropLast, ln]; rfl, fun y hy => d.2 y (List.dropLast_subset _ hy)⟩, List.mem_map.mpr ⟨(v.getLast ne).toNat, List.mem_range.mpr (by omega), ?_⟩⟩
    rw [Int.toNat_of_nonneg lst.1]
    exact List.dropLast_concat_getLast ne
theorem grow_len {P : Nat} : ∀ {E : List Rw}, (grow P E).length = E.length * P
  | [] => by unfold grow; simp
  | v :: E => by
    have ih := grow_len (P := P) (E := E)
    unfold grow at ih ⊢
    rw [List.flatMap_cons, List.length_append, ih, List.length_map, List.length_range, List.length_cons, Nat.add_mul]
    omega
theorem grow_snoc {P : Nat} {E : List Rw} {v : Rw} : grow P (E ++ [v]) = grow P E ++ (List.range P).map fun x : Nat => v ++ [(x : Int)] := by
  unfold grow
  rw [List.flatMap_append]
  simp
theorem catW {a b : Rw} (h : a.length + b.length ≤ 1000000) : dCatW (rowW a) (rowW b) = some (rowW (a ++ b)) := by
  show (if (a.map PyData.int).length + (b.map PyData.int).length ≤ 1000000 then some (wk (a.map PyData.int ++ b.map PyData.int)) else none) = _
  rw [if_pos (by rw [List.length_map, List.length_map]; exact h), ← List.map_append]
theorem v_wk {l : List D} (h : f s = some (.tuple l, s1)) : eWk f s = some (wk l, s1) := by
  unfold eWk
  rw [h]
  rfl
theorem pow_le {P j n : Nat} (hP : 1 ≤ P) (h : j ≤ n) : P ^ j ≤ P ^ n := Nat.pow_le_pow_right hP h
theorem e_every {P n : Nat} (hP : 1 ≤ P) (hb : P ^ n ≤ 2000) (hn : n ≤ 50) (hP2 : P ≤ 50) : ∃ E : List Rw, Ret F__law_every [.int (P : Int), .int (n : Int)] (.list (E.map rowW)) ∧ (∀ v, v ∈ E ↔ Dom (P : Int) n v) ∧ E.length = P ^ n := by
  obtain ⟨s', e1, E, x3, x5, e2, em, el⟩ := v_for (items := (List.range n).map fun i : Nat => PyData.int ((i : Nat) : Int)) (fi := iR1 (eVar 1)) (h := gNm 3) (fb := (sOwnMv (eLst aNil) 4 (sFor (iS (eVar 2)) (gNm 5) (sExt 4 (eLc (iR1 (eVar 0)) (gNm 6) tYs (eBin dCatW (eVar 5) (eWk (eTup (aCons (eVar 6) aNil)))) [6]))) 2))
    (s := [some (.int (P : Int)), some (.int (n : Int)), some (.list [rowW []]), none, none, none, none]) (s1 := [some (.int (P : Int)), some (.int (n : Int)), some (.list [rowW []]), none, none, none, none])
    (fun j s => ∃ (E : List Rw) (x3 x5 : Option D), s = [some (.int (P : Int)), some (.int (n : Int)), some (.list (E.map rowW)), x3, none, x5, none] ∧ (∀ v, v ∈ E ↔ Dom (P : Int) j v) ∧ E.length = P ^ j)
    (rg_nat (v_at rfl) (by omega)) ⟨[[]], none, none, rfl, fun v => ⟨fun h => by rw [List.mem_singleton.mp h]; exact ⟨rfl, fun x hx => nomatch hx⟩, fun d => List.mem_singleton.mpr (List.eq_nil_of_length_eq_zero d.len)⟩, rfl⟩ (fun j x s hj ⟨E, x3, x5, es, em, el⟩ => by
      subst es
      have jn : j < n := by
        obtain ⟨z, _⟩ := List.getElem?_eq_some_iff.mp hj
        rw [List.length_map, List.length_range] at z
        exact z
      have small : E.length * P ≤ 2000 := by
        rw [el, ← Nat.pow_succ]
        exact Nat.le_trans (pow_le hP jn) hb
      have lv : ∀ v ∈ E, v.length ≤ 50 := fun v hv => by
        have := ((em v).mp hv).len
        omega
      obtain ⟨t, q1, y5, q2⟩ := v_for (items := E.map rowW) (fi := iS (eVar 2)) (h := gNm 5) (fb := sExt 4 (eLc (iR1 (eVar 0)) (gNm 6) tYs (eBin dCatW (eVar 5) (eWk (eTup (aCons (eVar 6) aNil)))) [6]))
        (s := [some (.int (P : Int)), some (.int (n : Int)), some (.list (E.map rowW)), some x, some (.list []), x5, none]) (s1 := [some (.int (P : Int)), some (.int (n : Int)), some (.list (E.map rowW)), some x, some (.list []), x5, none])
        (fun i s => ∃ y5, s = [some (.int (P : Int)), some (.int (n : Int)), some (.list (E.map rowW)), some x, some (.list ((grow P (E.take i)).map rowW)), y5, none])
        (v_S (v_at rfl)) ⟨x5, rfl⟩ (fun i d s hi ⟨y5, es⟩ => by
          subst es
          rw [List.getElem?_map] at hi
          obtain ⟨v, hv, rfl⟩ := Option.map_eq_some_iff.mp hi
          refine ⟨_, _, _, rfl, ?_, .inl rfl, some (rowW v), rfl⟩
          have lc := v_lcB (s := [some (.int (P : Int)), some (.int (n : Int)), some (.list (E.map rowW)), some x, some (.list ((grow P (E.take i)).map rowW)), some (rowW v), none]) (s1 := [some (.int (P : Int)), some (.int (n : Int)), some (.list (E.map rowW)), some x, some (.list ((grow P (E.take i)).map rowW)), some (rowW v), none]) (i := 6) (fi := iR1 (eVar 0)) (fe := eBin dCatW (eVar 5) (eWk (eTup (aCons (eVar 6) aNil))))
            (φ := fun i : Nat => PyData.int ((i : Nat) : Int)) (ψ := fun y : Nat => rowW (v ++ [(y : Int)])) (xs := List.range P) (rg_nat (v_at rfl) (by omega)) (by simp) fun y hy => v_bin (v_at rfl) (v_wk (v_tup (v_cons (v_at rfl) rfl))) (catW (b := [(y : Int)]) (by have := lv v (List.mem_of_getElem? hv); simp; omega))
          refine (v_ext rfl lc rfl ?_).trans ?_
          · rw [List.length_map, List.length_map, List.length_range, grow_len, List.length_take]
            have : min i E.length * P ≤ E.length * P := Nat.mul_le_mul_right _ (Nat.min_le_right _ _)
            omega
          · have tk : E.take (i + 1) = E.take i ++ [v] := by rw [List.take_succ, hv]; rfl
            rw [tk, grow_snoc, List.map_append, List.map_map]
            rfl)
      rw [List.length_map, List.take_length] at q2
      refine ⟨_, _, [some (.int (P : Int)), some (.int (n : Int)), some (.list ((grow P E).map rowW)), some x, none, y5, none], rfl, v_mv (d := .list []) rfl (by simp) q1 (by rw [q2]; rfl) (by rw [q2]; simp), .inl (by rw [q2]; rfl), grow P E, some x, y5, rfl, grow_mem em, by rw [grow_len, el, Nat.pow_succ]⟩)
  rw [List.length_map, List.length_range] at em el
  refine ⟨E, runF_rt (s := s') ?_ (by rw [e2]; simp), em, el⟩
  show g__law_every [some (.int (P : Int)), some (.int (n : Int)), none, none, none, none, none] = _
  unfold g__law_every
  refine (v_nx (v_set (d := .list [rowW []]) (v_F (v_lst (v_cons (v_wk (v_tup rfl)) rfl))))).trans ?_
  refine (v_nx e1).trans ?_
  exact v_rt (by rw [e2]; exact v_at rfl)
/-! one behind the other -/
def behL (p : Int) (n : Nat) (A B : List Rw) : List Rw := B.map fun b => (List.range n).map fun j => sumN (fun k => e0 b k * e0 (rowAt A k) j) A.length % p
theorem rowAt_at {A : List Rw} {k : Nat} (h : k < A.length) : A[k]? = some (rowAt A k) := by
  rw [List.getElem?_eq_getElem h, rowAt_get (List.getElem?_eq_getElem h)]
theorem e_behind {p : Int} {n m : Nat} {A B : List Rw} (hp : Pr p) (dA : ∀ r ∈ A, Dom p n r) (dB : ∀ r ∈ B, Dom p m r) (hA : A.length = m) (hn : n ≤ 50) (hm : m ≤ 50) (hB : B.length ≤ 1000) : Ret F__law_behind [.int p, tabD A, tabD B, .int (n : Int)] (tabD (behL p n A B)) := by
  obtain ⟨s', e1, x5, e2⟩ := v_for (items := B.map rowD) (fi := iS (eVar 2)) (h := gNm 5) (fb := (sApp 4 (eCall1 cTup (eF (eLc (iR1 (eVar 3)) (gNm 6) tYs (eBin dMod (eCall1 cInt (eCall1 cSum (eF (eLc (iR1 (eCall1 cLen (eVar 1))) (gNm 7) tYs (eBin dMul (eBin dIx (eVar 5) (eVar 7)) (eBin dIx (eBin dIx (eVar 1) (eVar 7)) (eVar 6))) [7])))) (eVar 0)) [6])))))
    (s := [some (.int p), some (tabD A), some (tabD B), some (.int (n : Int)), some (.list []), none, none, none]) (s1 := [some (.int p), some (tabD A), some (tabD B), some (.int (n : Int)), some (.list []), none, none, none])
    (fun i s => ∃ x5, s = [some (.int p), some (tabD A), some (tabD B), some (.int (n : Int)), some (.list ((behL p n A (B.take i)).map rowD)), x5, none, none])
    (v_St (v_at rfl)) ⟨none, rfl⟩ (fun i d s hi ⟨x5, es⟩ => by
      subst es
      rw [List.getElem?_map] at hi
      obtain ⟨b, hb, rfl⟩ := Option.map_eq_some_iff.mp hi
      have db := dB b (List.mem_of_getElem? hb)
      refine ⟨_, _, _, rfl, ?_, .inl rfl, some (rowD b), rfl⟩
      have row := v_lcB (s := [some (.int p), some (tabD A), some (tabD B), some (.int (n : Int)), some (.list ((behL p n A (B.take i)).map rowD)), some (rowD b), none, none]) (s1 := [some (.int p), some (tabD A), some (tabD B), some (.int (n : Int)), some (.list ((behL p n A (B.take i)).map rowD)), some (rowD b), none, none]) (i := 6) (fi := iR1 (eVar 3)) (fe := eBin dMod (eCall1 cInt (eCall1 cSum (eF (eLc (iR1 (eCall1 cLen (eVar 1))) (gNm 7) tYs (eBin dMul (eBin dIx (eVar 5) (eVar 7)) (eBin dIx (eBin dIx (eVar 1) (eVar 7)) (eVar 6))) [7])))) (eVar 0))
        (φ := fun i : Nat => PyData.int ((i : Nat) : Int)) (ψ := fun j : Nat => PyData.int (sumN (fun k => e0 b k * e0 (rowAt A k) j) A.length % p)) (xs := List.range n) (rg_nat (v_at rfl) (by omega)) (by simp) fun j hj => by
          have hj := List.mem_range.mp hj
          have inn := v_lcB (s := [some (.int p), some (tabD A), some (tabD B), some (.int (n : Int)), some (.list ((behL p n A (B.take i)).map rowD)), some (rowD b), some (.int (j : Int)), none]) (s1 := [some (.int p), some (tabD A), some (tabD B), some (.int (n : Int)), some (.list ((behL p n A (B.take i)).map rowD)), some (rowD b), some (.int (j : Int)), none]) (i := 7) (fi := iR1 (eCall1 cLen (eVar 1))) (fe := eBin dMul (eBin dIx (eVar 5) (eVar 7)) (eBin dIx (eBin dIx (eVar 1) (eVar 7)) (eVar 6)))
            (φ := fun i : Nat => PyData.int ((i : Nat) : Int)) (ψ := fun k : Nat => PyData.int (e0 b k * e0 (rowAt A k) j)) (xs := List.range A.length) (rg_nat (v_c1 (v_at rfl) (by show some (PyData.int ((A.map rowD).length : Int)) = _; rw [List.length_map])) (by omega)) (by simp) fun k hk => by
              have hk := List.mem_range.mp hk
              have dk := dA _ (List.mem_of_getElem? (rowAt_at hk))
              exact v_bin (v_bin (v_at rfl) (v_at rfl) (e0_ix (by rw [db.len]; omega))) (v_bin (v_bin (v_at rfl) (v_at rfl) (ixT_nat (by rw [List.getElem?_map, rowAt_at hk]; rfl))) (v_at rfl) (e0_ix (by rw [dk.len]; exact hj))) (dMul_r (small_e0 hp dk j))
          refine v_bin (v_c1 (v_c1 (v_F inn) (c := .int (sumN (fun k => e0 b k * e0 (rowAt A k) j) A.length)) ?_) rfl) (v_at rfl) (dMod_p (by have := hp.lo; omega))
          have : (List.range A.length).map (fun k : Nat => PyData.int (e0 b k * e0 (rowAt A k) j)) = ((List.range A.length).map fun k => e0 b k * e0 (rowAt A k) j).map .int := by rw [List.map_map]; rfl
          rw [this, cSum_ints, sum_range]
      have ilt : i < B.length := by obtain ⟨z, _⟩ := List.getElem?_eq_some_iff.mp hb; exact z
      refine (v_appL rfl (v_c1 (v_F row) (c := rowD ((List.range n).map fun j => sumN (fun k => e0 b k * e0 (rowAt A k) j) A.length % p)) ?_) rfl ?_).trans ?_
      · show some (PyData.tuple _) = some (PyData.tuple _)
        rw [List.map_map]
        rfl
      · unfold behL
        rw [List.length_map, List.length_map, List.length_take]
        omega
      · have tk : B.take (i + 1) = B.take i ++ [b] := by rw [List.take_succ, hb]; rfl
        have bl : behL p n A (B.take (i + 1)) = behL p n A (B.take i) ++ [(List.range n).map fun j => sumN (fun k => e0 b k * e0 (rowAt A k) j) A.length % p] := by
          unfold behL
          rw [tk, List.map_append]
          rfl
        rw [bl, List.map_append]
        rfl)
  rw [List.length_map, List.take_length] at e2
  refine runF_rt (s := s') ?_ (by rw [e2]; simp)
  show g__law_behind [some (.int p), some (tabD A), some (tabD B), some (.int (n : Int)), none, none, none, none] = _
  unfold g__law_behind
  refine (v_nx (v_setO (d := .list []) rfl (by simp))).trans ?_
  refine (v_nx e1).trans ?_
  exact v_rt (v_c1 (v_F (by rw [e2]; exact v_at rfl)) rfl)
end Pf
set_option linter.all false
set_option maxRecDepth 100000
namespace Pf
open PySem PySem.Spec L2 Mi Ma
theorem e0_set {c : Rw} {i j : Nat} {x : Int} (hi : i < c.length) : e0 (c.set i x) j = if j = i then x else e0 c j := by
  unfold e0
  rw [List.getD_eq_getElem?_getD, List.getD_eq_getElem?_getD]
  by_cases q : j = i
  · subst q
    rw [if_pos rfl, List.getElem?_set_self hi]
    rfl
  · rw [if_neg q, List.getElem?_set_ne (Ne.symm q)]
theorem dom_set {p : Int} {n i : Nat} {c : Rw} {x : Int} (d : Dom p n c) (hx : 0 ≤ x ∧ x < p) : Dom p n (c.set i x) := ⟨by rw [List.length_set, d.len], fun y hy => (List.mem_or_eq_of_mem_set hy).elim (d.2 y) fun e => e ▸ hx⟩
theorem dom_zero {p : Int} {n : Nat} (hp : 0 < p) : Dom p n (List.replicate n 0) := ⟨by rw [List.length_replicate], fun x hx => by rw [List.eq_of_mem_replicate hx]; omega⟩
theorem e0_rep {n j : Nat} : e0 (List.replicate n (0 : Int)) j = 0 := by
  unfold e0
  rw [List.getD_eq_getElem?_getD, List.getElem?_replicate]
  split <;> rfl
theorem map_set_int (c : Rw) (i : Nat) (x : Int) : (c.map PyData.int).set i (.int x) = (c.set i x).map PyData.int := by rw [List.map_set]
theorem notin_nat {k : Nat} {L : List Nat} : dInI true (.int (k : Int)) (.list (L.map fun l : Nat => PyData.int ((l : Nat) : Int))) = some (.bool (!decide (k ∈ L))) := by
  have e : intsOf (.list (L.map fun l : Nat => PyData.int ((l : Nat) : Int))) = some (L.map fun l : Nat => ((l : Nat) : Int)) := by
    show wholesOf _ = _
    rw [natInts, wholesOf_map]
  show (intsOf (.list (L.map fun l : Nat => PyData.int ((l : Nat) : Int)))).map _ = _
  rw [e]
  show some (PyData.bool (!decide ((k : Int) ∈ L.map fun l : Nat => ((l : Nat) : Int)))) = _
  congr 3
  apply decide_eq_decide.mpr
  rw [List.mem_map]
  exact ⟨fun ⟨l, hl, e⟩ => by have : l = k := by omega
                              exact this ▸ hl, fun h => ⟨k, h, rfl⟩⟩
/-! the law's kernel -/
abbrev kSt (p : Int) (T R : List Rw) (n : Nat) (L : List Nat) (G : List Rw) (x6 x7 x8 : Option D) : SD := [some (.int p), some (tabD T), some (.int (n : Int)), some (tabD R), some (.list (L.map fun l : Nat => .int ((l : Nat) : Int))), some (.list (G.map rowD)), x6, x7, x8]
theorem ker_col {p : Int} {n f : Nat} {T R G : List Rw} {L : List Nat} {x8 : Option D} (hp : Pr p) (E : RL p n R L) (hf : f < n) (hL : f ∉ L) (hn : n ≤ 50) :
    ∃ c y8, sCons (sAsO (eRepL (eLst (aCons (eC (.int 0)) aNil)) (eVar 2)) 7) (sCons (sSt 7 (eC (.int 1)) (eVar 6)) (sCons (sFor (iR1 (eCall1 cLen (eVar 4))) (gNm 8) (sSt 7 (eBin dMod (eCall1 cInt (eNeg (eBin dIx (eBin dIx (eVar 3) (eVar 8)) (eVar 6)))) (eVar 0)) (eBin dIx (eVar 4) (eVar 8)))) (sApp 5 (eCall1 cTup (eF (eVar 7)))))) (kSt p T R n L G (some (.int (f : Int))) x7 x8) = sApp 5 (eCall1 cTup (eF (eVar 7))) (kSt p T R n L G (some (.int (f : Int))) (some (.list (c.map .int))) y8) ∧ Dom p n c ∧ Free p n R L f (e0 c) := by
  have lo := hp.lo
  have p0 : 0 < p := by omega
  have few : L.length ≤ n := by rw [E.len]; exact E.few
  obtain ⟨s', e1, c, y8, e2, dc, c1, c2, c3⟩ := v_for (items := (List.range L.length).map fun i : Nat => PyData.int ((i : Nat) : Int)) (fi := iR1 (eCall1 cLen (eVar 4))) (h := gNm 8) (fb := (sSt 7 (eBin dMod (eCall1 cInt (eNeg (eBin dIx (eBin dIx (eVar 3) (eVar 8)) (eVar 6)))) (eVar 0)) (eBin dIx (eVar 4) (eVar 8))))
    (s := kSt p T R n L G (some (.int (f : Int))) (some (.list (((List.replicate n 0).set f 1).map .int))) x8) (s1 := kSt p T R n L G (some (.int (f : Int))) (some (.list (((List.replicate n 0).set f 1).map .int))) x8)
    (fun k s => ∃ (c : Rw) (y8 : Option D), s = kSt p T R n L G (some (.int (f : Int))) (some (.list (c.map .int))) y8 ∧ Dom p n c ∧ e0 c f = 1 ∧ (∀ (i l : Nat) (b : Rw), i < k → L[i]? = some l → R[i]? = some b → e0 c l = (- e0 b f) % p) ∧ ∀ j, j < n → j ∉ L → j ≠ f → e0 c j = 0)
    (rg_nat (v_c1 (v_at rfl) (by show some (PyData.int ((L.map fun l : Nat => PyData.int ((l : Nat) : Int)).length : Int)) = _; rw [List.length_map])) (by omega))
    ⟨_, _, rfl, dom_set (dom_zero p0) ⟨by omega, by omega⟩, by rw [e0_set (by rw [List.length_replicate]; exact hf), if_pos rfl], fun i l b hi => absurd hi (by omega), fun j hj _ ne => by rw [e0_set (by rw [List.length_replicate]; exact hf), if_neg ne, e0_rep]⟩ (fun k d s hk ⟨c, y8, es, dc, c1, c2, c3⟩ => by
      subst es
      have kl : k < L.length := by
        obtain ⟨z, _⟩ := List.getElem?_eq_some_iff.mp hk
        rw [List.length_map, List.length_range] at z
        exact z
      have ed : d = .int (k : Int) := by
        rw [List.getElem?_map, List.getElem?_range kl] at hk
        exact (Option.some.inj hk).symm
      subst ed
      have kb : k < R.length := by rw [← E.len]; exact kl
      have gl : L[k]? = some L[k] := List.getElem?_eq_getElem kl
      have gb : R[k]? = some R[k] := List.getElem?_eq_getElem kb
      have db := E.dom _ (List.getElem_mem kb)
      have ll := E.lt _ (List.getElem_mem kl)
      have nf : L[k] ≠ f := fun z => hL (z ▸ List.getElem_mem kl)
      refine ⟨_, _, kSt p T R n L G (some (.int (f : Int))) (some (.list ((c.set L[k] ((- e0 R[k] f) % p)).map .int))) (some (.int (k : Int))), rfl, ?_, .inl rfl, _, _, rfl, dom_set dc ⟨Int.emod_nonneg _ (by omega), Int.emod_lt_of_pos _ p0⟩, ?_, fun i l b hi hl hb => ?_, fun j hj h1 h2 => ?_⟩
      · have val : eBin dMod (eCall1 cInt (eNeg (eBin dIx (eBin dIx (eVar 3) (eVar 8)) (eVar 6)))) (eVar 0) (kSt p T R n L G (some (.int (f : Int))) (some (.list (c.map .int))) (some (.int (k : Int)))) = some (.int ((- e0 R[k] f) % p), kSt p T R n L G (some (.int (f : Int))) (some (.list (c.map .int))) (some (.int (k : Int)))) := by
          have ix : eBin dIx (eBin dIx (eVar 3) (eVar 8)) (eVar 6) (kSt p T R n L G (some (.int (f : Int))) (some (.list (c.map .int))) (some (.int (k : Int)))) = some (.int (e0 R[k] f), kSt p T R n L G (some (.int (f : Int))) (some (.list (c.map .int))) (some (.int (k : Int)))) := v_bin (v_bin (v_at rfl) (v_at rfl) (ixT_nat (by rw [List.getElem?_map, gb]; rfl))) (v_at rfl) (e0_ix (by rw [db.len]; exact hf))
          refine v_bin (v_c1 (a := .int (- e0 R[k] f)) (c := .int (- e0 R[k] f)) ?_ rfl) (v_at rfl) (dMod_p p0)
          unfold eNeg
          rw [ix]
          rfl
        refine (v_st (n := L[k]) (i := ((L[k] : Nat) : Int)) val rfl (v_bin (v_at rfl) (v_at rfl) (ix_nat (by rw [List.getElem?_map, gl]; rfl))) rfl (ixN_nat (by rw [List.length_map, dc.len]; exact ll))).trans ?_
        rw [map_set_int]
        rfl
      · rw [e0_set (by rw [dc.len]; exact ll), if_neg (Ne.symm nf), c1]
      · rw [e0_set (by rw [dc.len]; exact ll)]
        by_cases q : i = k
        · subst q
          rw [gl] at hl
          cases hl
          rw [gb] at hb
          cases hb
          rw [if_pos rfl]
        · have ne : l ≠ L[k] := fun z => by
            have il : i < L.length := by obtain ⟨w, _⟩ := List.getElem?_eq_some_iff.mp hl; exact w
            have e : L[i] = L[k] := by rw [← z]; rw [List.getElem?_eq_getElem il] at hl; exact Option.some.inj hl
            rcases Nat.lt_trichotomy i k with w | w | w
            · have := List.pairwise_iff_getElem.mp E.asc i k il kl w
              omega
            · exact q w
            · have := List.pairwise_iff_getElem.mp E.asc k i kl il w
              omega
          rw [if_neg ne]
          exact c2 i l b (by omega) hl hb
      · rw [e0_set (by rw [dc.len]; exact ll), if_neg (fun z => h1 (by rw [z]; exact List.getElem_mem kl)), c3 j hj h1 h2])
  rw [List.length_map, List.length_range] at c2
  refine ⟨c, y8, ?_, dc, ⟨by rw [c1]; exact ⟨0, by omega⟩, fun i l b hl hb => ?_, fun j hj h1 h2 => by rw [c3 j hj h1 h2]; exact Int.dvd_zero p, fun j hj => by rw [e0_ge (by rw [dc.len]; exact hj)]; exact Int.dvd_zero p⟩⟩
  · refine (v_nx (v_setO (d := .list ((List.replicate n (0 : Int)).map .int)) (s1 := kSt p T R n L G (some (.int (f : Int))) x7 x8) ?_ (by simp))).trans ?_
    · have e : eRepL (eLst (aCons (eC (.int 0)) aNil)) (eVar 2) (kSt p T R n L G (some (.int (f : Int))) x7 x8) = some (.list (List.replicate (n : Int).toNat [PyData.int 0]).flatten, kSt p T R n L G (some (.int (f : Int))) x7 x8) := by
        unfold eRepL
        show (if -1000 ≤ (n : Int) ∧ (n : Int) ≤ 1000 ∧ _ then _ else _) = _
        rw [if_pos ⟨by omega, by omega, by simp⟩]
      rw [e, Int.toNat_natCast, flat_one, List.map_replicate]
    refine (v_nx (v_st (n := f) (i := (f : Int)) rfl rfl (v_at rfl) rfl (ixN_nat (by rw [List.length_map, List.length_replicate]; exact hf)))).trans ?_
    show sCons _ _ (kSt p T R n L G (some (.int (f : Int))) (some (.list (((List.replicate n (0 : Int)).map PyData.int).set f (.int 1)))) x8) = _
    rw [map_set_int]
    refine (v_nx e1).trans ?_
    rw [e2]
  · have il : i < L.length := by obtain ⟨w, _⟩ := List.getElem?_eq_some_iff.mp hl; exact w
    rw [c2 i l b il hl hb]
    exact dvd_cast (dvd_emod p0 (- e0 b f)) (by omega)
theorem imm_ints : ∀ ns : List Int, immA (ns.map .int) = true
  | [] => by simp [immA]
  | n :: ns => by
    rw [List.map_cons, immA, imm_ints ns]
    simp [imm]
theorem imm_rows : ∀ B : List Rw, immA (B.map rowD) = true
  | [] => by simp [immA]
  | b :: B => by
    rw [List.map_cons, immA, imm_rows B]
    simp [imm, imm_ints]
theorem imm_tab (B : List Rw) : imm (tabD B) = true := by
  unfold imm
  exact imm_rows B
theorem e_kernel {p : Int} {n : Nat} {T : List Rw} (hp : Pr p) (dT : ∀ r ∈ T, Dom p n r) (hn : n ≤ 50) (hT : T.length ≤ 1000) :
    ∃ K LK, Ret F__law_kernel [.int p, tabD T, .int (n : Int)] (tabD K) ∧ RL p n K LK ∧ ∀ u : Vc, (∀ j, n ≤ j → p ∣ u j) → (Kills p n T u ↔ Sp p (vcs K) u) := by
  obtain ⟨R, L, rR, E, sR⟩ := e_lawred hp dT (by omega) hT
  have lc := v_lcA (s := kSt p T R n L [] none none none) (s1 := kSt p T R n L [] none none none) (i := 8) (fi := iR1 (eVar 2)) (ft := eTst (eBin (dInI true) (eVar 8) (eVar 4))) (fe := eVar 8)
    (t := fun k : Nat => !decide (k ∈ L)) (φ := fun i : Nat => PyData.int ((i : Nat) : Int)) (ψ := fun i : Nat => PyData.int ((i : Nat) : Int)) (xs := List.range n) (rg_nat (v_at rfl) (by omega)) (by simp) (fun k _ => v_tst (v_bin (v_at rfl) (v_at rfl) notin_nat)) (fun k _ _ => v_at rfl)
  obtain ⟨s', e1, G, x6, x7, x8, e2, gl, hG⟩ := v_for (items := ((List.range n).filter fun k : Nat => !decide (k ∈ L)).map fun i : Nat => PyData.int ((i : Nat) : Int)) (fi := iS (eF (eLc (iR1 (eVar 2)) (gNm 8) (eTst (eBin (dInI true) (eVar 8) (eVar 4))) (eVar 8) [8]))) (h := gNm 6)
    (fb := sCons (sAsO (eRepL (eLst (aCons (eC (.int 0)) aNil)) (eVar 2)) 7) (sCons (sSt 7 (eC (.int 1)) (eVar 6)) (sCons (sFor (iR1 (eCall1 cLen (eVar 4))) (gNm 8) (sSt 7 (eBin dMod (eCall1 cInt (eNeg (eBin dIx (eBin dIx (eVar 3) (eVar 8)) (eVar 6)))) (eVar 0)) (eBin dIx (eVar 4) (eVar 8)))) (sApp 5 (eCall1 cTup (eF (eVar 7)))))))
    (s := kSt p T R n L [] none none none) (s1 := kSt p T R n L [] none none none)
    (fun i s => ∃ (G : List Rw) (x6 x7 x8 : Option D), s = kSt p T R n L G x6 x7 x8 ∧ G.length = i ∧ ∀ (k : Nat) (c : Rw), G[k]? = some c → ∃ f, ((List.range n).filter fun k : Nat => !decide (k ∈ L))[k]? = some f ∧ Dom p n c ∧ Free p n R L f (e0 c))
    (v_S (v_F lc)) ⟨[], none, none, none, rfl, rfl, fun k c h => by simp at h⟩ (fun i d s hi ⟨G, x6, x7, x8, es, gl, hG⟩ => by
      subst es
      rw [List.getElem?_map] at hi
      obtain ⟨f, hf, rfl⟩ := Option.map_eq_some_iff.mp hi
      obtain ⟨f1, f2⟩ := List.mem_filter.mp (List.mem_of_getElem? hf)
      have fn := List.mem_range.mp f1
      have fL : f ∉ L := fun z => by simp [z] at f2
      have il : i < n := by
        obtain ⟨z, _⟩ := List.getElem?_eq_some_iff.mp hf
        exact Nat.lt_of_lt_of_le z (Nat.le_trans (List.length_filter_le _ _) (by rw [List.length_range]; exact Nat.le_refl _))
      obtain ⟨c, y8, q, dc, F⟩ := ker_col (x7 := x7) (x8 := x8) (T := T) (G := G) hp E fn fL hn
      refine ⟨_, _, kSt p T R n L (G ++ [c]) (some (.int (f : Int))) (some (.list (c.map .int))) y8, rfl, q.trans ?_, .inl rfl, G ++ [c], _, _, _, rfl, by rw [List.length_append, gl]; rfl, fun k x hk => ?_⟩
      · refine (v_appL rfl (v_c1 (v_F (v_at rfl)) (c := rowD c) rfl) rfl (by rw [List.length_map, gl]; omega)).trans ?_
        have ea : (G ++ [c]).map rowD = G.map rowD ++ [rowD c] := by rw [List.map_append]; rfl
        show some (Out.nx (kSt p T R n L [] (some (.int (f : Int))) (some (.list (c.map .int))) y8 |>.set 5 (some (.list (G.map rowD ++ [rowD c]))))) = some (Out.nx (kSt p T R n L [] (some (.int (f : Int))) (some (.list (c.map .int))) y8 |>.set 5 (some (.list ((G ++ [c]).map rowD)))))
        rw [ea]
      · by_cases w : k < G.length
        · rw [List.getElem?_append_left w] at hk
          exact hG k x hk
        · rw [List.getElem?_append_right (by omega)] at hk
          have k0 : k - G.length = 0 := by
            by_cases z : k - G.length = 0
            · exact z
            · rw [List.getElem?_eq_none (by simp; omega)] at hk
              cases hk
          rw [k0] at hk
          cases hk
          exact ⟨f, by rw [show k = i by omega]; exact hf, dc, F⟩)
  rw [List.length_map] at gl
  have few : ((List.range n).filter fun k : Nat => !decide (k ∈ L)).length ≤ n := Nat.le_trans (List.length_filter_le _ _) (by rw [List.length_range]; exact Nat.le_refl _)
  have dG : ∀ c ∈ G, Dom p n c := fun c hc => by
    obtain ⟨k, hk, e⟩ := List.mem_iff_getElem.mp hc
    obtain ⟨f, _, d, _⟩ := hG k c (by rw [List.getElem?_eq_getElem hk, e])
    exact d
  obtain ⟨K, LK, rK, EK, sK⟩ := e_lawredG (tq := .list (G.map rowD)) (.inr rfl) hp dG (by omega) (by omega)
  refine ⟨K, LK, runF_rt (s := kSt p T R n L G x6 x7 x8) ?_ (by simp), EK, fun u hu => ker_of E sR (fun f hf hL => ?_) (fun c hc => ?_) sK hu⟩
  · show g__law_kernel [some (.int p), some (tabD T), some (.int (n : Int)), none, none, none, none, none, none] = _
    unfold g__law_kernel
    refine (v_nx (v_set (v_call [eVar 0, eVar 1, eVar 2] (v_cons (v_at rfl) (v_cons (v_at rfl) (v_cons (v_at rfl) rfl))) rfl rR))).trans ?_
    refine (v_nx (v_parO (v_F (v_call [eVar 3] (v_cons (v_at rfl) rfl) rfl (e_leads E hn))) rfl (by simp))).trans ?_
    refine (v_nx e1).trans ?_
    rw [e2]
    refine v_rt (v_bor rfl (v_call [eVar 0, eVar 5, eVar 2] (v_cons (v_at rfl) (v_cons (v_at rfl) (v_cons (v_at rfl) rfl))) rfl rK) (imm_tab K))
  · have m : f ∈ (List.range n).filter fun k : Nat => !decide (k ∈ L) := List.mem_filter.mpr ⟨List.mem_range.mpr hf, by simp [hL]⟩
    obtain ⟨k, hk, e⟩ := List.mem_iff_getElem.mp m
    have kG : k < G.length := by omega
    obtain ⟨f', h1, h2, h3⟩ := hG k G[k] (List.getElem?_eq_getElem kG)
    rw [List.getElem?_eq_getElem hk, e] at h1
    cases h1
    exact ⟨G[k], List.getElem_mem kG, h3⟩
  · obtain ⟨k, hk, e⟩ := List.mem_iff_getElem.mp hc
    obtain ⟨f, h1, h2, h3⟩ := hG k c (by rw [List.getElem?_eq_getElem hk, e])
    obtain ⟨f1, f2⟩ := List.mem_filter.mp (List.mem_of_getElem? h1)
    exact ⟨f, List.mem_range.mp f1, fun z => by simp [z] at f2, h3⟩
end Pf
set_option linter.all false
set_option maxRecDepth 100000
namespace Pf
open PySem PySem.Spec L2 Mi Ma
variable {s s1 s2 : SD} {f g : FE}
theorem v_Z {x y : D} {xs ys : List D} (h1 : f s = some (x, s1)) (h2 : g s1 = some (y, s2)) (t1 : tupD x = some xs) (t2 : tupD y = some ys) : iZ f g s = some (zipD xs ys, s2) := by
  unfold iZ
  rw [h1]
  show ((g s1).bind _) = _
  rw [h2]
  unfold tupD at t1 t2
  split at t1
  · cases t1
    split at t2
    · cases t2; rfl
    · cases t2; rfl
    · cases t2
  · cases t1
    split at t2
    · cases t2; rfl
    · cases t2; rfl
    · cases t2
  · cases t1
theorem v_rev {l : List D} (h : f s = some (.tuple l, s1)) : eRev f s = some (.tuple l.reverse, s1) := by unfold eRev; rw [h]; rfl
/-- a loop that ends with a return at the item j -/
theorem for_stop {h : FG} {fb : FS} {v : D} (I : Nat → SD → Prop) (Z : SD → Prop) : ∀ {items : List D} {k m : Nat} {s : SD}, m < items.length → I k s → (∀ (j : Nat) (d : D) (s : SD), j < m → items[j]? = some d → I (k + j) s → ∃ s1 o s2, h d s = some s1 ∧ fb s1 = some o ∧ (o = .nx s2 ∨ o = .ct s2) ∧ I (k + j + 1) s2) →
    (∀ (d : D) (s : SD), items[m]? = some d → I (k + m) s → ∃ s1 s2, h d s = some s1 ∧ fb s1 = some (.rt v s2) ∧ Z s2) → ∃ s', forGo h fb items s = some (.rt v s') ∧ Z s'
  | [], k, m, s, hm, _, _, _ => absurd hm (by simp)
  | d :: items, k, 0, s, _, h0, _, en => by
    obtain ⟨s1, s2, e1, e2, z⟩ := en d s rfl h0
    refine ⟨s2, ?_, z⟩
    unfold forGo
    rw [e1]
    show ((fb s1).bind _) = _
    rw [e2]
    rfl
  | d :: items, k, m + 1, s, hm, h0, st, en => by
    obtain ⟨s1, o, s2, e1, e2, e3, e4⟩ := st 0 d s (by omega) rfl h0
    obtain ⟨s', q1, q2⟩ := for_stop I Z (items := items) (k := k + 1) (m := m) (s := s2) (by simpa using hm) e4 (fun j d s jm hj hI => by
      have := st (j + 1) d s (by omega) (by simpa using hj) (by rw [show k + (j + 1) = k + 1 + j by omega]; exact hI)
      rw [show k + (j + 1) + 1 = k + 1 + j + 1 by omega] at this
      exact this) (fun d s hd hI => en d s (by simpa using hd) (by rw [show k + (m + 1) = k + 1 + m by omega]; exact hI))
    refine ⟨s', ?_, q2⟩
    unfold forGo
    rw [e1]
    show ((fb s1).bind _) = _
    rw [e2]
    rcases e3 with rfl | rfl
    · exact q1
    · exact q1
theorem v_forS {fi : FA} {h : FG} {fb : FS} {items : List D} {v : D} {m : Nat} (I : Nat → SD → Prop) (Z : SD → Prop) (hi : fi s = some (items, s1)) (hm : m < items.length) (h0 : I 0 s1) (st : ∀ (j : Nat) (d : D) (s : SD), j < m → items[j]? = some d → I j s → ∃ s1 o s2, h d s = some s1 ∧ fb s1 = some o ∧ (o = .nx s2 ∨ o = .ct s2) ∧ I (j + 1) s2)
    (en : ∀ (d : D) (s : SD), items[m]? = some d → I m s → ∃ s1 s2, h d s = some s1 ∧ fb s1 = some (.rt v s2) ∧ Z s2) : ∃ s', sFor fi h fb s = some (.rt v s') ∧ Z s' := by
  obtain ⟨s', q1, q2⟩ := for_stop (k := 0) I Z hm h0 (fun j d s jm hj hI => by
    rw [Nat.zero_add] at hI ⊢
    exact st j d s jm hj hI) (fun d s hd hI => by
    rw [Nat.zero_add] at hI
    exact en d s hd hI)
  refine ⟨s', ?_, q2⟩
  unfold sFor
  rw [hi]
  exact q1
theorem idx_lead {b : Rw} {l : Nat} (hl : l < b.length) (one : e0 b l = 1) (pre : ∀ j, j < l → e0 b j = 0) : (1 : Int) ∈ b ∧ b.idxOf 1 = l := by
  have gl : b[l] = 1 := by rw [← e0_lt hl]; exact one
  have m : (1 : Int) ∈ b := by rw [← gl]; exact List.getElem_mem hl
  refine ⟨m, ?_⟩
  have h2 := List.idxOf_lt_length_iff.mpr m
  have h3 : b[b.idxOf 1] = 1 := List.getElem_idxOf h2
  rcases Nat.lt_trichotomy (b.idxOf 1) l with q | q | q
  · have := pre _ q
    rw [e0_lt h2, h3] at this
    cases this
  · exact q
  · have := List.not_of_lt_findIdx (p := (· == (1 : Int))) (xs := b) (i := l) q
    simp [gl] at this
theorem dIdx_lead {p : Int} {n : Nat} {R : List Rw} {L : List Nat} (E : RL p n R L) {i l : Nat} {b : Rw} (hb : R[i]? = some b) (hl : L[i]? = some l) : dIdx (rowD b) (.int 1) = some (.int (l : Int)) := by
  have ln := E.lt l (List.mem_of_getElem? hl)
  obtain ⟨m, ix⟩ := idx_lead (b := b) (l := l) (by rw [(E.dom b (List.mem_of_getElem? hb)).len]; exact ln) (E.one i b l hb hl) (fun j hj => E.pre i b l j hb hl hj)
  show (wholesOf (b.map .int)).bind _ = _
  rw [wholesOf_map]
  show (if (1 : Int) ∈ b then _ else _) = _
  rw [if_pos m, ix]
theorem wide_dom {p : Int} {n m : Nat} {T : List Rw} {c : Rw} (dT : ∀ r ∈ T, Dom p n r) (dc : Dom p m c) (ht : T.length = m) : ∀ r ∈ wideL T c, Dom p (n + 1) r := fun x hx => by
  obtain ⟨i, r, hr, rfl⟩ := wide_mem (by rw [ht, dc.len]) hx
  have d := dT r (List.mem_of_getElem? hr)
  have il : i < c.length := by
    obtain ⟨z, _⟩ := List.getElem?_eq_some_iff.mp hr
    rw [dc.len]; omega
  refine ⟨by rw [List.length_append, List.length_reverse, d.len]; rfl, fun y hy => ?_⟩
  rcases List.mem_append.mp hy with z | z
  · exact d.2 y (List.mem_reverse.mp z)
  · rw [List.mem_singleton.mp z, e0_lt il]
    exact dc.2 _ (List.getElem_mem il)
theorem wide_zip : ∀ (T : List Rw) (c : Rw), (T.zip c).map (fun q => rowD (q.1.reverse ++ [q.2])) = (wideL T c).map rowD
  | [], _ => rfl
  | _ :: _, [] => rfl
  | r :: T, x :: c => by
    have ih := wide_zip T c
    unfold wideL at ih ⊢
    rw [List.zip_cons_cons, List.map_cons, List.zipWith_cons_cons, List.map_cons, ih]
abbrev slvBody : FS := sCons (sAs (eBin dIdx (eVar 6) (eC (.int 1))) (gNm 7))
    (sCons (sIf (eTst (eBin dEq (eVar 7) (eVar 2))) (sRt (eC .none)) sNil)
    (sSt 5 (eBin dIx (eVar 6) (eVar 2)) (eBin dSub (eBin dSub (eVar 2) (eC (.int 1))) (eVar 7))))
theorem e_solved {p : Int} {n m : Nat} {T : List Rw} {c : Rw} {w : D} (hp : Pr p) (dT : ∀ r ∈ T, Dom p n r) (ht : T.length = m) (dc : Dom p m c) (hw : tupD w = some (c.map .int)) (hn : n ≤ 50) (hm : m ≤ 50) :
    ∃ R L, RL p (n + 1) R L ∧ Ma.Same p (wideL T c) R ∧ ((n ∉ L ∧ ∃ v, Dom p n v ∧ Sol n R L v ∧ Ret F_solved [.int p, tabD T, .int (n : Int), w] (rowD v)) ∨ (n ∈ L ∧ Ret F_solved [.int p, tabD T, .int (n : Int), w] .none)) := by
  have p0 : 0 < p := by have := hp.lo; omega
  have wl : (wideL T c).length ≤ 50 := by unfold wideL; rw [List.length_zipWith]; omega
  obtain ⟨R, L, rR, E, sR⟩ := e_reduced hp (wide_dom dT dc ht) (by omega) (by omega)
  refine ⟨R, L, E, sR, ?_⟩
  have mk := v_lcP (s := [some (.int p), some (tabD T), some (.int (n : Int)), some w, none, none, none, none, none]) (s1 := [some (.int p), some (tabD T), some (.int (n : Int)), some w, none, none, none, none, none]) (i := 6) (j := 8) (by decide) (fi := iZ (eVar 1) (eVar 3)) (fe := eBin dPlus (eRev (eVar 6)) (eTup (aCons (eVar 8) aNil)))
    (g := fun x y => match x with | .tuple l => .tuple (l.reverse ++ [y]) | _ => .none) (ps := (T.zip c).map fun q => (rowD q.1, PyData.int q.2)) (by
      rw [List.map_map]
      have := zipD_map rowD PyData.int T c
      exact this ▸ v_Z (v_at rfl) (v_at rfl) rfl hw) (by simp) (by simp) (fun q hq => by
      obtain ⟨z, hz, rfl⟩ := List.mem_map.mp hq
      have dz := dT z.1 (List.of_mem_zip hz).1
      refine v_bin (v_rev (v_at rfl)) (v_tup (v_cons (v_at rfl) rfl)) ?_
      show (if _ then _ else _) = _
      rw [if_pos (by rw [List.length_reverse, List.length_map, dz.len]; show n + 1 ≤ 1000000; omega)])
  have wide : ((T.zip c).map fun q => (rowD q.1, PyData.int q.2)).map (fun q => (match q.1 with | .tuple l => PyData.tuple (l.reverse ++ [q.2]) | _ => .none)) = (wideL T c).map rowD := by
    rw [← wide_zip, List.map_map]
    apply List.map_congr_left
    intro q _
    show PyData.tuple ((q.1.map PyData.int).reverse ++ [.int q.2]) = .tuple ((q.1.reverse ++ [q.2]).map .int)
    rw [List.map_append, List.map_reverse]
    rfl
  rw [wide] at mk
  have src : iS (eCall F_reduced [.sh (eVar 0), .sh (eVar 4), .sh (eBin dPlus (eVar 2) (eC (.int 1)))]) [some (.int p), some (tabD T), some (.int (n : Int)), some w, some (tabD (wideL T c)), some (.list ((List.replicate n (0 : Int)).map .int)), none, none, none] = some (R.map rowD, [some (.int p), some (tabD T), some (.int (n : Int)), some w, some (tabD (wideL T c)), some (.list ((List.replicate n (0 : Int)).map .int)), none, none, none]) :=
    v_St (v_call [eVar 0, eVar 4, eBin dPlus (eVar 2) (eC (.int 1))] (ds := [.int p, tabD (wideL T c), .int ((n + 1 : Nat) : Int)]) (v_cons (v_at rfl) (v_cons (v_at rfl) (v_cons (v_bin (v_at rfl) rfl rfl) rfl))) rfl rR)
  have start : ∀ o, sFor (iS (eCall F_reduced [.sh (eVar 0), .sh (eVar 4), .sh (eBin dPlus (eVar 2) (eC (.int 1)))])) (gNm 6) slvBody [some (.int p), some (tabD T), some (.int (n : Int)), some w, some (tabD (wideL T c)), some (.list ((List.replicate n (0 : Int)).map .int)), none, none, none] = o → g_solved [some (.int p), some (tabD T), some (.int (n : Int)), some w, none, none, none, none, none] = (o.bind fun o => match o with | .nx s => (sRt (eCall1 cTup (eF (eVar 5)))) s | o => some o) := fun o ho => by
    unfold g_solved
    refine (v_nx (v_set (d := tabD (wideL T c)) (v_c1 (v_F mk) rfl))).trans ?_
    refine (v_nx (v_setO (d := .list ((List.replicate n (0 : Int)).map .int)) (s1 := [some (.int p), some (tabD T), some (.int (n : Int)), some w, some (tabD (wideL T c)), none, none, none, none]) (v_c1 (v_call [eVar 2] (v_cons (v_at rfl) rfl) rfl (e_zeros (by omega))) rfl) (by simp))).trans ?_
    show sCons (sFor _ _ slvBody) _ _ = _
    unfold sCons
    exact congrArg (fun z => Option.bind z _) ho
  -- one line
  have line : ∀ (i : Nat) (b v : Rw) (l : Nat) (x6 x7 : Option D), R[i]? = some b → L[i]? = some l → l < n → Dom p n v → slvBody [some (.int p), some (tabD T), some (.int (n : Int)), some w, some (tabD (wideL T c)), some (.list (v.map .int)), some (rowD b), x7, none] = some (.nx [some (.int p), some (tabD T), some (.int (n : Int)), some w, some (tabD (wideL T c)), some (.list ((v.set (n - 1 - l) (e0 b n)).map .int)), some (rowD b), some (.int (l : Int)), none]) := fun i b v l x6 x7 hb hl ln dv => by
    have db := E.dom b (List.mem_of_getElem? hb)
    refine (v_nx (v_set (v_bin (v_at rfl) rfl (dIdx_lead E hb hl)))).trans ?_
    refine (v_nx (v_sifF (v_eqF (v_at rfl) (v_at rfl) (by omega) dEq_i) rfl)).trans ?_
    have e : (n : Int) - 1 - (l : Int) = ((n - 1 - l : Nat) : Int) := by omega
    have ix : dSub (.int ((n : Int) - 1)) (.int (l : Int)) = some (.int ((n - 1 - l : Nat) : Int)) := by
      show some (PyData.int ((n : Int) - 1 - (l : Int))) = _
      rw [e]
    refine (v_st (n := n - 1 - l) (i := ((n - 1 - l : Nat) : Int)) (v_bin (v_at rfl) (v_at rfl) (e0_ix (j := n) (by rw [db.len]; omega))) rfl (v_bin (v_bin (v_at rfl) rfl rfl) (v_at rfl) ix) rfl (ixN_nat (by rw [List.length_map, dv.len]; omega))).trans ?_
    rw [map_set_int]
    rfl
  have rows : ∀ {i : Nat} {d : D}, (R.map rowD)[i]? = some d → ∃ b l, R[i]? = some b ∧ L[i]? = some l ∧ d = rowD b := fun {i d} h => by
    obtain ⟨b, hb, e⟩ := rowD_get h
    have il : i < L.length := by
      obtain ⟨z, _⟩ := List.getElem?_eq_some_iff.mp hb
      rw [E.len]; exact z
    exact ⟨b, L[i], hb, List.getElem?_eq_getElem il, e⟩
  let I : Nat → SD → Prop := fun i s => ∃ (v : Rw) (x6 x7 : Option D), s = [some (.int p), some (tabD T), some (.int (n : Int)), some w, some (tabD (wideL T c)), some (.list (v.map .int)), x6, x7, none] ∧ Dom p n v ∧ (∀ (k l : Nat) (b : Rw), k < i → L[k]? = some l → R[k]? = some b → e0 v (n - 1 - l) = e0 b n) ∧ ∀ j, j < n → (n - 1 - j) ∉ L → e0 v j = 0
  have I0 : I 0 [some (.int p), some (tabD T), some (.int (n : Int)), some w, some (tabD (wideL T c)), some (.list ((List.replicate n (0 : Int)).map .int)), none, none, none] := ⟨_, _, _, rfl, dom_zero p0, fun k l b hk => absurd hk (by omega), fun j _ _ => e0_rep⟩
  have step : ∀ (i : Nat) (d : D) (s : SD), (∀ l, L[i]? = some l → l < n) → (R.map rowD)[i]? = some d → I i s → ∃ s1 o s2, gNm 6 d s = some s1 ∧ slvBody s1 = some o ∧ (o = .nx s2 ∨ o = .ct s2) ∧ I (i + 1) s2 := fun i d s hln hd ⟨v, x6, x7, es, dv, v1, v2⟩ => by
    subst es
    obtain ⟨b, l, hb, hl, rfl⟩ := rows hd
    have ln := hln l hl
    have db := E.dom b (List.mem_of_getElem? hb)
    refine ⟨_, _, _, rfl, line i b v l x6 x7 hb hl ln dv, .inl rfl, _, _, _, rfl, dom_set dv (db.at p0 n), fun k l' b' hk hl' hb' => ?_, fun j hj hjL => ?_⟩
    · rw [e0_set (by rw [dv.len]; omega)]
      by_cases q : k = i
      · subst q
        rw [hl] at hl'
        cases hl'
        rw [hb] at hb'
        cases hb'
        rw [if_pos rfl]
      · have kl : k < L.length := by obtain ⟨z, _⟩ := List.getElem?_eq_some_iff.mp hl'; exact z
        have il : i < L.length := by obtain ⟨z, _⟩ := List.getElem?_eq_some_iff.mp hl; exact z
        have ki : k < i := by omega
        have lt := List.pairwise_iff_getElem.mp E.asc k i kl il ki
        have e1 : L[k] = l' := by rw [List.getElem?_eq_getElem kl] at hl'; exact Option.some.inj hl'
        have e2 : L[i] = l := by rw [List.getElem?_eq_getElem il] at hl; exact Option.some.inj hl
        rw [if_neg (by omega)]
        exact v1 k l' b' ki hl' hb'
    · rw [e0_set (by rw [dv.len]; omega), if_neg fun z => hjL (by rw [z, show n - 1 - (n - 1 - l) = l by omega]; exact List.mem_of_getElem? hl)]
      exact v2 j hj hjL
  by_cases hL : n ∈ L
  · refine .inr ⟨hL, ?_⟩
    obtain ⟨m', hm', em⟩ := List.mem_iff_getElem.mp hL
    have gm : L[m']? = some n := by rw [List.getElem?_eq_getElem hm', em]
    obtain ⟨s', q1, q2⟩ := v_forS (m := m') (v := .none) I (fun s => 4 ≤ s.length) src (by rw [List.length_map, ← E.len]; exact hm') I0 (fun j d s jm hd hI => step j d s (fun l hl => by
        have jl : j < L.length := by omega
        have := List.pairwise_iff_getElem.mp E.asc j m' jl hm' jm
        have e1 : L[j] = l := by rw [List.getElem?_eq_getElem jl] at hl; exact Option.some.inj hl
        omega) hd hI) (fun d s hd ⟨v, x6, x7, es, dv, v1, v2⟩ => by
        subst es
        obtain ⟨b, l, hb, hl, rfl⟩ := rows hd
        rw [gm] at hl
        cases hl
        refine ⟨_, [some (.int p), some (tabD T), some (.int (n : Int)), some w, some (tabD (wideL T c)), some (.list (v.map .int)), some (rowD b), some (.int (n : Int)), none], rfl, ?_, by simp⟩
        refine (v_nx (v_set (v_bin (v_at rfl) rfl (dIdx_lead E hb gm)))).trans ?_
        exact v_end (o := .rt .none _) (v_sifT (v_eqT (v_at rfl) (v_at rfl) rfl dEq_i) rfl) (fun s' z => nomatch z))
    refine runF_rt (s := s') ?_ q2
    exact (start _ q1).trans rfl
  · refine .inl ⟨hL, ?_⟩
    obtain ⟨s', q1, v, x6, x7, q2, dv, v1, v2⟩ := v_for I src I0 (fun j d s hd hI => step j d s (fun l hl => by
      have m := List.mem_of_getElem? hl
      have := E.lt l m
      have : l ≠ n := fun z => hL (z ▸ m)
      omega) hd hI)
    rw [List.length_map] at v1
    refine ⟨v, dv, ⟨fun i l b hl hb => v1 i l b (by obtain ⟨z, _⟩ := List.getElem?_eq_some_iff.mp hb; exact z) hl hb, v2⟩, runF_rt (s := s') ?_ (by rw [q2]; simp)⟩
    refine (start _ q1).trans ?_
    rw [q2]
    exact v_rt (v_c1 (v_F (v_at rfl)) rfl)
end Pf
set_option linter.all false
set_option maxRecDepth 100000
namespace Pf
open PySem PySem.Spec L2 Mi Ma
/-! a dictionary from rows to rows -/
def gD (g : Rw × Rw) : D × D := (rowD g.1, rowW g.2)
def lookR : List (Rw × Rw) → Rw → Option Rw
  | [], _ => none
  | (k, v) :: r, q => if k = q then some v else lookR r q
theorem lookR_cons (k v : Rw) (r : List (Rw × Rw)) (q : Rw) : lookR ((k, v) :: r) q = if k = q then some v else lookR r q := rfl
theorem inl_inj : ∀ {a b : List Int}, a.map (Sum.inl : Int → Key) = b.map Sum.inl → a = b
  | [], [], _ => rfl
  | [], _ :: _, h => by simp at h
  | _ :: _, [], h => by simp at h
  | x :: a, y :: b, h => by
    rw [List.map_cons, List.map_cons] at h
    injection h with h1 h2
    rw [Sum.inl.inj h1, inl_inj h2]
theorem tEq_row (a b : Rw) : tEq (rowD a) (rowD b) = decide (a = b) := by
  have e : ∀ a : Rw, a.map PyData.int = (a.map (Sum.inl : Int → Key)).map keyD := fun a => by
    rw [List.map_map]
    rfl
  show eqA (a.map PyData.int) (b.map PyData.int) = _
  rw [e a, e b, eqA_key]
  by_cases h : a = b
  · rw [decide_eq_true h, h, decide_eq_true rfl]
  · rw [decide_eq_false h, decide_eq_false fun z => h (inl_inj z)]
theorem look_row : ∀ (gs : List (Rw × Rw)) (q : Rw), lookT (gs.map gD) (rowD q) = (lookR gs q).map rowW
  | [], _ => rfl
  | (k, v) :: gs, q => by
    show (if tEq (rowD k) (rowD q) then some (rowW v) else lookT (gs.map gD) (rowD q)) = _
    rw [tEq_row, look_row gs q]
    rw [lookR_cons]
    by_cases h : k = q
    · rw [decide_eq_true h, if_pos rfl, if_pos h]
      rfl
    · rw [decide_eq_false h, if_neg Bool.false_ne_true, if_neg h]
theorem has_row : ∀ (gs : List (Rw × Rw)) (q : Rw), hasT (gs.map gD) (rowD q) = (lookR gs q).isSome
  | [], _ => rfl
  | (k, v) :: gs, q => by
    show (tEq (rowD k) (rowD q) || hasT (gs.map gD) (rowD q)) = _
    rw [tEq_row, has_row gs q]
    rw [lookR_cons]
    by_cases h : k = q
    · rw [decide_eq_true h, if_pos h]
      rfl
    · rw [decide_eq_false h, if_neg h]
      rfl
def replR (gs : List (Rw × Rw)) (q v : Rw) : List (Rw × Rw) := gs.map fun g => if g.1 = q then (g.1, v) else g
theorem repl_row : ∀ (gs : List (Rw × Rw)) (q v : Rw), replT (gs.map gD) (rowD q) (rowW v) = (replR gs q v).map gD
  | [], _, _ => rfl
  | (k, w) :: gs, q, v => by
    show (if tEq (rowD k) (rowD q) then (rowD k, rowW v) else (rowD k, rowW w)) :: replT (gs.map gD) (rowD q) (rowW v) = _
    rw [tEq_row, repl_row gs q v]
    show _ = gD (if k = q then (k, v) else (k, w)) :: (replR gs q v).map gD
    by_cases h : k = q
    · rw [decide_eq_true h, if_pos rfl, if_pos h]
      rfl
    · rw [decide_eq_false h, if_neg Bool.false_ne_true, if_neg h]
      rfl
theorem look_repl : ∀ (gs : List (Rw × Rw)) (q v q' : Rw), (lookR gs q).isSome = true → lookR (replR gs q v) q' = if q = q' then some v else lookR gs q'
  | [], _, _, _, h => by cases h
  | (k, w) :: gs, q, v, q', h => by
    show lookR ((if k = q then (k, v) else (k, w)) :: replR gs q v) q' = _
    by_cases a : k = q
    · subst a
      rw [if_pos rfl]
      show (if k = q' then some v else lookR (replR gs k v) q') = if k = q' then some v else (if k = q' then some w else lookR gs q')
      by_cases b : k = q'
      · rw [if_pos b, if_pos b]
      · rw [if_neg b, if_neg b, if_neg b]
        cases z : (lookR gs k).isSome with
        | true => rw [look_repl gs k v q' z, if_neg b]
        | false =>
          have : ∀ gs : List (Rw × Rw), (lookR gs k).isSome = false → replR gs k v = gs := fun gs => by
            induction gs with
            | nil => intro _; rfl
            | cons g gs ih =>
              intro z
              obtain ⟨k2, w2⟩ := g
              rw [lookR_cons] at z
              by_cases e : k2 = k
              · rw [if_pos e] at z
                cases z
              · rw [if_neg e] at z
                show (if k2 = k then (k2, v) else (k2, w2)) :: replR gs k v = _
                rw [if_neg e, ih z]
          rw [this gs z]
    · rw [if_neg a]
      show (if k = q' then some w else lookR (replR gs q v) q') = if q = q' then some v else (if k = q' then some w else lookR gs q')
      have z : (lookR gs q).isSome = true := by
        rw [lookR_cons] at h
        rw [if_neg a] at h
        exact h
      rw [look_repl gs q v q' z]
      by_cases b : k = q'
      · rw [if_pos b, if_pos b, if_neg fun e => a (b.trans e.symm)]
      · rw [if_neg b, if_neg b]
theorem look_snoc : ∀ (gs : List (Rw × Rw)) (q v q' : Rw), (lookR gs q).isSome = false → lookR (gs ++ [(q, v)]) q' = if q = q' then some v else lookR gs q'
  | [], _, _, _, _ => rfl
  | (k, w) :: gs, q, v, q', h => by
    show (if k = q' then some w else lookR (gs ++ [(q, v)]) q') = if q = q' then some v else (if k = q' then some w else lookR gs q')
    rw [lookR_cons] at h
    by_cases a : k = q
    · rw [if_pos a] at h
      cases h
    · rw [if_neg a] at h
      rw [look_snoc gs q v q' h]
      by_cases b : k = q'
      · rw [if_pos b, if_pos b, if_neg fun e => a (b.trans e.symm)]
      · rw [if_neg b, if_neg b]
theorem put_row (gs : List (Rw × Rw)) (q v : Rw) : ∃ gs', putT (gs.map gD) (rowD q) (rowW v) = gs'.map gD ∧ gs'.length ≤ gs.length + 1 ∧ ∀ q', lookR gs' q' = if q = q' then some v else lookR gs q' := by
  unfold putT
  rw [has_row]
  cases z : (lookR gs q).isSome with
  | true => exact ⟨replR gs q v, repl_row gs q v, by unfold replR; rw [List.length_map]; omega, fun q' => look_repl gs q v q' z⟩
  | false => exact ⟨gs ++ [(q, v)], by rw [List.map_append]; rfl, by rw [List.length_append]; exact Nat.le_refl _, fun q' => look_snoc gs q v q' z⟩
variable {s s1 s2 : SD} {f g : FE}
theorem v_dpw {k : Nat} {r0 r : List (D × D)} {ns : List Int} {d : D} (h : f s = some (d, s1)) (h0 : s1[k]? = some (some (.dict ((.none, .none) :: r0)))) (h1 : g s1 = some (rowW ns, s2)) (h2 : s2[k]? = some (some (.dict ((.none, .none) :: r)))) (hl : r.length < 1000000) :
    sDPW k f g s = some (.nx (s2.set k (some (.dict ((.none, .none) :: putT r (rowD ns) d))))) := by
  unfold sDPW
  rw [h]
  show ((eDt k s1).bind _) = _
  rw [show eDt k s1 = some r0 by unfold eDt; rw [h0]]
  show ((g s1).bind _) = _
  rw [h1]
  show ((eDt k s2).bind _) = _
  rw [show eDt k s2 = some r by unfold eDt; rw [h2]]
  show ((keysD (ns.map .int)).bind _) = _
  rw [keysD_ints]
  show (if _ then _ else _) = _
  rw [if_pos hl]
theorem v_getw {k : Nat} {r0 r : List (D × D)} {ns : List Int} (h0 : s[k]? = some (some (.dict ((.none, .none) :: r0)))) (h1 : f s = some (rowW ns, s1)) (h2 : s1[k]? = some (some (.dict ((.none, .none) :: r)))) : eGetW k f s = some ((lookT r (rowD ns)).getD .none, s1) := by
  unfold eGetW
  rw [show eDt k s = some r0 by unfold eDt; rw [h0]]
  show ((f s).bind _) = _
  rw [h1]
  show ((eDt k s1).bind _) = _
  rw [show eDt k s1 = some r by unfold eDt; rw [h2]]
  show ((keysD (ns.map .int)).map _) = _
  rw [keysD_ints]
  rfl
theorem eq_nil_ints (ns : List Int) : dEq (.list (ns.map .int)) (.list []) = some (.bool ns.isEmpty) := by
  unfold dEq
  rw [if_pos (by rw [ints_shaped ns]; exact ints_shaped [])]
  cases ns with
  | nil => simp [PyData.eqv, PyData.eqvAll]
  | cons n ns => simp [PyData.eqv, PyData.eqvAll]
theorem e_like2 {d e : D} {x : Str} (h : cReprX d = some (.str x)) (h2 : cReprX e = some (.str x)) : Ret F__law_like [d, e] (.bool true) := by
  refine runF_rt (s := [some d, some e]) ?_ (by simp)
  show g__law_like [some d, some e] = _
  unfold g__law_like
  exact v_rt (v_bin (v_c1 (v_at rfl) h) (v_c1 (v_at rfl) h2) (by show some (PyData.bool (decide (x = x))) = _; rw [decide_eq_true rfl]))
theorem like_row {p : Int} {n : Nat} {v : Rw} (hp : Pr p) (d : Dom p n v) (hn : n ≤ 50) : Ret F__law_like [rowD v, rowW v] (.bool true) :=
  have e : cRepr (rowD v) = some (.str (rowD v).shown) := repr_t (nice_row hp d hn) (by decide) (by decide)
  e_like2 e e
theorem like_none : Ret F__law_like [.none, .none] (.bool true) := e_like2 (x := "None") rfl rfl
theorem tup_rowW (c : Rw) : tupD (rowW c) = some (c.map .int) := rfl
theorem e0_ixW {r : Rw} {j : Nat} (h : j < r.length) : dIx (rowW r) (.int (j : Int)) = some (.int (e0 r j)) := e0_ix h
end Pf
set_option linter.all false
set_option maxRecDepth 100000
namespace Pf
open PySem PySem.Spec L2 Mi Ma
variable {s s1 s2 : SD} {f g : FE}
theorem pr_nat {p : Int} (hp : Pr p) : ((p.toNat : Nat) : Int) = p := by have := hp.lo; omega
abbrev aS (m : D) (p : Int) (n k : Nat) (T : List Rw) (LK : List Nat) (gs : List (Rw × Rw)) (x7 : Option D) : SD := [some m, some (.int p), some (.int (n : Int)), some (.int (k : Int)), some (tabD T), some (.list (LK.map fun l : Nat => .int ((l : Nat) : Int))), some (.dict ((.none, .none) :: gs.map gD)), x7, none]
abbrev zeroOn (LK : List Nat) (v : Rw) : Prop := ∀ f ∈ LK, e0 v f = 0
abbrev due1 : FS := (sFor (iS (eCall F__law_every [.sh (eVar 1), .sh (eVar 2)])) (gNm 7) (sIf (eTst (eBin dEq (eF (eLc (iS (eVar 5)) (gNm 8) (eTst (eBin dNe (eBin dIx (eVar 7) (eVar 8)) (eC (.int 0)))) (eC (.int 1)) [8])) (eF (eLst aNil)))) (sDPW 6 (eVar 7) (eCall F__law_led [.sh (eVar 1), .sh (eVar 4), .sh (eVar 7)])) sNil))
abbrev due2 : FS := (sFor (iS (eCall F__law_every [.sh (eVar 1), .sh (eVar 3)])) (gNm 7) (sIf (tNt (eTru (eCall F__law_like [.sh (eCall F_solved [.sh (eVar 1), .sh (eVar 4), .sh (eVar 2), .sh (eVar 7)]), .sh (eGetW 6 (eVar 7))]))) (sRt (eC (.bool false))) sNil))
theorem e_due1 {m : D} {p : Int} {n k : Nat} {T K : List Rw} {LK : List Nat} {x7 : Option D} (hp : Pr p) (dT : ∀ r ∈ T, Dom p n r) (EK : RL p n K LK) (hn : n ≤ 50) (hb : p.toNat ^ n ≤ 2000) :
    ∃ gs y7, due1 (aS m p n k T LK [] x7) = some (.nx (aS m p n k T LK gs y7)) ∧ (∀ q v, lookR gs q = some v → Dom p n v ∧ zeroOn LK v ∧ ledL p n T v = q) ∧ ∀ v, Dom p n v → zeroOn LK v → ∃ w, lookR gs (ledL p n T v) = some w := by
  have lo := hp.lo
  have hi := hp.hi
  obtain ⟨E, rE, mE, lE⟩ := e_every (P := p.toNat) (n := n) (by omega) hb hn (by omega)
  rw [pr_nat hp] at rE mE
  obtain ⟨s', e1, gs, y7, e2, l1, g1, g2⟩ := v_for (items := E.map rowW) (fi := iS (eCall F__law_every [.sh (eVar 1), .sh (eVar 2)])) (h := gNm 7) (fb := sIf (eTst (eBin dEq (eF (eLc (iS (eVar 5)) (gNm 8) (eTst (eBin dNe (eBin dIx (eVar 7) (eVar 8)) (eC (.int 0)))) (eC (.int 1)) [8])) (eF (eLst aNil)))) (sDPW 6 (eVar 7) (eCall F__law_led [.sh (eVar 1), .sh (eVar 4), .sh (eVar 7)])) sNil)
    (s := aS m p n k T LK [] x7) (s1 := aS m p n k T LK [] x7)
    (fun i s => ∃ (gs : List (Rw × Rw)) (y7 : Option D), s = aS m p n k T LK gs y7 ∧ gs.length ≤ i ∧ (∀ q v, lookR gs q = some v → Dom p n v ∧ zeroOn LK v ∧ ledL p n T v = q) ∧ ∀ j v, j < i → E[j]? = some v → zeroOn LK v → ∃ w, lookR gs (ledL p n T v) = some w)
    (v_S (v_call [eVar 1, eVar 2] (v_cons (v_at rfl) (v_cons (v_at rfl) rfl)) rfl rE)) ⟨[], x7, rfl, Nat.le_refl _, fun q v h => (nomatch h), fun j v hj => absurd hj (by omega)⟩ (fun i d s hi ⟨gs, y7, es, l1, g1, g2⟩ => by
      subst es
      rw [List.getElem?_map] at hi
      obtain ⟨v, hv, rfl⟩ := Option.map_eq_some_iff.mp hi
      have dv := (mE v).mp (List.mem_of_getElem? hv)
      have il : i < 2000 := by
        obtain ⟨z, _⟩ := List.getElem?_eq_some_iff.mp hv
        omega
      have lc := v_lcA (s := aS m p n k T LK gs (some (rowW v))) (s1 := aS m p n k T LK gs (some (rowW v))) (i := 8) (fi := iS (eVar 5)) (ft := eTst (eBin dNe (eBin dIx (eVar 7) (eVar 8)) (eC (.int 0)))) (fe := eC (.int 1))
        (t := fun l : Nat => !(e0 v l == 0)) (φ := fun l : Nat => PyData.int ((l : Nat) : Int)) (ψ := fun _ => PyData.int 1) (xs := LK) (v_S (v_at rfl)) (by simp) (fun l hl => v_tst (v_bin (v_bin (v_at rfl) (v_at rfl) (e0_ixW (by rw [dv.len]; exact EK.lt l hl))) rfl dNe_i)) (fun l _ _ => rfl)
      have ei : (LK.filter fun l : Nat => !(e0 v l == 0)).map (fun _ => PyData.int 1) = ((LK.filter fun l : Nat => !(e0 v l == 0)).map fun _ => (1 : Int)).map .int := by rw [List.map_map]; rfl
      rw [ei] at lc
      have test : eTst (eBin dEq (eF (eLc (iS (eVar 5)) (gNm 8) (eTst (eBin dNe (eBin dIx (eVar 7) (eVar 8)) (eC (.int 0)))) (eC (.int 1)) [8])) (eF (eLst aNil))) (aS m p n k T LK gs (some (rowW v))) = some (((LK.filter fun l : Nat => !(e0 v l == 0)).map fun _ => (1 : Int)).isEmpty, aS m p n k T LK gs (some (rowW v))) := v_tst (v_bin (v_F lc) (v_F (v_lst rfl)) (eq_nil_ints _))
      by_cases z : zeroOn LK v
      · have em : (LK.filter fun l : Nat => !(e0 v l == 0)) = [] := List.filter_eq_nil_iff.mpr fun l hl => by rw [z l hl]; simp
        rw [em] at test
        obtain ⟨gs', q1, q2, q3⟩ := put_row gs (ledL p n T v) v
        have led : eCall F__law_led [.sh (eVar 1), .sh (eVar 4), .sh (eVar 7)] (aS m p n k T LK gs (some (rowW v))) = some (rowW (ledL p n T v), aS m p n k T LK gs (some (rowW v))) := v_call [eVar 1, eVar 4, eVar 7] (v_cons (v_at rfl) (v_cons (v_at rfl) (v_cons (v_at rfl) rfl))) rfl (e_led (m := 0) hp dT dv (by omega) (fun j hj => e0_ixW (by rw [dv.len]; exact hj)) (by show some (PyData.int ((v.map PyData.int).length : Int)) = _; rw [List.length_map, dv.len]))
        have put := v_dpw (k := 6) (s := aS m p n k T LK gs (some (rowW v))) (f := eVar 7) (g := eCall F__law_led [.sh (eVar 1), .sh (eVar 4), .sh (eVar 7)]) (d := rowW v) (v_at rfl) rfl led rfl (by rw [List.length_map]; omega)
        rw [q1] at put
        refine ⟨_, _, aS m p n k T LK gs' (some (rowW v)), rfl, v_sifT test put, .inl rfl, gs', _, rfl, by omega, fun q u hu => ?_, fun j u hj hu zu => ?_⟩
        · rw [q3] at hu
          by_cases e : ledL p n T v = q
          · rw [if_pos e] at hu
            cases hu
            exact ⟨dv, z, e⟩
          · rw [if_neg e] at hu
            exact g1 q u hu
        · rw [q3]
          by_cases e : ledL p n T v = ledL p n T u
          · rw [if_pos e]
            exact ⟨_, rfl⟩
          · rw [if_neg e]
            have : j ≠ i := fun ji => e (by rw [ji, hv] at hu; cases hu; rfl)
            exact g2 j u (by omega) hu zu
      · have ne : ((LK.filter fun l : Nat => !(e0 v l == 0)).map fun _ => (1 : Int)).isEmpty = false := by
          cases h : (LK.filter fun l : Nat => !(e0 v l == 0)) with
          | nil =>
            exfalso
            refine z fun l hl => ?_
            have := List.filter_eq_nil_iff.mp h l hl
            simpa using this
          | cons a b => rfl
        rw [ne] at test
        refine ⟨_, _, aS m p n k T LK gs (some (rowW v)), rfl, v_sifF test rfl, .inl rfl, gs, _, rfl, by omega, g1, fun j u hj hu zu => ?_⟩
        have : j ≠ i := fun ji => z (by rw [ji, hv] at hu; cases hu; exact zu)
        exact g2 j u (by omega) hu zu)
  refine ⟨gs, y7, by rw [← e2]; exact e1, g1, fun v dv zv => ?_⟩
  obtain ⟨j, hj, e⟩ := List.mem_iff_getElem.mp ((mE v).mpr dv)
  exact g2 j v (by rw [List.length_map]; exact hj) (by rw [List.getElem?_eq_getElem hj, e]) zv
theorem e_due2 {m : D} {p : Int} {n k : Nat} {T K : List Rw} {LK : List Nat} {gs : List (Rw × Rw)} {x7 : Option D} (hp : Pr p) (dT : ∀ r ∈ T, Dom p n r) (ht : T.length = k) (EK : RL p n K LK) (ker : ∀ u : Vc, (∀ j, n ≤ j → p ∣ u j) → (Kills p n T u ↔ Sp p (vcs K) u)) (hn : n ≤ 50) (hk : k ≤ 50) (hb : p.toNat ^ k ≤ 2000)
    (g1 : ∀ q v, lookR gs q = some v → Dom p n v ∧ zeroOn LK v ∧ ledL p n T v = q) (g2 : ∀ v, Dom p n v → zeroOn LK v → ∃ w, lookR gs (ledL p n T v) = some w) :
    ∃ y7, due2 (aS m p n k T LK gs x7) = some (.nx (aS m p n k T LK gs y7)) := by
  have lo := hp.lo
  have hi := hp.hi
  obtain ⟨E, rE, mE, lE⟩ := e_every (P := p.toNat) (n := k) (by omega) hb hk (by omega)
  rw [pr_nat hp] at rE mE
  obtain ⟨s', e1, y7, e2⟩ := v_for (items := E.map rowW) (fi := iS (eCall F__law_every [.sh (eVar 1), .sh (eVar 3)])) (h := gNm 7) (fb := (sIf (tNt (eTru (eCall F__law_like [.sh (eCall F_solved [.sh (eVar 1), .sh (eVar 4), .sh (eVar 2), .sh (eVar 7)]), .sh (eGetW 6 (eVar 7))]))) (sRt (eC (.bool false))) sNil))
    (s := aS m p n k T LK gs x7) (s1 := aS m p n k T LK gs x7) (fun i s => ∃ y7 : Option D, s = aS m p n k T LK gs y7)
    (v_S (v_call [eVar 1, eVar 3] (v_cons (v_at rfl) (v_cons (v_at rfl) rfl)) rfl rE)) ⟨x7, rfl⟩ (fun i d s hi ⟨y7, es⟩ => by
      subst es
      rw [List.getElem?_map] at hi
      obtain ⟨c, hc, rfl⟩ := Option.map_eq_some_iff.mp hi
      have dc := (mE c).mp (List.mem_of_getElem? hc)
      have like : eCall F__law_like [.sh (eCall F_solved [.sh (eVar 1), .sh (eVar 4), .sh (eVar 2), .sh (eVar 7)]), .sh (eGetW 6 (eVar 7))] (aS m p n k T LK gs (some (rowW c))) = some (.bool true, aS m p n k T LK gs (some (rowW c))) := by
        have get : eGetW 6 (eVar 7) (aS m p n k T LK gs (some (rowW c))) = some (((lookR gs c).map rowW).getD .none, aS m p n k T LK gs (some (rowW c))) := (v_getw (k := 6) rfl (v_at rfl) rfl).trans (by rw [look_row])
        obtain ⟨R, L, E2, sR, h⟩ := e_solved (w := rowW c) hp dT ht dc rfl hn hk
        rcases h with ⟨h, v, dv, S, r⟩ | ⟨h, r⟩
        · have ok := solved_ok hp.lo dT ht dc E2 sR h S
          have zv := solved_zero hp.lo dT ht dc E2 sR h S EK ker
          obtain ⟨w, hw⟩ := g2 v dv zv
          obtain ⟨dw, zw, ew⟩ := g1 _ w hw
          have vw : v = w := back_unique hp.lo EK ker dv dw zv zw ew.symm
          rw [← vw, ok] at hw
          rw [hw] at get
          exact v_call [eCall F_solved [.sh (eVar 1), .sh (eVar 4), .sh (eVar 2), .sh (eVar 7)], eGetW 6 (eVar 7)] (v_cons (v_call [eVar 1, eVar 4, eVar 2, eVar 7] (v_cons (v_at rfl) (v_cons (v_at rfl) (v_cons (v_at rfl) (v_cons (v_at rfl) rfl)))) rfl r) (v_cons get rfl)) rfl (like_row hp dv hn)
        · have no : lookR gs c = none := by
            cases z : lookR gs c with
            | none => rfl
            | some w =>
              obtain ⟨dw, zw, ew⟩ := g1 _ w z
              exact absurd ew (solved_none hp.lo dT ht dc E2 sR h)
          rw [no] at get
          exact v_call [eCall F_solved [.sh (eVar 1), .sh (eVar 4), .sh (eVar 2), .sh (eVar 7)], eGetW 6 (eVar 7)] (v_cons (v_call [eVar 1, eVar 4, eVar 2, eVar 7] (v_cons (v_at rfl) (v_cons (v_at rfl) (v_cons (v_at rfl) (v_cons (v_at rfl) rfl)))) rfl r) (v_cons get rfl)) rfl like_none
      exact ⟨_, _, aS m p n k T LK gs (some (rowW c)), rfl, v_sifF (v_notT (v_tru like rfl)) rfl, .inl rfl, _, rfl⟩)
  exact ⟨y7, by rw [← e2]; exact e1⟩
theorem dLt_i {a b : Int} : dLt (.int a) (.int b) = some (.bool (decide (a < b))) := rfl
theorem size_of {p : Int} {m : D} {x2 x3 x4 x5 x6 x7 x8 : Option D} : ∃ n : Int, 0 < n ∧ n ≤ 5 ∧ (5 ≤ p → n ≤ 4) ∧ eIf (eTst (eBin dLt (eVar 1) (eC (.int 5)))) (eC (.int 5)) (eC (.int 4)) [some m, some (.int p), x2, x3, x4, x5, x6, x7, x8] = some (.int n, [some m, some (.int p), x2, x3, x4, x5, x6, x7, x8]) := by
  by_cases z : p < 5
  · exact ⟨5, by omega, by omega, fun h => by omega, v_ifT (v_tst (v_bin (v_at rfl) rfl (by rw [dLt_i, decide_eq_true z]))) rfl⟩
  · exact ⟨4, by omega, by omega, fun h => by omega, v_ifF (v_tst (v_bin (v_at rfl) rfl (by rw [dLt_i, decide_eq_false z]))) rfl⟩
theorem few_of_size {p : Int} {v : Nat} (p1 : 1 < p) (p7 : p ≤ 7) (h : v ≤ 4) (h2 : 5 ≤ p → v ≤ 3) : p.toNat ^ v ≤ 2000 := by
  by_cases z : p < 5
  · have a : p.toNat ^ v ≤ 4 ^ v := Nat.pow_le_pow_left (by omega) v
    have b : 4 ^ v ≤ 4 ^ 4 := Nat.pow_le_pow_right (by decide) h
    exact Nat.le_trans (Nat.le_trans a b) (by decide)
  · have a : p.toNat ^ v ≤ 7 ^ v := Nat.pow_le_pow_left (by omega) v
    have b : 7 ^ v ≤ 7 ^ 3 := Nat.pow_le_pow_right (by decide) (h2 (by omega))
    exact Nat.le_trans (Nat.le_trans a b) (by decide)
theorem e_all_right {a b : Int} {cs : List Int} {c : Nat} (hc : cs ≠ []) (hs : c < 10000000) : ∃ a' c', RetM F__law_all_right (mD a b cs c) [] (.bool true) (mD a' b cs c') ∧ c' ≤ c + 1000 := by
  obtain ⟨p, a1, c1, h1, hp, p7, k1⟩ := e_small (a := a) (b := b) (c := c) hc (by omega)
  have lo := hp.lo
  obtain ⟨z1, z10, z15, z14, hz1⟩ := size_of (p := p) (m := mD a1 b cs c1) (x2 := none) (x3 := none) (x4 := none) (x5 := none) (x6 := none) (x7 := none) (x8 := none)
  obtain ⟨v, a2, c2, h2, v0, v1, k2⟩ := e_draw (a := a1) (b := b) (bound := z1) (c := c1) z10 (by omega) hc (by omega)
  obtain ⟨z2, z20, z25, z24, hz2⟩ := size_of (p := p) (m := mD a2 b cs c2) (x2 := none) (x3 := none) (x4 := none) (x5 := none) (x6 := none) (x7 := none) (x8 := none)
  obtain ⟨w, a3, c3, h3, w0, w1, k3⟩ := e_draw (a := a2) (b := b) (bound := z2) (c := c2) z20 (by omega) hc (by omega)
  obtain ⟨T, a4, c4, h4, dT, tl, k4⟩ := e_table (p := p) (a := a3) (b := b) (c := c3) (n := v.toNat) (k := w.toNat) hp hc (by omega) (by omega) (by omega)
  have ev : ((v.toNat : Nat) : Int) = v := by omega
  have ew : ((w.toNat : Nat) : Int) = w := by omega
  obtain ⟨K, LK, rK, EK, ker⟩ := e_kernel (p := p) (n := v.toNat) hp dT (by omega) (by omega)
  obtain ⟨gs, y7, d1, g1, g2⟩ := e_due1 (m := mD a4 b cs c4) (k := w.toNat) (x7 := none) hp dT EK (by omega) (few_of_size lo p7 (by omega) (fun h => by have := z14 h; omega))
  obtain ⟨y8, d2⟩ := e_due2 (m := mD a4 b cs c4) (x7 := y7) hp dT tl EK ker (by omega) (by omega) (few_of_size lo p7 (by omega) (fun h => by have := z24 h; omega)) g1 g2
  refine ⟨a4, c4, runF_m (ys := [some (.int p), some (.int (v.toNat : Int)), some (.int (w.toNat : Int)), some (tabD T), some (.list (LK.map fun l : Nat => .int ((l : Nat) : Int))), some (.dict ((.none, .none) :: gs.map gD)), y8, none]) ?_ (by simp), by omega⟩
  show g__law_all_right [some (mD a b cs c), none, none, none, none, none, none, none, none] = _
  unfold g__law_all_right
  have p1 : eCall F__law_small_prime [.ow 0] [some (mD a b cs c), none, none, none, none, none, none, none, none] = some (.int p, [some (mD a1 b cs c1), none, none, none, none, none, none, none, none]) := v_ow [] rfl rfl rfl rfl h1
  refine (v_nx (v_set p1)).trans ?_
  have q1 : eCall F__law_draw [.ow 0, .sh (eIf (eTst (eBin dLt (eVar 1) (eC (.int 5)))) (eC (.int 5)) (eC (.int 4)))] [some (mD a1 b cs c1), some (.int p), none, none, none, none, none, none, none] = some (.int v, [some (mD a2 b cs c2), some (.int p), none, none, none, none, none, none, none]) := v_ow [eIf (eTst (eBin dLt (eVar 1) (eC (.int 5)))) (eC (.int 5)) (eC (.int 4))] rfl (v_cons hz1 rfl) rfl rfl h2
  have q2 : eCall F__law_draw [.ow 0, .sh (eIf (eTst (eBin dLt (eVar 1) (eC (.int 5)))) (eC (.int 5)) (eC (.int 4)))] [some (mD a2 b cs c2), some (.int p), none, none, none, none, none, none, none] = some (.int w, [some (mD a3 b cs c3), some (.int p), none, none, none, none, none, none, none]) := v_ow [eIf (eTst (eBin dLt (eVar 1) (eC (.int 5)))) (eC (.int 5)) (eC (.int 4))] rfl (v_cons hz2 rfl) rfl rfl h3
  refine (v_nx (v_par q1 q2)).trans ?_
  rw [ev, ew] at h4
  have q3 : eCall F__law_table [.ow 0, .sh (eVar 1), .sh (eVar 3), .sh (eVar 2)] [some (mD a3 b cs c3), some (.int p), some (.int v), some (.int w), none, none, none, none, none] = some (tabD T, [some (mD a4 b cs c4), some (.int p), some (.int v), some (.int w), none, none, none, none, none]) := v_ow [eVar 1, eVar 3, eVar 2] rfl (v_cons (v_at rfl) (v_cons (v_at rfl) (v_cons (v_at rfl) rfl))) rfl rfl h4
  refine (v_nx (v_set q3)).trans ?_
  rw [ev] at rK
  have q4 : eF (eCall F__law_leads [.sh (eCall F__law_kernel [.sh (eVar 1), .sh (eVar 4), .sh (eVar 2)])]) [some (mD a4 b cs c4), some (.int p), some (.int v), some (.int w), some (tabD T), none, none, none, none] = some (.list (LK.map fun l : Nat => .int ((l : Nat) : Int)), [some (mD a4 b cs c4), some (.int p), some (.int v), some (.int w), some (tabD T), none, none, none, none]) := v_F (v_call [eCall F__law_kernel [.sh (eVar 1), .sh (eVar 4), .sh (eVar 2)]] (v_cons (v_call [eVar 1, eVar 4, eVar 2] (v_cons (v_at rfl) (v_cons (v_at rfl) (v_cons (v_at rfl) rfl))) rfl rK) rfl) rfl (e_leads EK (by omega)))
  refine (v_nx (v_set q4)).trans ?_
  refine (v_nx (v_setO (d := .dict [(.none, .none)]) (s1 := [some (mD a4 b cs c4), some (.int p), some (.int v), some (.int w), some (tabD T), some (.list (LK.map fun l : Nat => .int ((l : Nat) : Int))), none, none, none]) rfl (by simp))).trans ?_
  unfold aS at d1 d2
  rw [ev, ew] at d1 d2
  rw [ev, ew]
  refine (v_nx d1).trans ?_
  refine (v_nx d2).trans ?_
  exact v_rt rfl
end Pf
set_option linter.all false
set_option maxRecDepth 100000
namespace Pf
open PySem PySem.Spec L2 Mi Ma
variable {s s1 s2 : SD} {f g : FE}
abbrev natD (l : Nat) : D := .int (l : Int)
/-! shuffling -/
theorem e_shuffled {a b : Int} {cs : List Int} {c n : Nat} (hc : cs ≠ []) (hn : n ≤ 50) (hs : c < 100000000) : ∃ (O : List Nat) (a' : Int) (c' : Nat), RetM F__law_shuffled (mD a b cs c) [.int (n : Int)] (.tuple (O.map natD)) (mD a' b cs c') ∧ (∀ x ∈ O, x < n) ∧ (∀ x, x < n → x ∈ O) ∧ O.length = n ∧ c' ≤ c + n := by
  obtain ⟨s', e1, L, O, a', c', x4, x5, e2, nd, ll, ol, o1, o2, hc'⟩ := v_for (items := (List.range n).map fun i : Nat => PyData.int ((i : Nat) : Int)) (fi := iR1 (eVar 1)) (h := gNm 4) (fb := (sCons (sAs (eCall F__law_of [.ow 0, .sh (eVar 2)]) (gNm 5))
    (sCons (sAs (eF (eLc (iS (eVar 2)) (gNm 6) (eTst (eBin dNe (eVar 6) (eVar 5))) (eVar 6) [6])) (gNm 2))
    (sApp 3 (eVar 5)))))
    (s := [some (mD a b cs c), some (.int (n : Int)), some (.list ((List.range n).map natD)), some (.list []), none, none, none]) (s1 := [some (mD a b cs c), some (.int (n : Int)), some (.list ((List.range n).map natD)), some (.list []), none, none, none])
    (fun j s => ∃ (L O : List Nat) (a' : Int) (c' : Nat) (x4 x5 : Option D), s = [some (mD a' b cs c'), some (.int (n : Int)), some (.list (L.map natD)), some (.list (O.map natD)), x4, x5, none] ∧ L.Nodup ∧ L.length + j = n ∧ O.length = j ∧ (∀ x, x < n ↔ x ∈ L ∨ x ∈ O) ∧ (∀ x ∈ O, x < n) ∧ c' ≤ c + j)
    (rg_nat (v_at rfl) (by omega)) ⟨List.range n, [], a, c, none, none, rfl, List.nodup_range, by simp, rfl, fun x => by simp, fun x hx => (nomatch hx), by omega⟩ (fun j d s hj ⟨L, O, a', c', x4, x5, es, nd, ll, ol, o1, o2, hc'⟩ => by
      subst es
      have jn : j < n := by
        obtain ⟨z, _⟩ := List.getElem?_eq_some_iff.mp hj
        rw [List.length_map, List.length_range] at z
        exact z
      obtain ⟨e, a2, c2, h, he, hc2⟩ := e_of (a := a') (b := b) (c := c') (xs := L.map natD) (fun z => by
        have := List.map_eq_nil_iff.mp z
        rw [this] at ll
        simp at ll
        omega) (by rw [List.length_map]; omega) hc (by omega)
      obtain ⟨x, hx, rfl⟩ := List.mem_map.mp he
      have lc := v_lcA (s := [some (mD a2 b cs c2), some (.int (n : Int)), some (.list (L.map natD)), some (.list (O.map natD)), some d, some (natD x), none]) (s1 := [some (mD a2 b cs c2), some (.int (n : Int)), some (.list (L.map natD)), some (.list (O.map natD)), some d, some (natD x), none]) (i := 6) (fi := iS (eVar 2)) (ft := eTst (eBin dNe (eVar 6) (eVar 5))) (fe := eVar 6)
        (t := fun y : Nat => !((y : Int) == (x : Int))) (φ := natD) (ψ := natD) (xs := L) (v_S (v_at rfl)) (by simp) (fun y _ => v_tst (v_bin (v_at rfl) (v_at rfl) dNe_i)) (fun y _ _ => v_at rfl)
      have ef : L.filter (fun y : Nat => !((y : Int) == (x : Int))) = L.erase x := by
        rw [nd.erase_eq_filter]
        apply List.filter_congr
        intro y _
        by_cases q : y = x
        · subst q
          simp
        · have : ¬ (y : Int) = (x : Int) := fun z => q (by omega)
          show (!((y : Int) == (x : Int))) = (!(y == x))
          rw [beq_eq_false_iff_ne.mpr this, beq_eq_false_iff_ne.mpr q]
      rw [ef] at lc
      have le := List.length_erase_of_mem hx
      refine ⟨_, _, [some (mD a2 b cs c2), some (.int (n : Int)), some (.list ((L.erase x).map natD)), some (.list ((O ++ [x]).map natD)), some d, some (natD x), none], rfl, ?_, .inl rfl, L.erase x, O ++ [x], a2, c2, some d, some (natD x), rfl, nd.erase x, by have := List.length_pos_of_mem hx; omega, by rw [List.length_append, ol]; rfl, fun y => ?_, fun y hy => ?_, by omega⟩
      · refine (v_nx (v_set (s1 := [some (mD a2 b cs c2), some (.int (n : Int)), some (.list (L.map natD)), some (.list (O.map natD)), some d, x5, none]) (v_ow [eVar 2] rfl (v_cons (v_at rfl) rfl) rfl rfl h))).trans ?_
        refine (v_nx (v_set (v_F lc))).trans ?_
        refine (v_appL rfl (v_at rfl) rfl (by rw [List.length_map]; omega)).trans ?_
        rw [List.map_append]
        rfl
      · rw [o1 y, nd.mem_erase_iff, List.mem_append, List.mem_singleton]
        by_cases q : y = x
        · subst q
          simp [hx]
        · simp [q]
      · rcases List.mem_append.mp hy with z | z
        · exact o2 y z
        · rw [List.mem_singleton.mp z]
          exact (o1 x).mpr (.inl hx))
  rw [List.length_map, List.length_range] at ll ol hc'
  have l0 : L = [] := List.eq_nil_of_length_eq_zero (by omega)
  subst l0
  refine ⟨O, a', c', runF_m (ys := [some (.int (n : Int)), some (.list []), some (.list (O.map natD)), x4, x5, none]) ?_ (by simp), o2, fun x hx => ?_, ol, hc'⟩
  · show g__law_shuffled [some (mD a b cs c), some (.int (n : Int)), none, none, none, none, none] = _
    unfold g__law_shuffled
    have lr : eLrg (eVar 1) [some (mD a b cs c), some (.int (n : Int)), none, none, none, none, none] = some (.list ((List.range n).map natD), [some (mD a b cs c), some (.int (n : Int)), none, none, none, none, none]) := by
      show (if 0 ≤ (n : Int) ∧ (n : Int) ≤ 1000000 then some (PyData.list (rgD 0 (n : Int).toNat), _) else none) = _
      rw [if_pos ⟨by omega, by omega⟩, Int.toNat_natCast, rgD_nat]
    refine (v_nx (v_parO (v_F lr) (v_lst rfl) (by simp))).trans ?_
    refine (v_nx e1).trans ?_
    rw [e2]
    exact v_rt (v_c1 (v_F (v_at rfl)) rfl)
  · rcases (o1 x).mp hx with z | z
    · cases z
    · exact z
/-! steps -/
abbrev rowL (r : Rw) : D := .list (r.map .int)
theorem rg_row {r : Rw} {n : Nat} (h : r.length = n) : (List.range n).map (fun j : Nat => PyData.int (e0 r j)) = r.map .int := by
  subst h
  apply List.ext_getElem (by simp)
  intro j h1 h2
  rw [List.getElem_map, List.getElem_map, List.getElem_range, e0_lt (by simpa using h2)]
abbrev tS (m : D) (p : Int) (n : Nat) (F : List Rw) (x4 x5 x6 x7 x8 x9 : Option D) : SD := [some m, some (.int p), some (.int (n : Int)), some (.list (F.map rowL)), x4, x5, x6, x7, x8, x9, none, none, none, none]
abbrev stepB : FS := (sCons (sAs (eTup (aCons (eCall F__law_draw [.ow 0, .sh (eVar 2)]) (aCons (eCall F__law_draw [.ow 0, .sh (eVar 2)]) (aCons (eCall F__law_draw [.ow 0, .sh (eVar 1)]) aNil)))) (gThr 5 6 7))
    (sIf (eTst (eBin dNe (eVar 5) (eVar 6))) (sCons (sAs (eTup (aCons (eBinO dIx 3 (eVar 5)) (aCons (eBinO dIx 3 (eVar 6)) aNil))) (gTp (gsCons (gNm 8) (gsCons (gNm 9) gsNil))))
    (sSt 3 (eF (eLc (iR1 (eVar 2)) (gNm 12) tYs (eBin dMod (eCall1 cInt (eBin dPlus (eBin dIx (eVar 8) (eVar 12)) (eBin dMul (eVar 7) (eBin dIx (eVar 9) (eVar 12))))) (eVar 1)) [12])) (eVar 5))) (sIf (eTst (eBin dGt (eVar 7) (eC (.int 0)))) (sSt 3 (eF (eLc (iS (eBinO dIx 3 (eVar 5))) (gNm 13) tYs (eBin dMod (eCall1 cInt (eBin dMul (eVar 7) (eVar 13))) (eVar 1)) [13])) (eVar 5)) sNil)))
theorem e0_ixL {r : Rw} {j : Nat} (h : j < r.length) : dIx (rowL r) (.int (j : Int)) = some (.int (e0 r j)) := ix_nat (by rw [List.getElem?_map, List.getElem?_eq_getElem h, e0_lt h]; rfl)
theorem map_set_row (F : List Rw) (i : Nat) (r : Rw) : (F.map rowL).set i (rowL r) = (F.set i r).map rowL := by rw [List.map_set]
theorem dGt_i {a b : Int} : dGt (.int a) (.int b) = some (.bool (decide (b < a))) := rfl
theorem e_step {a b p : Int} {cs : List Int} {c n : Nat} {F : List Rw} {x4 x5 x6 x7 x8 x9 : Option D} (hp : Pr p) (hc : cs ≠ []) (hn : n ≤ 50) (h0 : 0 < n) (hs : c < 100000000) (dF : ∀ r ∈ F, Dom p n r) (fl : F.length = n) (U : Full p n F) :
    ∃ G a' c' y5 y6 y7 y8 y9, stepB (tS (mD a b cs c) p n F x4 x5 x6 x7 x8 x9) = some (.nx (tS (mD a' b cs c') p n G x4 y5 y6 y7 y8 y9)) ∧ (∀ r ∈ G, Dom p n r) ∧ G.length = n ∧ Full p n G ∧ c' ≤ c + 3 := by
  have lo := hp.lo
  have hi := hp.hi
  obtain ⟨i, a1, c1, h1, i0, i1, k1⟩ := e_draw (a := a) (b := b) (bound := (n : Int)) (c := c) (by omega) (by omega) hc (by omega)
  obtain ⟨j, a2, c2, h2, j0, j1, k2⟩ := e_draw (a := a1) (b := b) (bound := (n : Int)) (c := c1) (by omega) (by omega) hc (by omega)
  obtain ⟨k, a3, c3, h3, q0, q1, k3⟩ := e_draw (a := a2) (b := b) (bound := p) (c := c2) (by omega) (by omega) hc (by omega)
  obtain ⟨i, rfl⟩ : ∃ i' : Nat, i = (i' : Int) := ⟨i.toNat, by omega⟩
  obtain ⟨j, rfl⟩ : ∃ j' : Nat, j = (j' : Int) := ⟨j.toNat, by omega⟩
  have il : i < F.length := by omega
  have jl : j < F.length := by omega
  have gi : F[i]? = some F[i] := List.getElem?_eq_getElem il
  have gj : F[j]? = some F[j] := List.getElem?_eq_getElem jl
  have di := dF _ (List.getElem_mem il)
  have dj := dF _ (List.getElem_mem jl)
  let S (F : List Rw) (x8 x9 : Option D) : SD := tS (mD a3 b cs c3) p n F x4 (some (.int (i : Int))) (some (.int (j : Int))) (some (.int k)) x8 x9
  have t1 : eCall F__law_draw [.ow 0, .sh (eVar 2)] (tS (mD a b cs c) p n F x4 x5 x6 x7 x8 x9) = some (.int (i : Int), tS (mD a1 b cs c1) p n F x4 x5 x6 x7 x8 x9) := v_ow [eVar 2] rfl (v_cons (v_at rfl) rfl) rfl rfl h1
  have t2 : eCall F__law_draw [.ow 0, .sh (eVar 2)] (tS (mD a1 b cs c1) p n F x4 x5 x6 x7 x8 x9) = some (.int (j : Int), tS (mD a2 b cs c2) p n F x4 x5 x6 x7 x8 x9) := v_ow [eVar 2] rfl (v_cons (v_at rfl) rfl) rfl rfl h2
  have t3 : eCall F__law_draw [.ow 0, .sh (eVar 1)] (tS (mD a2 b cs c2) p n F x4 x5 x6 x7 x8 x9) = some (.int k, tS (mD a3 b cs c3) p n F x4 x5 x6 x7 x8 x9) := v_ow [eVar 1] rfl (v_cons (v_at rfl) rfl) rfl rfl h3
  have start : sAs (eTup (aCons (eCall F__law_draw [.ow 0, .sh (eVar 2)]) (aCons (eCall F__law_draw [.ow 0, .sh (eVar 2)]) (aCons (eCall F__law_draw [.ow 0, .sh (eVar 1)]) aNil)))) (gThr 5 6 7) (tS (mD a b cs c) p n F x4 x5 x6 x7 x8 x9) = some (.nx (S F x8 x9)) := v_as (v_tup (v_cons t1 (v_cons t2 (v_cons t3 rfl)))) rfl
  have set_len : ∀ r, (F.set i r).length = n := fun r => by rw [List.length_set, fl]
  have set_dom : ∀ r, Dom p n r → ∀ x ∈ F.set i r, Dom p n x := fun r d x hx => (List.mem_or_eq_of_mem_set hx).elim (dF x) fun e => e ▸ d
  by_cases ne : i = j
  · have ch : eTst (eBin dNe (eVar 5) (eVar 6)) (S F x8 x9) = some (false, S F x8 x9) := v_neF (v_at rfl) (v_at rfl) (by rw [ne])
    by_cases kz : 0 < k
    · have lc : eLc (iS (eBinO dIx 3 (eVar 5))) (gNm 13) tYs (eBin dMod (eCall1 cInt (eBin dMul (eVar 7) (eVar 13))) (eVar 1)) [13] (S F x8 x9) = some (rowL (mulL p k F[i]), S F x8 x9) := by
        have := v_lcB (s := S F x8 x9) (s1 := S F x8 x9) (i := 13) (fi := iS (eBinO dIx 3 (eVar 5))) (fe := eBin dMod (eCall1 cInt (eBin dMul (eVar 7) (eVar 13))) (eVar 1)) (φ := PyData.int) (ψ := fun x => PyData.int ((k * x) % p)) (xs := F[i]) (v_S (v_binO rfl (v_at rfl) rfl (ix_nat (by rw [List.getElem?_map, gi]; rfl)))) (by show 13 < 14; decide) fun x hx => v_bin (v_c1 (v_bin (v_at rfl) (v_at rfl) (dMul_l (by omega))) rfl) (v_at rfl) (dMod_p (by omega))
        rw [this]
        show _ = some (PyData.list ((F[i].map fun x => (k * x) % p).map .int), _)
        rw [List.map_map]
        rfl
      refine ⟨F.set i (mulL p k F[i]), a3, c3, some (.int (i : Int)), some (.int (j : Int)), some (.int k), x8, x9, (v_nx start).trans (v_sifF (s1 := S F x8 x9) ch (v_sifT (s1 := S F x8 x9) (v_tst (v_bin (v_at rfl) rfl (by rw [dGt_i, decide_eq_true kz]))) ((v_st (n := i) (i := (i : Int)) (s1 := S F x8 x9) (s2 := S F x8 x9) (l := F.map rowL) (l2 := F.map rowL) (v_F lc) rfl (v_at rfl) rfl (ixN_nat (by rw [List.length_map]; exact il))).trans ?_))), set_dom _ (mulL_dom (by omega) di), set_len _, full_mul lo hp.inv gi kz q1 U, by omega⟩
      rw [map_set_row]
      rfl
    · exact ⟨F, a3, c3, some (.int (i : Int)), some (.int (j : Int)), some (.int k), x8, x9, (v_nx start).trans (v_sifF (s1 := S F x8 x9) ch (v_sifF (s1 := S F x8 x9) (v_tst (v_bin (v_at rfl) rfl (by rw [dGt_i, decide_eq_false kz]))) rfl)), dF, fl, U, by omega⟩
  · have ch : eTst (eBin dNe (eVar 5) (eVar 6)) (S F x8 x9) = some (true, S F x8 x9) := v_ne (v_at rfl) (v_at rfl) (fun z => ne (by omega))
    have lc : eLc (iR1 (eVar 2)) (gNm 12) tYs (eBin dMod (eCall1 cInt (eBin dPlus (eBin dIx (eVar 8) (eVar 12)) (eBin dMul (eVar 7) (eBin dIx (eVar 9) (eVar 12))))) (eVar 1)) [12] (S F (some (rowL F[i])) (some (rowL F[j]))) = some (rowL (addL p k F[i] F[j]), S F (some (rowL F[i])) (some (rowL F[j]))) := by
      have := v_lcB (s := S F (some (rowL F[i])) (some (rowL F[j]))) (s1 := S F (some (rowL F[i])) (some (rowL F[j]))) (i := 12) (fi := iR1 (eVar 2)) (fe := eBin dMod (eCall1 cInt (eBin dPlus (eBin dIx (eVar 8) (eVar 12)) (eBin dMul (eVar 7) (eBin dIx (eVar 9) (eVar 12))))) (eVar 1)) (φ := fun i : Nat => PyData.int ((i : Nat) : Int)) (ψ := fun t : Nat => PyData.int (e0 (addL p k F[i] F[j]) t)) (xs := List.range n) (rg_nat (v_at rfl) (by omega)) (by show 12 < 14; decide) fun t ht => by
        have ht := List.mem_range.mp ht
        rw [addL_at (by rw [di.len, dj.len])]
        exact v_bin (v_c1 (v_bin (v_bin (v_at rfl) (v_at rfl) (e0_ixL (by rw [di.len]; exact ht))) (v_bin (v_at rfl) (v_bin (v_at rfl) (v_at rfl) (e0_ixL (by rw [dj.len]; exact ht))) (dMul_l (by omega))) rfl) rfl) (v_at rfl) (dMod_p (by omega))
      rw [this, rg_row (addL_dom (k := k) (by omega) di dj).len]
    have two : sAs (eTup (aCons (eBinO dIx 3 (eVar 5)) (aCons (eBinO dIx 3 (eVar 6)) aNil))) (gTp (gsCons (gNm 8) (gsCons (gNm 9) gsNil))) (S F x8 x9) = some (.nx (S F (some (rowL F[i])) (some (rowL F[j])))) :=
      v_as (v_tup (v_cons (v_binO rfl (v_at rfl) rfl (ix_nat (by rw [List.getElem?_map, gi]; rfl))) (v_cons (v_binO rfl (v_at rfl) rfl (ix_nat (by rw [List.getElem?_map, gj]; rfl))) rfl))) rfl
    refine ⟨F.set i (addL p k F[i] F[j]), a3, c3, some (.int (i : Int)), some (.int (j : Int)), some (.int k), some (rowL F[i]), some (rowL F[j]), (v_nx start).trans (v_sifT (s1 := S F x8 x9) ch ((v_nx two).trans ((v_st (n := i) (i := (i : Int)) (s1 := S F (some (rowL F[i])) (some (rowL F[j]))) (s2 := S F (some (rowL F[i])) (some (rowL F[j]))) (l := F.map rowL) (l2 := F.map rowL) (v_F lc) rfl (v_at rfl) rfl (ixN_nat (by rw [List.length_map]; exact il))).trans ?_))), set_dom _ (addL_dom (by omega) di dj), set_len _, full_add (by omega) dF gi gj ne U, by omega⟩
    rw [map_set_row]
    rfl
theorem e_steps {a b p : Int} {cs : List Int} {c n : Nat} (hp : Pr p) (hc : cs ≠ []) (hn : n ≤ 50) (hs : c < 10000000) : ∃ F a' c', RetM F__law_steps (mD a b cs c) [.int p, .int (n : Int)] (tabD F) (mD a' b cs c') ∧ (∀ r ∈ F, Dom p n r) ∧ F.length = n ∧ Full p n F ∧ c' ≤ c + 1000 := by
  have lo := hp.lo
  obtain ⟨s', e1, F, a', c', x4, x5, x6, x7, x8, x9, e2, dF, fl, U, hc'⟩ := v_for (items := (List.range (3 * n)).map fun i : Nat => PyData.int ((i : Nat) : Int)) (fi := iR1 (eBin dMul (eC (.int 3)) (eVar 2))) (h := gNm 4) (fb := stepB)
    (s := tS (mD a b cs c) p n (stillL n) none none none none none none) (s1 := tS (mD a b cs c) p n (stillL n) none none none none none none)
    (fun j s => ∃ (F : List Rw) (a' : Int) (c' : Nat) (x4 x5 x6 x7 x8 x9 : Option D), s = tS (mD a' b cs c') p n F x4 x5 x6 x7 x8 x9 ∧ (∀ r ∈ F, Dom p n r) ∧ F.length = n ∧ Full p n F ∧ c' ≤ c + 3 * j)
    (rg_nat (v_bin rfl (v_at rfl) ((dMul_l (a := 3) (b := (n : Int)) (by decide)).trans (by congr 2))) (by omega))
    ⟨stillL n, a, c, none, none, none, none, none, none, rfl, fun r hr => by
      obtain ⟨k, hk, e⟩ := List.mem_iff_getElem.mp hr
      rw [stillL_len] at hk
      have := stillL_get hk
      rw [List.getElem?_eq_getElem (by rw [stillL_len]; exact hk), e] at this
      cases this
      exact unitL_dom lo, stillL_len, full_still lo, by omega⟩ (fun j d s hj ⟨F, a', c', x4, x5, x6, x7, x8, x9, es, dF, fl, U, hc'⟩ => by
      subst es
      have jn : j < 3 * n := by
        obtain ⟨z, _⟩ := List.getElem?_eq_some_iff.mp hj
        rw [List.length_map, List.length_range] at z
        exact z
      obtain ⟨G, a2, c2, y5, y6, y7, y8, y9, st, dG, gl, UG, hc2⟩ := e_step (a := a') (b := b) (c := c') (x4 := some d) (x5 := x5) (x6 := x6) (x7 := x7) (x8 := x8) (x9 := x9) hp hc hn (by omega) (by omega) dF fl U
      exact ⟨_, _, _, rfl, st, .inl rfl, G, a2, c2, _, _, _, _, _, _, rfl, dG, gl, UG, by omega⟩)
  rw [List.length_map, List.length_range] at hc'
  obtain ⟨O, a2, c2, h, o1, o2, ol, hc2⟩ := e_shuffled (a := a') (b := b) (c := c') (n := n) hc hn (by omega)
  let G : List Rw := O.map fun x => rowAt F x
  have mG : ∀ r ∈ G, r ∈ F := fun r hr => by
    obtain ⟨x, hx, rfl⟩ := List.mem_map.mp hr
    exact List.mem_of_getElem? (rowAt_at (by rw [fl]; exact o1 x hx))
  have mF : ∀ r ∈ F, r ∈ G := fun r hr => by
    obtain ⟨x, hx, e⟩ := List.mem_iff_getElem.mp hr
    refine List.mem_map.mpr ⟨x, o2 x (by omega), ?_⟩
    rw [rowAt_get (List.getElem?_eq_getElem hx), e]
  refine ⟨G, a2, c2, runF_m (ys := [some (.int p), some (.int (n : Int)), some (.list (F.map rowL)), x4, x5, x6, x7, x8, x9, some (.tuple (O.map natD)), none, none, none]) ?_ (by simp), fun r hr => dF r (mG r hr), by rw [List.length_map]; exact ol, full_perm U mF, by omega⟩
  show g__law_steps [some (mD a b cs c), some (.int p), some (.int (n : Int)), none, none, none, none, none, none, none, none, none, none, none] = _
  unfold g__law_steps
  have lc := v_lcB (s := [some (mD a b cs c), some (.int p), some (.int (n : Int)), none, none, none, none, none, none, none, none, none, none, none]) (s1 := [some (mD a b cs c), some (.int p), some (.int (n : Int)), none, none, none, none, none, none, none, none, none, none, none]) (i := 11) (fi := iS (eCall F__law_unit [.sh (eVar 2)])) (fe := eF (eCall1 cList (eVar 11))) (φ := rowD) (ψ := rowL) (xs := stillL n) (v_St (v_call [eVar 2] (v_cons (v_at rfl) rfl) rfl (e_lunit (by omega)))) (by simp) (fun r _ => v_F (v_c1 (v_at rfl) rfl))
  refine (v_nx (v_setO lc (by simp))).trans ?_
  refine (v_nx e1).trans ?_
  rw [e2]
  refine (v_nx (v_set (d := .tuple (O.map natD)) (s1 := tS (mD a2 b cs c2) p n F x4 x5 x6 x7 x8 x9) (v_ow [eVar 2] rfl (v_cons (v_at rfl) rfl) rfl rfl h))).trans ?_
  have fin := v_lcB (s := [some (mD a2 b cs c2), some (.int p), some (.int (n : Int)), some (.list (F.map rowL)), x4, x5, x6, x7, x8, x9, some (.tuple (O.map natD)), none, none, none]) (s1 := [some (mD a2 b cs c2), some (.int p), some (.int (n : Int)), some (.list (F.map rowL)), x4, x5, x6, x7, x8, x9, some (.tuple (O.map natD)), none, none, none]) (i := 12) (fi := iS (eVar 10)) (fe := eCall1 cTup (eBinO dIx 3 (eVar 12))) (φ := natD) (ψ := fun x => rowD (rowAt F x)) (xs := O) (v_St (v_at rfl)) (by simp) (fun x hx => v_c1 (c := rowD (rowAt F x)) (v_binO (a := .list (F.map rowL)) (c := rowL (rowAt F x)) rfl (v_at rfl) rfl (ix_nat (by rw [List.getElem?_map, rowAt_at (by rw [fl]; exact o1 x hx)]; rfl))) rfl)
  refine v_rt (v_c1 (v_F fin) ?_)
  show some (PyData.tuple _) = some (PyData.tuple ((O.map fun x => rowAt F x).map rowD))
  rw [List.map_map]
  rfl
end Pf
set_option linter.all false
set_option maxRecDepth 100000
namespace Pf
open PySem PySem.Spec L2 Mi Ma
variable {s s1 s2 : SD} {f g : FE}
theorem cut_from {xs : List D} {k : Nat} (h : k ≤ xs.length) : cutD xs (some (k : Int)) none = xs.drop k := by
  unfold cutD
  rw [HT.sIx_none, show HT.sIx xs.length 0 (some (k : Int)) = min k xs.length from HT.sIx_nat xs.length 0 k]
  rw [Nat.min_eq_left h, List.take_of_length_le (by rw [List.length_drop]; omega)]
theorem eqv_intsD : ∀ a b : List Int, PyData.eqvAll (a.map .int) (b.map .int) = decide (a = b)
  | [], [] => rfl
  | [], _ :: _ => by simp [PyData.eqvAll]
  | _ :: _, [] => by simp [PyData.eqvAll]
  | x :: a, y :: b => by
    simp only [List.map_cons, PyData.eqvAll, PyData.eqv, eqv_intsD a b, List.cons.injEq]
    by_cases h : x = y
    · simp [h]
    · simp [h]
theorem eqv_rowsD : ∀ A B : List Rw, PyData.eqvAll (A.map rowD) (B.map rowD) = decide (A = B)
  | [], [] => rfl
  | [], _ :: _ => by simp [PyData.eqvAll]
  | _ :: _, [] => by simp [PyData.eqvAll]
  | x :: A, y :: B => by
    have h1 : PyData.eqv (rowD x) (rowD y) = decide (x = y) := by
      show PyData.eqv (.tuple _) (.tuple _) = _
      simp only [PyData.eqv]
      exact eqv_intsD x y
    simp only [List.map_cons, PyData.eqvAll, h1, eqv_rowsD A B, List.cons.injEq]
    by_cases h : x = y
    · simp [h]
    · simp [h]
theorem tab_shaped {p : Int} {n : Nat} {B : List Rw} (hp : Pr p) (d : ∀ r ∈ B, Dom p n r) (hn : n ≤ 50) (hb : B.length ≤ 50) : SeqAt.shaped (tabD B) = true := by
  have h := nice_tab hp d hn hb
  unfold SeqAt.shaped
  rw [h.lay, decide_eq_true (Nat.le_trans h.dep (by decide))]
  rfl
theorem ne_tabs {p : Int} {n : Nat} {A B : List Rw} (hp : Pr p) (dA : ∀ r ∈ A, Dom p n r) (dB : ∀ r ∈ B, Dom p n r) (hn : n ≤ 50) (ha : A.length ≤ 50) (hb : B.length ≤ 50) : dNe (tabD A) (tabD B) = some (.bool (!decide (A = B))) := by
  unfold dNe
  rw [tab_shaped hp dA hn ha, tab_shaped hp dB hn hb, if_pos (by rfl)]
  have : PyData.eqv (tabD A) (tabD B) = decide (A = B) := by
    show PyData.eqv (.tuple _) (.tuple _) = _
    simp only [PyData.eqv]
    exact eqv_rowsD A B
  rw [this]
theorem enD_ps : ∀ (T : List Rw) (k : Nat), enD k (T.map rowD) = ((T.zipIdx k).map fun q => (natD q.2, rowD q.1)).map fun p => prD p.1 p.2
  | [], _ => rfl
  | r :: T, k => by
    rw [List.zipIdx_cons, List.map_cons, List.map_cons, List.map_cons, ← enD_ps T (k + 1)]
    rfl
theorem still_dom {p : Int} (hp : 1 < p) {n : Nat} : ∀ r ∈ stillL n, Dom p n r := fun r hr => by
  unfold stillL at hr
  obtain ⟨k, _, rfl⟩ := List.mem_map.mp hr
  exact unitL_dom hp
abbrev bS (p : Int) (T : List Rw) (n : Nat) (x3 x4 : Option D) : SD := [some (.int p), some (tabD T), some (.int (n : Int)), x3, x4, none, none]
theorem len_tab (T : List Rw) : cLen (tabD T) = some (.int (T.length : Int)) := by
  show some (PyData.int ((T.map rowD).length : Int)) = _
  rw [List.length_map]
theorem len_row (r : Rw) : cLen (rowD r) = some (.int (r.length : Int)) := by
  show some (PyData.int ((r.map PyData.int).length : Int)) = _
  rw [List.length_map]
theorem tru_nat (n : Nat) : truD (.int (n : Int)) = some (!((n : Int) == 0)) := rfl
/-- not square -/
theorem e_turned_not {p : Int} {n k : Nat} {T : List Rw} (dT : ∀ r ∈ T, Dom p n r) (ht : T.length = k) (h0 : 0 < k) (ne : n ≠ k) : Ret F_turned_back [.int p, tabD T] .none := by
  refine runF_rt (s := bS p T T.length none none) ?_ (by simp)
  show g_turned_back [some (.int p), some (tabD T), none, none, none, none, none] = _
  unfold g_turned_back
  have g0 : T[0]? = some (T[0]'(by omega)) := List.getElem?_eq_getElem (by omega)
  have d0 := dT _ (List.mem_of_getElem? g0)
  refine (v_nx (v_set (v_c1 (v_at rfl) (len_tab T)))).trans ?_
  refine v_end (o := .rt .none (bS p T T.length none none)) (v_sifT (s1 := bS p T T.length none none) (v_anT (s1 := bS p T T.length none none) (v_tru (v_at rfl) ((tru_nat _).trans (by
    congr 1
    have : ((T.length : Int) == 0) = false := beq_eq_false_iff_ne.mpr (by omega)
    rw [this]
    rfl))) (v_ne (v_c1 (v_bin (v_at rfl) rfl (ixT_nat (j := 0) (by rw [List.getElem?_map, g0]; rfl))) (len_row _)) (v_at rfl) (by rw [d0.len]; omega))) rfl) (fun s' z => nomatch z)
theorem e_turned {p : Int} {n : Nat} {T : List Rw} (hp : Pr p) (dT : ∀ r ∈ T, Dom p n r) (ht : T.length = n) (hn : n ≤ 20) :
    ∃ R L, RL p (2 * n) R L ∧ Ma.Same p (wide2 n T) R ∧ ((R.map (List.take n) = stillL n ∧ Ret F_turned_back [.int p, tabD T] (tabD (R.map (List.drop n)))) ∨ (R.map (List.take n) ≠ stillL n ∧ Ret F_turned_back [.int p, tabD T] .none)) := by
  have lo := hp.lo
  obtain ⟨R, L, rR, E, sR⟩ := e_reduced hp (wide2_dom lo dT) (n := 2 * n) (by omega) (by rw [wide2_len]; omega)
  refine ⟨R, L, E, sR, ?_⟩
  have few := E.few
  have dR : ∀ r ∈ R, r.length = 2 * n := fun r hr => (E.dom r hr).len
  have dTk : ∀ r ∈ R.map (List.take n), Dom p n r := fun r hr => by
    obtain ⟨q, hq, rfl⟩ := List.mem_map.mp hr
    exact ⟨by rw [List.length_take, dR q hq]; omega, fun x hx => (E.dom q hq).2 x (List.mem_of_mem_take hx)⟩
  have start : ∀ o, (sCons (sAs (eCall F_reduced [.sh (eVar 0), .sh (eVar 3), .sh (eBin dMul (eC (.int 2)) (eVar 2))]) (gNm 4))
    (sCons (sIf (eTst (eBin dNe (eCall1 cTup (eF (eLc (iS (eVar 4)) (gNm 6) tYs (eSl (eVar 6) oNo (oIn (eVar 2))) [6]))) (eCall F_still_table [.sh (eVar 2)]))) (sRt (eC .none)) sNil)
    (sRt (eCall1 cTup (eF (eLc (iS (eVar 4)) (gNm 6) tYs (eSl (eVar 6) (oIn (eVar 2)) oNo) [6])))))) (bS p T n (some (tabD (wide2 n T))) none) = o → g_turned_back [some (.int p), some (tabD T), none, none, none, none, none] = o := fun o ho => by
    unfold g_turned_back
    refine (v_nx (v_set (v_c1 (v_at rfl) ((len_tab T).trans (by rw [ht]))))).trans ?_
    have sq : sIf (tAn (eTru (eVar 2)) (eTst (eBin dNe (eCall1 cLen (eBin dIx (eVar 1) (eC (.int 0)))) (eVar 2)))) (sRt (eC .none)) sNil (bS p T n none none) = some (.nx (bS p T n none none)) := by
      by_cases z : n = 0
      · refine v_sifF (s1 := bS p T n none none) (v_anF (v_tru (v_at rfl) ((tru_nat _).trans ?_))) rfl
        rw [z]
        rfl
      · have g0 : T[0]? = some (T[0]'(by omega)) := List.getElem?_eq_getElem (by omega)
        have d0 := dT _ (List.mem_of_getElem? g0)
        refine v_sifF (s1 := bS p T n none none) (v_anT (s1 := bS p T n none none) (v_tru (v_at rfl) ((tru_nat _).trans (by
          congr 1
          have : ((n : Int) == 0) = false := beq_eq_false_iff_ne.mpr (by omega)
          rw [this]
          rfl))) (v_neF (v_c1 (v_bin (v_at rfl) rfl (ixT_nat (j := 0) (by rw [List.getElem?_map, g0]; rfl))) (len_row _)) (v_at rfl) (by rw [d0.len]))) rfl
    refine (v_nx sq).trans ?_
    have mk := v_lcP (s := bS p T n none none) (s1 := bS p T n none none) (i := 5) (j := 6) (by decide) (fi := iEnT (eVar 1)) (fe := eBin dPlus (eVar 6) (eCall F_unit [.sh (eVar 2), .sh (eVar 5)]))
      (g := fun x y => match x, y with | .int i, .tuple l => .tuple (l ++ (unitL n i.toNat).map .int) | _, _ => .none) (ps := (T.zipIdx 0).map fun q => (natD q.2, rowD q.1)) (by
        rw [← enD_ps]
        rfl) (by simp) (by simp) (fun q hq => by
        obtain ⟨⟨r, i⟩, hz, rfl⟩ := List.mem_map.mp hq
        have gi : T[i]? = some r := List.mem_zipIdx_iff_getElem?.mp hz
        have il : i < n := by obtain ⟨z, _⟩ := List.getElem?_eq_some_iff.mp gi; omega
        have dr := dT r (List.mem_of_getElem? gi)
        refine v_bin (v_at rfl) (v_call [eVar 2, eVar 5] (v_cons (v_at rfl) (v_cons (v_at rfl) rfl)) rfl (e_unit il (by omega))) ?_
        rw [cat_rows (by rw [dr.len, unitL_len]; omega)]
        show some (PyData.tuple ((r ++ unitL n i).map .int)) = some (PyData.tuple (r.map .int ++ (unitL n (i : Int).toNat).map .int))
        rw [List.map_append, Int.toNat_natCast])
    have wide : ((T.zipIdx 0).map fun q => (natD q.2, rowD q.1)).map (fun q : D × D => (match q.1, q.2 with | .int i, .tuple l => PyData.tuple (l ++ (unitL n i.toNat).map .int) | _, _ => .none)) = (wide2 n T).map rowD := by
      unfold wide2
      rw [List.mapIdx_eq_zipIdx_map, List.map_map, List.map_map]
      apply List.map_congr_left
      intro q _
      show PyData.tuple (q.1.map .int ++ (unitL n (q.2 : Int).toNat).map .int) = .tuple ((q.1 ++ unitL n q.2).map .int)
      rw [List.map_append, Int.toNat_natCast]
    rw [wide] at mk
    refine (v_nx (v_set (i := 3) (d := tabD (wide2 n T)) (s1 := bS p T n none none) (v_c1 (op := cTup) (v_F mk) rfl))).trans ?_
    exact ho
  have rd : eCall F_reduced [.sh (eVar 0), .sh (eVar 3), .sh (eBin dMul (eC (.int 2)) (eVar 2))] (bS p T n (some (tabD (wide2 n T))) none) = some (tabD R, bS p T n (some (tabD (wide2 n T))) none) := v_call [eVar 0, eVar 3, eBin dMul (eC (.int 2)) (eVar 2)] (ds := [.int p, tabD (wide2 n T), .int ((2 * n : Nat) : Int)]) (v_cons (v_at rfl) (v_cons (v_at rfl) (v_cons (v_bin rfl (v_at rfl) ((dMul_l (a := 2) (b := (n : Int)) (by decide)).trans (by congr 2))) rfl))) rfl rR
  let S : SD := bS p T n (some (tabD (wide2 n T))) (some (tabD R))
  have tk : eCall1 cTup (eF (eLc (iS (eVar 4)) (gNm 6) tYs (eSl (eVar 6) oNo (oIn (eVar 2))) [6])) S = some (tabD (R.map (List.take n)), S) := by
    refine v_c1 (v_F (v_lcB (s1 := S) (φ := rowD) (ψ := fun r => rowD (r.take n)) (xs := R) (v_St (v_at rfl)) (by show 6 < 7; decide) fun r hr => ?_)) ?_
    · refine (v_slT (v_at rfl) rfl (v_in (v_at rfl))).trans ?_
      rw [cut_to (by rw [List.length_map, dR r hr]; omega), ← List.map_take]
    · show some (PyData.tuple _) = some (PyData.tuple ((R.map (List.take n)).map rowD))
      rw [List.map_map]
      rfl
  have dp : eCall1 cTup (eF (eLc (iS (eVar 4)) (gNm 6) tYs (eSl (eVar 6) (oIn (eVar 2)) oNo) [6])) S = some (tabD (R.map (List.drop n)), S) := by
    refine v_c1 (v_F (v_lcB (s1 := S) (φ := rowD) (ψ := fun r => rowD (r.drop n)) (xs := R) (v_St (v_at rfl)) (by show 6 < 7; decide) fun r hr => ?_)) ?_
    · refine (v_slT (v_at rfl) (v_in (v_at rfl)) rfl).trans ?_
      rw [cut_from (by rw [List.length_map, dR r hr]; omega), ← List.map_drop]
    · show some (PyData.tuple _) = some (PyData.tuple ((R.map (List.drop n)).map rowD))
      rw [List.map_map]
      rfl
  have st : eCall F_still_table [.sh (eVar 2)] S = some (tabD (stillL n), S) := v_call [eVar 2] (v_cons (v_at rfl) rfl) rfl (e_still (by omega))
  have ne := ne_tabs hp dTk (still_dom lo (n := n)) (by omega) (by rw [List.length_map]; omega) (by rw [stillL_len]; omega)
  by_cases h : R.map (List.take n) = stillL n
  · rw [decide_eq_true h] at ne
    refine .inl ⟨h, runF_rt (s := S) (start _ ?_) (by show 2 ≤ 7; decide)⟩
    refine (v_nx (v_set rd)).trans ?_
    refine (v_nx (v_sifF (s1 := S) (v_tst (v_bin tk st ne)) rfl)).trans ?_
    exact v_rt dp
  · rw [decide_eq_false h] at ne
    refine .inr ⟨h, runF_rt (s := S) (start _ ?_) (by show 2 ≤ 7; decide)⟩
    refine (v_nx (v_set rd)).trans ?_
    exact v_end (o := .rt .none S) (v_sifT (s1 := S) (v_tst (v_bin tk st ne)) rfl) (fun s' z => nomatch z)
end Pf
set_option linter.all false
set_option maxRecDepth 100000
namespace Pf
open PySem PySem.Spec L2 Mi Ma
variable {s s1 s2 : SD} {f g : FE}
theorem mod_of {p x y : Int} (h : p ∣ x - y) (h0 : 0 ≤ y) (h1 : y < p) : x % p = y := by
  have e := Int.emod_emod_of_dvd x (Int.dvd_refl p)
  have : (x - y) % p = 0 := Int.emod_eq_zero_of_dvd h
  have := (Int.emod_eq_emod_iff_emod_sub_eq_zero).mpr this
  rw [this, Int.emod_eq_of_lt h0 h1]
theorem beh_still {p : Int} {n : Nat} {A B : List Rw} (lo : 1 < p) (hA : A.length = n) (hB : B.length = n) (h : ∀ i j, i < n → j < n → p ∣ sumN (fun k => e0 (rowAt B i) k * e0 (rowAt A k) j) n - (if j = i then 1 else 0)) : behL p n A B = stillL n := by
  subst hA
  unfold behL stillL
  apply List.ext_getElem (by simp [hB])
  intro i h1 h2
  have il : i < A.length := by simpa using h2
  rw [List.getElem_map, List.getElem_map, List.getElem_range]
  unfold unitL
  apply List.map_congr_left
  intro j hj
  have hj := List.mem_range.mp hj
  have ib : i < B.length := by omega
  have r : B[i] = rowAt B i := (rowAt_get (List.getElem?_eq_getElem (by omega))).symm
  rw [r]
  exact mod_of (h i j il hj) (by split <;> omega) (by split <;> omega)
theorem v_rep2 {x : D} (h : f s = some (.list [x], s1)) : eRepL f (eC (.int 2)) s = some (.list [x, x], s1) := by
  unfold eRepL
  rw [h]
  rfl
theorem dNe_b (x y : Bool) : dNe (.bool x) (.bool y) = some (.bool (!(x == y))) := by cases x <;> cases y <;> rfl
theorem isN_tab (T : List Rw) : dIsN false (tabD T) .none = some (.bool false) := rfl
theorem notN_tab (T : List Rw) : dIsN true (tabD T) .none = some (.bool true) := rfl
theorem v_anV {g : FE} {d : D} (h : f s = some (.bool true, s1)) (h2 : g s1 = some (d, s2)) : eAnV f g s = some (d, s2) := by
  unfold eAnV
  rw [v_tst h]
  exact h2
theorem dom_drop {p : Int} {n : Nat} {R : List Rw} (h : ∀ r ∈ R, Dom p (2 * n) r) : ∀ r ∈ R.map (List.drop n), Dom p n r := fun r hr => by
  obtain ⟨q, hq, rfl⟩ := List.mem_map.mp hr
  have d := h q hq
  exact ⟨by rw [List.length_drop, d.len]; omega, fun x hx => d.2 x (List.mem_of_mem_drop hx)⟩
theorem like_tab {p : Int} {n : Nat} {B : List Rw} (hp : Pr p) (d : ∀ r ∈ B, Dom p n r) (hn : n ≤ 50) (hb : B.length ≤ 50) : Ret F__law_like [tabD B, tabD B] (.bool true) :=
  have e : cRepr (tabD B) = some (.str (tabD B).shown) := repr_t (nice_tab hp d hn hb) (by decide) (by decide)
  e_like e
theorem like_two {p : Int} {n : Nat} {B : List Rw} (hp : Pr p) (d : ∀ r ∈ B, Dom p n r) (hn : n ≤ 50) (hb : B.length ≤ 50) : Ret F__law_like [.list [tabD B, tabD B], .list [tabD B, tabD B]] (.bool true) := by
  have nb := nice_tab hp d hn hb
  have r : cRepr (.list [tabD B, tabD B]) = some (.str (PyData.list [tabD B, tabD B]).shown) := repr_l (nice_lst (k := 2) (w := 12550) fun e he => by
      simp only [List.mem_cons, List.not_mem_nil, or_false, or_self] at he
      subst he
      exact nb) (by decide) (by show 2 * 12551 ≤ 1000000; decide)
  exact e_like r
theorem e_back_right {a b : Int} {cs : List Int} {c : Nat} (hc : cs ≠ []) (hs : c < 1000000) : ∃ a' c', RetM F__law_back_right (mD a b cs c) [] (.bool true) (mD a' b cs c') ∧ c' ≤ c + 10000 := by
  obtain ⟨p, a1, c1, h1, hp, k1⟩ := e_prime (a := a) (b := b) (c := c) hc (by omega)
  have lo := hp.lo
  obtain ⟨v, a2, c2, h2, v0, v1, k2⟩ := e_draw (a := a1) (b := b) (bound := 9) (c := c1) (by decide) (by decide) hc (by omega)
  obtain ⟨n, rfl⟩ : ∃ n : Nat, v = (n : Int) := ⟨v.toNat, by omega⟩
  have hn : n ≤ 8 := by omega
  obtain ⟨T, a3, c3, h3, dT, tl, U, k3⟩ := e_steps (p := p) (a := a2) (b := b) (c := c2) (n := n) hp hc (by omega) (by omega)
  obtain ⟨R, L, E, sR, turn⟩ := e_turned hp dT tl (by omega)
  have tkR := full_take lo hp.inv dT tl U E sR
  have hB : Ret F_turned_back [.int p, tabD T] (tabD (R.map (List.drop n))) := by
    rcases turn with ⟨_, r⟩ | ⟨z, _⟩
    · exact r
    · exact absurd tkR z
  obtain ⟨lR, inv1, inv2, _⟩ := take_inv lo dT tl E sR tkR
  have dB := dom_drop E.dom
  have bl : (R.map (List.drop n)).length = n := by rw [List.length_map, lR]
  have be1 := e_behind hp dT dB tl (by omega) (by omega) (by omega)
  rw [beh_still lo tl bl inv1] at be1
  have be2 := e_behind hp dB dT bl (by omega) (by omega) (by omega)
  rw [beh_still lo bl tl inv2] at be2
  have dS := still_dom lo (n := n)
  have sl := stillL_len (n := n)
  obtain ⟨G, a4, c4, h4, dG, gl, k4⟩ := e_table (p := p) (a := a3) (b := b) (c := c3) (n := n) (k := n) hp hc (by omega) (by omega) (by omega)
  obtain ⟨R2, L2, E2, sR2, turn2⟩ := e_turned hp dG gl (by omega)
  obtain ⟨Q, LQ, rQ, EQ, sQ⟩ := e_rank hp dG (n := n) (by omega) (by omega)
  have fewQ := EQ.few
  have fr := full_rank lo EQ sQ
  obtain ⟨H, a5, c5, h5, dH, hl, k5⟩ := e_table (p := p) (a := a4) (b := b) (c := c4) (n := n) (k := 1 + n) hp hc (by omega) (by omega) (by omega)
  obtain ⟨J, a6, c6, h6, dJ, jl, k6⟩ := e_table (p := p) (a := a5) (b := b) (c := c5) (n := 2 + n) (k := 1 + n) hp hc (by omega) (by omega) (by omega)
  have tH := e_turned_not (p := p) dH hl (by omega) (by omega)
  have tJ := e_turned_not (p := p) dJ jl (by omega) (by omega)
  let S (m : D) (x3 x4 x5 x6 : Option D) : SD := [some m, some (.int p), some (.int (n : Int)), x3, x4, x5, x6]
  let Bd : D := tabD (R.map (List.drop n))
  let SS : D := .list [tabD (stillL n), tabD (stillL n)]
  -- what is done after told
  have last : ∀ told : D, eAnV (eBin (dIsN false) (eCall F_turned_back [.sh (eVar 1), .sh (eCall F__law_table [.ow 0, .sh (eVar 1), .sh (eBin dPlus (eC (.int 1)) (eVar 2)), .sh (eVar 2)])]) (eC .none)) (eBin (dIsN false) (eCall F_turned_back [.sh (eVar 1), .sh (eCall F__law_table [.ow 0, .sh (eVar 1), .sh (eBin dPlus (eC (.int 1)) (eVar 2)), .sh (eBin dPlus (eC (.int 2)) (eVar 2))])]) (eC .none)) (S (mD a4 b cs c4) (some (tabD G)) (some Bd) (some SS) (some told)) = some (.bool true, S (mD a6 b cs c6) (some (tabD G)) (some Bd) (some SS) (some told)) := fun told => by
    have e1 : ((1 + n : Nat) : Int) = 1 + (n : Int) := by omega
    have e2 : ((2 + n : Nat) : Int) = 2 + (n : Int) := by omega
    rw [e1] at h5 h6
    rw [e2] at h6
    have q5 : eCall F__law_table [.ow 0, .sh (eVar 1), .sh (eBin dPlus (eC (.int 1)) (eVar 2)), .sh (eVar 2)] (S (mD a4 b cs c4) (some (tabD G)) (some Bd) (some SS) (some told)) = some (tabD H, S (mD a5 b cs c5) (some (tabD G)) (some Bd) (some SS) (some told)) := v_ow [eVar 1, eBin dPlus (eC (.int 1)) (eVar 2), eVar 2] rfl (v_cons (v_at rfl) (v_cons (v_bin rfl (v_at rfl) rfl) (v_cons (v_at rfl) rfl))) rfl rfl h5
    have q6 : eCall F__law_table [.ow 0, .sh (eVar 1), .sh (eBin dPlus (eC (.int 1)) (eVar 2)), .sh (eBin dPlus (eC (.int 2)) (eVar 2))] (S (mD a5 b cs c5) (some (tabD G)) (some Bd) (some SS) (some told)) = some (tabD J, S (mD a6 b cs c6) (some (tabD G)) (some Bd) (some SS) (some told)) := v_ow [eVar 1, eBin dPlus (eC (.int 1)) (eVar 2), eBin dPlus (eC (.int 2)) (eVar 2)] rfl (v_cons (v_at rfl) (v_cons (v_bin rfl (v_at rfl) rfl) (v_cons (v_bin rfl (v_at rfl) rfl) rfl))) rfl rfl h6
    exact v_anV (v_bin (v_call [eVar 1, eCall F__law_table [.ow 0, .sh (eVar 1), .sh (eBin dPlus (eC (.int 1)) (eVar 2)), .sh (eVar 2)]] (v_cons (v_at rfl) (v_cons q5 rfl)) rfl tH) rfl rfl) (v_bin (v_call [eVar 1, eCall F__law_table [.ow 0, .sh (eVar 1), .sh (eBin dPlus (eC (.int 1)) (eVar 2)), .sh (eBin dPlus (eC (.int 2)) (eVar 2))]] (v_cons (v_at rfl) (v_cons q6 rfl)) rfl tJ) rfl rfl)
  have rank : ∀ told : D, eCall F__law_rank [.sh (eVar 1), .sh (eVar 3), .sh (eVar 2)] (S (mD a4 b cs c4) (some (tabD G)) (some Bd) (some SS) (some told)) = some (.int (Q.length : Int), S (mD a4 b cs c4) (some (tabD G)) (some Bd) (some SS) (some told)) := fun told => v_call [eVar 1, eVar 3, eVar 2] (v_cons (v_at rfl) (v_cons (v_at rfl) (v_cons (v_at rfl) rfl))) rfl rQ
  -- told, in both cases
  have tail : ∃ told : D, Ret F_turned_back [.int p, tabD G] told ∧ (sCons (sIf (eTst (eBin dNe (eBin (dIsN false) (eVar 6) (eC .none)) (eBin dLt (eCall F__law_rank [.sh (eVar 1), .sh (eVar 3), .sh (eVar 2)]) (eVar 2)))) (sRt (eC (.bool false))) sNil)
    (sCons (sIf (tAn (eTst (eBin (dIsN true) (eVar 6) (eC .none))) (tNt (eTru (eCall F__law_like [.sh (eCall F__law_behind [.sh (eVar 1), .sh (eVar 3), .sh (eVar 6), .sh (eVar 2)]), .sh (eCall F__law_unit [.sh (eVar 2)])])))) (sRt (eC (.bool false))) sNil)
    (sRt (eAnV (eBin (dIsN false) (eCall F_turned_back [.sh (eVar 1), .sh (eCall F__law_table [.ow 0, .sh (eVar 1), .sh (eBin dPlus (eC (.int 1)) (eVar 2)), .sh (eVar 2)])]) (eC .none)) (eBin (dIsN false) (eCall F_turned_back [.sh (eVar 1), .sh (eCall F__law_table [.ow 0, .sh (eVar 1), .sh (eBin dPlus (eC (.int 1)) (eVar 2)), .sh (eBin dPlus (eC (.int 2)) (eVar 2))])]) (eC .none)))))) (S (mD a4 b cs c4) (some (tabD G)) (some Bd) (some SS) (some told)) = some (.rt (.bool true) (S (mD a6 b cs c6) (some (tabD G)) (some Bd) (some SS) (some told))) := by
    rcases turn2 with ⟨z, r⟩ | ⟨z, r⟩
    · obtain ⟨lR2, inv3, inv4, U2⟩ := take_inv lo dG gl E2 sR2 z
      have qn := fr.mp U2
      have dB2 := dom_drop E2.dom
      have bl2 : (R2.map (List.drop n)).length = n := by rw [List.length_map, lR2]
      have be3 := e_behind hp dG dB2 gl (by omega) (by omega) (by omega)
      rw [beh_still lo gl bl2 inv3] at be3
      refine ⟨_, r, ?_⟩
      let S2 := S (mD a4 b cs c4) (some (tabD G)) (some Bd) (some SS) (some (tabD (R2.map (List.drop n))))
      refine (v_nx (v_sifF (s1 := S2) (v_tst (v_bin (v_bin (v_at rfl) rfl (isN_tab _)) (v_bin (rank _) (v_at rfl) (dLt_i.trans (by rw [decide_eq_false (by omega)]))) (dNe_b _ _))) rfl)).trans ?_
      have like : eCall F__law_like [.sh (eCall F__law_behind [.sh (eVar 1), .sh (eVar 3), .sh (eVar 6), .sh (eVar 2)]), .sh (eCall F__law_unit [.sh (eVar 2)])] S2 = some (.bool true, S2) :=
        v_call [eCall F__law_behind [.sh (eVar 1), .sh (eVar 3), .sh (eVar 6), .sh (eVar 2)], eCall F__law_unit [.sh (eVar 2)]] (v_cons (v_call [eVar 1, eVar 3, eVar 6, eVar 2] (v_cons (v_at rfl) (v_cons (v_at rfl) (v_cons (v_at rfl) (v_cons (v_at rfl) rfl)))) rfl be3) (v_cons (v_call [eVar 2] (v_cons (v_at rfl) rfl) rfl (e_lunit (by omega))) rfl)) rfl (like_tab hp dS (by omega) (by omega))
      refine (v_nx (v_sifF (s1 := S2) (v_anT (s1 := S2) (v_tst (v_bin (v_at rfl) rfl (notN_tab _))) (v_notT (v_tru like rfl))) rfl)).trans ?_
      exact v_rt (last _)
    · have nU : Q.length ≠ n := fun e => z (full_take lo hp.inv dG gl (fr.mpr e) E2 sR2)
      refine ⟨_, r, ?_⟩
      let S2 := S (mD a4 b cs c4) (some (tabD G)) (some Bd) (some SS) (some .none)
      refine (v_nx (v_sifF (s1 := S2) (v_tst (v_bin (v_bin (a := .none) (b := .none) (c := .bool true) (v_at rfl) rfl rfl) (v_bin (rank _) (v_at rfl) (dLt_i.trans (by rw [decide_eq_true (by omega)]))) (dNe_b _ _))) rfl)).trans ?_
      refine (v_nx (v_sifF (s1 := S2) (v_anF (v_tst (v_bin (a := .none) (b := .none) (c := .bool false) (v_at rfl) rfl rfl))) rfl)).trans ?_
      exact v_rt (last _)
  obtain ⟨told, rt, tl2⟩ := tail
  refine ⟨a6, c6, runF_m (ys := [some (.int p), some (.int (n : Int)), some (tabD G), some Bd, some SS, some told]) ?_ (by simp), by omega⟩
  show g__law_back_right [some (mD a b cs c), none, none, none, none, none, none] = _
  unfold g__law_back_right
  have p1 : eCall F__law_prime [.ow 0] [some (mD a b cs c), none, none, none, none, none, none] = some (.int p, [some (mD a1 b cs c1), none, none, none, none, none, none]) := v_ow [] rfl rfl rfl rfl h1
  have p2 : eCall F__law_draw [.ow 0, .sh (eC (.int 9))] [some (mD a1 b cs c1), none, none, none, none, none, none] = some (.int (n : Int), [some (mD a2 b cs c2), none, none, none, none, none, none]) := v_ow [eC (.int 9)] rfl (v_cons rfl rfl) rfl rfl h2
  refine (v_nx (v_par p1 p2)).trans ?_
  have p3 : eCall F__law_steps [.ow 0, .sh (eVar 1), .sh (eVar 2)] (S (mD a2 b cs c2) none none none none) = some (tabD T, S (mD a3 b cs c3) none none none none) := v_ow [eVar 1, eVar 2] rfl (v_cons (v_at rfl) (v_cons (v_at rfl) rfl)) rfl rfl h3
  refine (v_nx (v_set p3)).trans ?_
  refine (v_nx (v_set (d := Bd) (s1 := S (mD a3 b cs c3) (some (tabD T)) none none none) (v_call [eVar 1, eVar 3] (v_cons (v_at rfl) (v_cons (v_at rfl) rfl)) rfl hB))).trans ?_
  refine (v_nx (v_sifF (s1 := S (mD a3 b cs c3) (some (tabD T)) (some Bd) none none) (v_tst (v_bin (v_at rfl) rfl (isN_tab _))) rfl)).trans ?_
  have both : eF (eLst (aCons (eCall F__law_behind [.sh (eVar 1), .sh (eVar 3), .sh (eVar 4), .sh (eVar 2)]) (aCons (eCall F__law_behind [.sh (eVar 1), .sh (eVar 4), .sh (eVar 3), .sh (eVar 2)]) aNil))) (S (mD a3 b cs c3) (some (tabD T)) (some Bd) none none) = some (SS, S (mD a3 b cs c3) (some (tabD T)) (some Bd) none none) :=
    v_F (v_lst (v_cons (v_call [eVar 1, eVar 3, eVar 4, eVar 2] (v_cons (v_at rfl) (v_cons (v_at rfl) (v_cons (v_at rfl) (v_cons (v_at rfl) rfl)))) rfl be1) (v_cons (v_call [eVar 1, eVar 4, eVar 3, eVar 2] (v_cons (v_at rfl) (v_cons (v_at rfl) (v_cons (v_at rfl) (v_cons (v_at rfl) rfl)))) rfl be2) rfl)))
  refine (v_nx (v_set both)).trans ?_
  let S3 := S (mD a3 b cs c3) (some (tabD T)) (some Bd) (some SS) none
  have like : eCall F__law_like [.sh (eVar 5), .sh (eF (eRepL (eLst (aCons (eCall F__law_unit [.sh (eVar 2)]) aNil)) (eC (.int 2))))] S3 = some (.bool true, S3) :=
    v_call [eVar 5, eF (eRepL (eLst (aCons (eCall F__law_unit [.sh (eVar 2)]) aNil)) (eC (.int 2)))] (v_cons (v_at rfl) (v_cons (v_F (v_rep2 (v_lst (v_cons (v_call [eVar 2] (v_cons (v_at rfl) rfl) rfl (e_lunit (n := n) (by omega))) rfl)))) rfl)) rfl (like_two hp dS (by omega) (by omega))
  refine (v_nx (v_sifF (s1 := S3) (v_notT (v_tru like rfl)) rfl)).trans ?_
  have p4 : eCall F__law_table [.ow 0, .sh (eVar 1), .sh (eVar 2), .sh (eVar 2)] S3 = some (tabD G, S (mD a4 b cs c4) (some (tabD T)) (some Bd) (some SS) none) := v_ow [eVar 1, eVar 2, eVar 2] rfl (v_cons (v_at rfl) (v_cons (v_at rfl) (v_cons (v_at rfl) rfl))) rfl rfl h4
  refine (v_nx (v_set p4)).trans ?_
  refine (v_nx (v_set (d := told) (s1 := S (mD a4 b cs c4) (some (tabD G)) (some Bd) (some SS) none) (v_call [eVar 1, eVar 3] (v_cons (v_at rfl) (v_cons (v_at rfl) rfl)) rfl rt))).trans ?_
  exact tl2
end Pf
set_option linter.all false
set_option maxRecDepth 1000000
namespace Pf
open PySem PySem.Spec L2 Mi Ma
theorem q1 : Ret F_solved [.int 5, .tuple [.tuple [.int 1, .int 1]], .int 2, .tuple [.int 3]] (.tuple [.int 0, .int 3]) := ret_of (n := 9) (by kernel_rfl) (by decide)
theorem q2 : Ret F_solved [.int 5, .tuple [.tuple [.int 1, .int 2], .tuple [.int 2, .int 4]], .int 2, .tuple [.int 1, .int 3]] .none := ret_of (n := 9) (by kernel_rfl) (by decide)
theorem q3 : Ret F_solved [.int 3, .tuple [], .int 2, .tuple []] (.tuple [.int 0, .int 0]) := ret_of (n := 9) (by kernel_rfl) (by decide)
theorem q4 : Ret F_solved [.int 3, .tuple [.tuple []], .int 0, .tuple [.int 1]] .none := ret_of (n := 9) (by kernel_rfl) (by decide)
theorem q5 : Ret F_solved [.int 5, .tuple [.tuple [.int 2]], .int 1, .tuple [.int 4]] (.tuple [.int 2]) := ret_of (n := 9) (by kernel_rfl) (by decide)
theorem q6 : Ret F_turned_back [.int 5, .tuple [.tuple [.int 2]]] (.tuple [.tuple [.int 3]]) := ret_of (n := 7) (by kernel_rfl) (by decide)
theorem q7 : Ret F_turned_back [.int 3, .tuple []] (.tuple []) := ret_of (n := 7) (by kernel_rfl) (by decide)
theorem v_callP {F : FF} {pm : List Nat} {f : FA} {s s1 : SD} {ds es : List D} {d : D} (h : f s = some (ds, s1)) (hp : permL pm ds = es) (r : Ret F es d) : eCallP F pm f s = some (d, s1) := by
  obtain ⟨xs, h1, _⟩ := r
  unfold eCallP
  rw [h]
  show ((F (permL pm ds)).map _) = _
  rw [hp, h1]
  rfl
theorem t1 (s : SD) : eCall F_solved [.sh (eC (.int 5)), .sh (eTup (aCons (eTup (aCons (eC (.int 1)) (aCons (eC (.int 1)) aNil))) aNil)), .sh (eC (.int 2)), .sh (eTup (aCons (eC (.int 3)) aNil))] s = some ((.tuple [.int 0, .int 3]), s) := v_call [eC (.int 5), eTup (aCons (eTup (aCons (eC (.int 1)) (aCons (eC (.int 1)) aNil))) aNil), eC (.int 2), eTup (aCons (eC (.int 3)) aNil)] rfl rfl q1
theorem t2 (s : SD) : eCall F_solved [.sh (eC (.int 5)), .sh (eTup (aCons (eTup (aCons (eC (.int 1)) (aCons (eC (.int 2)) aNil))) (aCons (eTup (aCons (eC (.int 2)) (aCons (eC (.int 4)) aNil))) aNil))), .sh (eC (.int 2)), .sh (eTup (aCons (eC (.int 1)) (aCons (eC (.int 3)) aNil)))] s = some (.none, s) := v_call [eC (.int 5), eTup (aCons (eTup (aCons (eC (.int 1)) (aCons (eC (.int 2)) aNil))) (aCons (eTup (aCons (eC (.int 2)) (aCons (eC (.int 4)) aNil))) aNil)), eC (.int 2), eTup (aCons (eC (.int 1)) (aCons (eC (.int 3)) aNil))] rfl rfl q2
theorem t3 (s : SD) : eCall F_solved [.sh (eC (.int 3)), .sh (eTup aNil), .sh (eC (.int 2)), .sh (eTup aNil)] s = some ((.tuple [.int 0, .int 0]), s) := v_call [eC (.int 3), eTup aNil, eC (.int 2), eTup aNil] rfl rfl q3
theorem t4 (s : SD) : eCall F_solved [.sh (eC (.int 3)), .sh (eTup (aCons (eTup aNil) aNil)), .sh (eC (.int 0)), .sh (eTup (aCons (eC (.int 1)) aNil))] s = some (.none, s) := v_call [eC (.int 3), eTup (aCons (eTup aNil) aNil), eC (.int 0), eTup (aCons (eC (.int 1)) aNil)] rfl rfl q4
theorem t7 (s : SD) : eCall F_turned_back [.sh (eC (.int 3)), .sh (eTup aNil)] s = some ((.tuple []), s) := v_call [eC (.int 3), eTup aNil] rfl rfl q7
theorem t5 (s : SD) : eCallP F_solved [3, 2, 1, 0] (aCons (eTup (aCons (eC (.int 4)) aNil)) (aCons (eC (.int 1)) (aCons (eTup (aCons (eTup (aCons (eC (.int 2)) aNil)) aNil)) (aCons (eC (.int 5)) aNil)))) s = some (.tuple [.int 2], s) := v_callP (ds := [.tuple [.int 4], .int 1, .tuple [.tuple [.int 2]], .int 5]) rfl rfl q5
theorem t6 (s : SD) : eCallP F_turned_back [1, 0] (aCons (eTup (aCons (eTup (aCons (eC (.int 2)) aNil)) aNil)) (aCons (eC (.int 5)) aNil)) s = some (.tuple [.tuple [.int 3]], s) := v_callP (ds := [.tuple [.tuple [.int 2]], .int 5]) rfl rfl q6
theorem due7 (s : SD) : eF (eLst (aCons (eTup (aCons (eC (.int 0)) (aCons (eC (.int 3)) aNil))) (aCons (eC .none) (aCons (eTup (aCons (eC (.int 0)) (aCons (eC (.int 0)) aNil))) (aCons (eC .none) (aCons (eTup (aCons (eC (.int 2)) aNil)) (aCons (eTup (aCons (eTup (aCons (eC (.int 3)) aNil)) aNil)) (aCons (eTup aNil) aNil)))))))) s = some (.list [.tuple [.int 0, .int 3], .none, .tuple [.int 0, .int 0], .none, .tuple [.int 2], .tuple [.tuple [.int 3]], .tuple []], s) := rfl
abbrev turnB : FS := (sCons (sAsO (eCall F__law_begun [.sh (eVar 0), .sh (eVar 1)]) 2)
    (sIf (tOrr (tNt (eTru (eCall F__law_all_right [.ow 2]))) (tNt (eTru (eCall F__law_back_right [.ow 2])))) (sRt (eC (.bool false))) sNil))
theorem e_turn {ns : List Int} {j : Int} {x2 x3 : Option D} (hl : ns.length ≤ 63) : ∃ y2, turnB [some (.list (ns.map .int)), some (.int j), x2, x3] = some (.nx [some (.list (ns.map .int)), some (.int j), y2, x3]) := by
  obtain ⟨a, b, cs, hb, hc⟩ := e_begun (k := j) hl
  obtain ⟨a1, c1, h1, k1⟩ := e_all_right (a := a) (b := b) (c := 0) hc (by omega)
  obtain ⟨a2, c2, h2, k2⟩ := e_back_right (a := a1) (b := b) (c := c1) hc (by omega)
  refine ⟨some (mD a2 b cs c2), ?_⟩
  refine (v_nx (v_setO (d := mD a b cs 0) (s1 := [some (.list (ns.map .int)), some (.int j), x2, x3]) (v_call [eVar 0, eVar 1] (v_cons (v_at rfl) (v_cons (v_at rfl) rfl)) rfl hb) (by simp))).trans ?_
  have p1 : eCall F__law_all_right [.ow 2] [some (.list (ns.map .int)), some (.int j), some (mD a b cs 0), x3] = some (.bool true, [some (.list (ns.map .int)), some (.int j), some (mD a1 b cs c1), x3]) := v_ow [] rfl rfl rfl rfl h1
  have p2 : eCall F__law_back_right [.ow 2] [some (.list (ns.map .int)), some (.int j), some (mD a1 b cs c1), x3] = some (.bool true, [some (.list (ns.map .int)), some (.int j), some (mD a2 b cs c2), x3]) := v_ow [] rfl rfl rfl rfl h2
  exact v_sifF (v_orF (v_notT (v_tru p1 rfl)) (v_notT (v_tru p2 rfl))) rfl
/-- the law, at every script -/
theorem e_law {ns : List Int} (hl : ns.length ≤ 63) : ∃ s', F_law [.list (ns.map .int)] = some (.bool true, s') := by
  have mx : ∃ n : Int, 0 ≤ n ∧ n ≤ 5 ∧ eBin dMax (eC (.int 3)) (eBin dMin (eCall1 cLen (eVar 0)) (eC (.int 5))) [some (.list (ns.map .int)), none, none, none] = some (.int n, [some (.list (ns.map .int)), none, none, none]) := by
    refine ⟨if (if (5 : Int) < ((ns.map PyData.int).length : Int) then 5 else ((ns.map PyData.int).length : Int)) > 3 then (if (5 : Int) < ((ns.map PyData.int).length : Int) then 5 else ((ns.map PyData.int).length : Int)) else 3, ?_, ?_, v_bin rfl (v_bin (v_c1 (v_at rfl) rfl) rfl rfl) rfl⟩
    · split <;> (try split) <;> omega
    · split <;> (try split) <;> omega
  obtain ⟨n, n0, n5, hn⟩ := mx
  obtain ⟨s', e1, x1, x2, x3, e2⟩ := v_for (items := rgD 0 n.toNat) (fi := iR1 (eBin dMax (eC (.int 3)) (eBin dMin (eCall1 cLen (eVar 0)) (eC (.int 5))))) (h := gNm 1) (fb := turnB)
    (s := [some (.list (ns.map .int)), none, none, none]) (s1 := [some (.list (ns.map .int)), none, none, none])
    (fun j s => ∃ x1 x2 x3 : Option D, s = [some (.list (ns.map .int)), x1, x2, x3])
    (v_R1 hn (by omega)) ⟨_, _, _, rfl⟩ (fun j x s hj ⟨x1, x2, x3, es⟩ => by
      subst es
      have jl : j < n.toNat := by
        obtain ⟨z, _⟩ := List.getElem?_eq_some_iff.mp hj
        unfold rgD at z
        simpa using z
      rw [rgD_get jl] at hj
      cases hj
      obtain ⟨y2, e⟩ := e_turn (j := (0 : Int) + (j : Nat)) (x2 := x2) (x3 := x3) hl
      exact ⟨_, _, _, rfl, e, .inl rfl, _, _, _, rfl⟩)
  let L4 : List D := [.tuple [.int 0, .int 3], .none, .tuple [.int 0, .int 0], .none]
  let L3 : List D := [.tuple [.int 2], .tuple [.tuple [.int 3]], .tuple []]
  let L7 : List D := [.tuple [.int 0, .int 3], .none, .tuple [.int 0, .int 0], .none, .tuple [.int 2], .tuple [.tuple [.int 3]], .tuple []]
  have nc : Nice 4 1000 (.list L7) := ⟨by decide +kernel, by decide +kernel, by decide +kernel, by decide +kernel, by decide +kernel⟩
  have rp : cReprX (.list L7) = some (.str (PyData.list L7).shown) := repr_l nc (by decide) (by decide)
  let A (d : Option D) : SD := [some (.list (ns.map .int)), x1, x2, d]
  have fin : g_law [some (.list (ns.map .int)), none, none, none] = some (.rt (.bool true) (A (some (.list L7)))) := by
    unfold g_law
    refine (v_nx e1).trans ?_
    rw [e2]
    have u0 : eF (eLst (aCons (eCall F_solved [.sh (eC (.int 5)), .sh (eTup (aCons (eTup (aCons (eC (.int 1)) (aCons (eC (.int 1)) aNil))) aNil)), .sh (eC (.int 2)), .sh (eTup (aCons (eC (.int 3)) aNil))]) (aCons (eCall F_solved [.sh (eC (.int 5)), .sh (eTup (aCons (eTup (aCons (eC (.int 1)) (aCons (eC (.int 2)) aNil))) (aCons (eTup (aCons (eC (.int 2)) (aCons (eC (.int 4)) aNil))) aNil))), .sh (eC (.int 2)), .sh (eTup (aCons (eC (.int 1)) (aCons (eC (.int 3)) aNil)))]) (aCons (eCall F_solved [.sh (eC (.int 3)), .sh (eTup aNil), .sh (eC (.int 2)), .sh (eTup aNil)]) (aCons (eCall F_solved [.sh (eC (.int 3)), .sh (eTup (aCons (eTup aNil) aNil)), .sh (eC (.int 0)), .sh (eTup (aCons (eC (.int 1)) aNil))]) aNil))))) (A x3) = some (.list L4, A x3) :=
      v_F (v_lst (v_cons (t1 _) (v_cons (t2 _) (v_cons (t3 _) (v_cons (t4 _) rfl)))))
    refine (v_nx (v_set u0)).trans ?_
    have u1 : eF (eLst (aCons (eCallP F_solved [3, 2, 1, 0] (aCons (eTup (aCons (eC (.int 4)) aNil)) (aCons (eC (.int 1)) (aCons (eTup (aCons (eTup (aCons (eC (.int 2)) aNil)) aNil)) (aCons (eC (.int 5)) aNil))))) (aCons (eCallP F_turned_back [1, 0] (aCons (eTup (aCons (eTup (aCons (eC (.int 2)) aNil)) aNil)) (aCons (eC (.int 5)) aNil))) (aCons (eCall F_turned_back [.sh (eC (.int 3)), .sh (eTup aNil)]) aNil)))) (A (some (.list L4))) = some (.list L3, A (some (.list L4))) :=
      v_F (v_lst (v_cons (t5 _) (v_cons (t6 _) (v_cons (t7 _) rfl))))
    have cat : dPlus (.list L4) (.list L3) = some (.list L7) := rfl
    refine (v_nx (v_set (d := .list L7) (s1 := A (some (.list L4))) (v_bin (v_at rfl) u1 cat))).trans ?_
    exact v_rt (v_call [eVar 3, eF (eLst (aCons (eTup (aCons (eC (.int 0)) (aCons (eC (.int 3)) aNil))) (aCons (eC .none) (aCons (eTup (aCons (eC (.int 0)) (aCons (eC (.int 0)) aNil))) (aCons (eC .none) (aCons (eTup (aCons (eC (.int 2)) aNil)) (aCons (eTup (aCons (eTup (aCons (eC (.int 3)) aNil)) aNil)) (aCons (eTup aNil) aNil))))))))] (v_cons (v_at rfl) (v_cons (due7 _) rfl)) rfl (e_like rp))
  refine ⟨A (some (.list L7)), ?_⟩
  show ((g_law [some (.list (ns.map .int)), none, none, none]).bind _) = _
  rw [fin]
  rfl
end Pf
set_option Elab.async false
set_option linter.all false
set_option maxRecDepth 100000
namespace Pf
open PySem PySem.Spec PyProof.Rows L2 Mi
set_option maxHeartbeats 0 in
theorem all_mk {l : PySem.W.OpenLaw} {w : World} {K : PySem.W.Frag} {h : Heap} {mg : Str → Option Value} {fa : Addr} (X : K.In h) (G : h.Ns mainGlobals mg) (hfa : mg "law" = some (.ref fa))
    {f0 : Addr} {od0 an0 : Option Addr} {sl0 : Array (Option Value)} {oc0 kV0 dc0 pm0 cd0 ct0 : Value} (a0 : PySem.W.nsIn K mainGlobals "_law_begun" = some (some (.ref f0))) (l0 : K.lookup f0 = some ⟨oc0, od0, .func (PySem.W.fnOf "_law_begun" "_law_begun" (defArgs s__law_begun) (defBody s__law_begun) (defScope s__law_begun) .none kV0 dc0 pm0 an0 cd0 ct0), sl0⟩) (c0 : PySem.W.codeIn K cd0 "_law_begun" = true) (k0 : PySem.W.keepIn K (.ref f0) = true)
    {f1 : Addr} {od1 an1 : Option Addr} {sl1 : Array (Option Value)} {oc1 kV1 dc1 pm1 cd1 ct1 : Value} (a1 : PySem.W.nsIn K mainGlobals "_law_like" = some (some (.ref f1))) (l1 : K.lookup f1 = some ⟨oc1, od1, .func (PySem.W.fnOf "_law_like" "_law_like" (defArgs s__law_like) (defBody s__law_like) (defScope s__law_like) .none kV1 dc1 pm1 an1 cd1 ct1), sl1⟩) (c1 : PySem.W.codeIn K cd1 "_law_like" = true) (k1 : PySem.W.keepIn K (.ref f1) = true)
    {f2 : Addr} {od2 an2 : Option Addr} {sl2 : Array (Option Value)} {oc2 kV2 dc2 pm2 cd2 ct2 : Value} (a2 : PySem.W.nsIn K mainGlobals "_law_draw" = some (some (.ref f2))) (l2 : K.lookup f2 = some ⟨oc2, od2, .func (PySem.W.fnOf "_law_draw" "_law_draw" (defArgs s__law_draw) (defBody s__law_draw) (defScope s__law_draw) .none kV2 dc2 pm2 an2 cd2 ct2), sl2⟩) (c2 : PySem.W.codeIn K cd2 "_law_draw" = true) (k2 : PySem.W.keepIn K (.ref f2) = true)
    {f3 : Addr} {od3 an3 : Option Addr} {sl3 : Array (Option Value)} {oc3 kV3 dc3 pm3 cd3 ct3 : Value} (a3 : PySem.W.nsIn K mainGlobals "_law_of" = some (some (.ref f3))) (l3 : K.lookup f3 = some ⟨oc3, od3, .func (PySem.W.fnOf "_law_of" "_law_of" (defArgs s__law_of) (defBody s__law_of) (defScope s__law_of) .none kV3 dc3 pm3 an3 cd3 ct3), sl3⟩) (c3 : PySem.W.codeIn K cd3 "_law_of" = true) (k3 : PySem.W.keepIn K (.ref f3) = true)
    {f4 : Addr} {od4 an4 : Option Addr} {sl4 : Array (Option Value)} {oc4 kV4 dc4 pm4 cd4 ct4 : Value} (a4 : PySem.W.nsIn K mainGlobals "_law_small_prime" = some (some (.ref f4))) (l4 : K.lookup f4 = some ⟨oc4, od4, .func (PySem.W.fnOf "_law_small_prime" "_law_small_prime" (defArgs s__law_small_prime) (defBody s__law_small_prime) (defScope s__law_small_prime) .none kV4 dc4 pm4 an4 cd4 ct4), sl4⟩) (c4 : PySem.W.codeIn K cd4 "_law_small_prime" = true) (k4 : PySem.W.keepIn K (.ref f4) = true)
    {f5 : Addr} {od5 an5 : Option Addr} {sl5 : Array (Option Value)} {oc5 kV5 dc5 pm5 cd5 ct5 : Value} (a5 : PySem.W.nsIn K mainGlobals "_law_column" = some (some (.ref f5))) (l5 : K.lookup f5 = some ⟨oc5, od5, .func (PySem.W.fnOf "_law_column" "_law_column" (defArgs s__law_column) (defBody s__law_column) (defScope s__law_column) .none kV5 dc5 pm5 an5 cd5 ct5), sl5⟩) (c5 : PySem.W.codeIn K cd5 "_law_column" = true) (k5 : PySem.W.keepIn K (.ref f5) = true)
    {f6 : Addr} {od6 an6 : Option Addr} {sl6 : Array (Option Value)} {oc6 kV6 dc6 pm6 cd6 ct6 : Value} (a6 : PySem.W.nsIn K mainGlobals "_law_table" = some (some (.ref f6))) (l6 : K.lookup f6 = some ⟨oc6, od6, .func (PySem.W.fnOf "_law_table" "_law_table" (defArgs s__law_table) (defBody s__law_table) (defScope s__law_table) .none kV6 dc6 pm6 an6 cd6 ct6), sl6⟩) (c6 : PySem.W.codeIn K cd6 "_law_table" = true) (k6 : PySem.W.keepIn K (.ref f6) = true)
    {f7 : Addr} {od7 an7 : Option Addr} {sl7 : Array (Option Value)} {oc7 kV7 dc7 pm7 cd7 ct7 : Value} (a7 : PySem.W.nsIn K mainGlobals "_law_leads" = some (some (.ref f7))) (l7 : K.lookup f7 = some ⟨oc7, od7, .func (PySem.W.fnOf "_law_leads" "_law_leads" (defArgs s__law_leads) (defBody s__law_leads) (defScope s__law_leads) .none kV7 dc7 pm7 an7 cd7 ct7), sl7⟩) (c7 : PySem.W.codeIn K cd7 "_law_leads" = true) (k7 : PySem.W.keepIn K (.ref f7) = true)
    {f8 : Addr} {od8 an8 : Option Addr} {sl8 : Array (Option Value)} {oc8 kV8 dc8 pm8 cd8 ct8 : Value} (a8 : PySem.W.nsIn K mainGlobals "_law_back" = some (some (.ref f8))) (l8 : K.lookup f8 = some ⟨oc8, od8, .func (PySem.W.fnOf "_law_back" "_law_back" (defArgs s__law_back) (defBody s__law_back) (defScope s__law_back) .none kV8 dc8 pm8 an8 cd8 ct8), sl8⟩) (c8 : PySem.W.codeIn K cd8 "_law_back" = true) (k8 : PySem.W.keepIn K (.ref f8) = true)
    {f9 : Addr} {od9 an9 : Option Addr} {sl9 : Array (Option Value)} {oc9 kV9 dc9 pm9 cd9 ct9 : Value} (a9 : PySem.W.nsIn K mainGlobals "_law_off" = some (some (.ref f9))) (l9 : K.lookup f9 = some ⟨oc9, od9, .func (PySem.W.fnOf "_law_off" "_law_off" (defArgs s__law_off) (defBody s__law_off) (defScope s__law_off) .none kV9 dc9 pm9 an9 cd9 ct9), sl9⟩) (c9 : PySem.W.codeIn K cd9 "_law_off" = true) (k9 : PySem.W.keepIn K (.ref f9) = true)
    {f10 : Addr} {od10 an10 : Option Addr} {sl10 : Array (Option Value)} {oc10 kV10 dc10 pm10 cd10 ct10 : Value} (a10 : PySem.W.nsIn K mainGlobals "_law_reduced" = some (some (.ref f10))) (l10 : K.lookup f10 = some ⟨oc10, od10, .func (PySem.W.fnOf "_law_reduced" "_law_reduced" (defArgs s__law_reduced) (defBody s__law_reduced) (defScope s__law_reduced) .none kV10 dc10 pm10 an10 cd10 ct10), sl10⟩) (c10 : PySem.W.codeIn K cd10 "_law_reduced" = true) (k10 : PySem.W.keepIn K (.ref f10) = true)
    {f11 : Addr} {od11 an11 : Option Addr} {sl11 : Array (Option Value)} {oc11 kV11 dc11 pm11 cd11 ct11 : Value} (a11 : PySem.W.nsIn K mainGlobals "_law_kernel" = some (some (.ref f11))) (l11 : K.lookup f11 = some ⟨oc11, od11, .func (PySem.W.fnOf "_law_kernel" "_law_kernel" (defArgs s__law_kernel) (defBody s__law_kernel) (defScope s__law_kernel) .none kV11 dc11 pm11 an11 cd11 ct11), sl11⟩) (c11 : PySem.W.codeIn K cd11 "_law_kernel" = true) (k11 : PySem.W.keepIn K (.ref f11) = true)
    {f12 : Addr} {od12 an12 : Option Addr} {sl12 : Array (Option Value)} {oc12 kV12 dc12 pm12 cd12 ct12 : Value} (a12 : PySem.W.nsIn K mainGlobals "_law_every" = some (some (.ref f12))) (l12 : K.lookup f12 = some ⟨oc12, od12, .func (PySem.W.fnOf "_law_every" "_law_every" (defArgs s__law_every) (defBody s__law_every) (defScope s__law_every) .none kV12 dc12 pm12 an12 cd12 ct12), sl12⟩) (c12 : PySem.W.codeIn K cd12 "_law_every" = true) (k12 : PySem.W.keepIn K (.ref f12) = true)
    {f13 : Addr} {od13 an13 : Option Addr} {sl13 : Array (Option Value)} {oc13 kV13 dc13 pm13 cd13 ct13 : Value} (a13 : PySem.W.nsIn K mainGlobals "_law_led" = some (some (.ref f13))) (l13 : K.lookup f13 = some ⟨oc13, od13, .func (PySem.W.fnOf "_law_led" "_law_led" (defArgs s__law_led) (defBody s__law_led) (defScope s__law_led) .none kV13 dc13 pm13 an13 cd13 ct13), sl13⟩) (c13 : PySem.W.codeIn K cd13 "_law_led" = true) (k13 : PySem.W.keepIn K (.ref f13) = true)
    {f14 : Addr} {od14 an14 : Option Addr} {sl14 : Array (Option Value)} {oc14 kV14 dc14 pm14 cd14 ct14 : Value} (a14 : PySem.W.nsIn K mainGlobals "zeros" = some (some (.ref f14))) (l14 : K.lookup f14 = some ⟨oc14, od14, .func (PySem.W.fnOf "zeros" "zeros" (defArgs s_zeros) (defBody s_zeros) (defScope s_zeros) .none kV14 dc14 pm14 an14 cd14 ct14), sl14⟩) (c14 : PySem.W.codeIn K cd14 "zeros" = true) (k14 : PySem.W.keepIn K (.ref f14) = true)
    {f15 : Addr} {od15 an15 : Option Addr} {sl15 : Array (Option Value)} {oc15 kV15 dc15 pm15 cd15 ct15 : Value} (a15 : PySem.W.nsIn K mainGlobals "inverse" = some (some (.ref f15))) (l15 : K.lookup f15 = some ⟨oc15, od15, .func (PySem.W.fnOf "inverse" "inverse" (defArgs s_inverse) (defBody s_inverse) (defScope s_inverse) .none kV15 dc15 pm15 an15 cd15 ct15), sl15⟩) (c15 : PySem.W.codeIn K cd15 "inverse" = true) (k15 : PySem.W.keepIn K (.ref f15) = true)
    {f16 : Addr} {od16 an16 : Option Addr} {sl16 : Array (Option Value)} {oc16 kV16 dc16 pm16 cd16 ct16 : Value} (a16 : PySem.W.nsIn K mainGlobals "scaled" = some (some (.ref f16))) (l16 : K.lookup f16 = some ⟨oc16, od16, .func (PySem.W.fnOf "scaled" "scaled" (defArgs s_scaled) (defBody s_scaled) (defScope s_scaled) .none kV16 dc16 pm16 an16 cd16 ct16), sl16⟩) (c16 : PySem.W.codeIn K cd16 "scaled" = true) (k16 : PySem.W.keepIn K (.ref f16) = true)
    {f17 : Addr} {od17 an17 : Option Addr} {sl17 : Array (Option Value)} {oc17 kV17 dc17 pm17 cd17 ct17 : Value} (a17 : PySem.W.nsIn K mainGlobals "less_times" = some (some (.ref f17))) (l17 : K.lookup f17 = some ⟨oc17, od17, .func (PySem.W.fnOf "less_times" "less_times" (defArgs s_less_times) (defBody s_less_times) (defScope s_less_times) .none kV17 dc17 pm17 an17 cd17 ct17), sl17⟩) (c17 : PySem.W.codeIn K cd17 "less_times" = true) (k17 : PySem.W.keepIn K (.ref f17) = true)
    {f18 : Addr} {od18 an18 : Option Addr} {sl18 : Array (Option Value)} {oc18 kV18 dc18 pm18 cd18 ct18 : Value} (a18 : PySem.W.nsIn K mainGlobals "reduced" = some (some (.ref f18))) (l18 : K.lookup f18 = some ⟨oc18, od18, .func (PySem.W.fnOf "reduced" "reduced" (defArgs s_reduced) (defBody s_reduced) (defScope s_reduced) .none kV18 dc18 pm18 an18 cd18 ct18), sl18⟩) (c18 : PySem.W.codeIn K cd18 "reduced" = true) (k18 : PySem.W.keepIn K (.ref f18) = true)
    {f19 : Addr} {od19 an19 : Option Addr} {sl19 : Array (Option Value)} {oc19 kV19 dc19 pm19 cd19 ct19 : Value} (a19 : PySem.W.nsIn K mainGlobals "solved" = some (some (.ref f19))) (l19 : K.lookup f19 = some ⟨oc19, od19, .func (PySem.W.fnOf "solved" "solved" (defArgs s_solved) (defBody s_solved) (defScope s_solved) .none kV19 dc19 pm19 an19 cd19 ct19), sl19⟩) (c19 : PySem.W.codeIn K cd19 "solved" = true) (k19 : PySem.W.keepIn K (.ref f19) = true)
    {f20 : Addr} {od20 an20 : Option Addr} {sl20 : Array (Option Value)} {oc20 kV20 dc20 pm20 cd20 ct20 : Value} (a20 : PySem.W.nsIn K mainGlobals "_law_all_right" = some (some (.ref f20))) (l20 : K.lookup f20 = some ⟨oc20, od20, .func (PySem.W.fnOf "_law_all_right" "_law_all_right" (defArgs s__law_all_right) (defBody s__law_all_right) (defScope s__law_all_right) .none kV20 dc20 pm20 an20 cd20 ct20), sl20⟩) (c20 : PySem.W.codeIn K cd20 "_law_all_right" = true) (k20 : PySem.W.keepIn K (.ref f20) = true)
    {f21 : Addr} {od21 an21 : Option Addr} {sl21 : Array (Option Value)} {oc21 kV21 dc21 pm21 cd21 ct21 : Value} (a21 : PySem.W.nsIn K mainGlobals "_law_prime" = some (some (.ref f21))) (l21 : K.lookup f21 = some ⟨oc21, od21, .func (PySem.W.fnOf "_law_prime" "_law_prime" (defArgs s__law_prime) (defBody s__law_prime) (defScope s__law_prime) .none kV21 dc21 pm21 an21 cd21 ct21), sl21⟩) (c21 : PySem.W.codeIn K cd21 "_law_prime" = true) (k21 : PySem.W.keepIn K (.ref f21) = true)
    {f22 : Addr} {od22 an22 : Option Addr} {sl22 : Array (Option Value)} {oc22 kV22 dc22 pm22 cd22 ct22 : Value} (a22 : PySem.W.nsIn K mainGlobals "_law_unit" = some (some (.ref f22))) (l22 : K.lookup f22 = some ⟨oc22, od22, .func (PySem.W.fnOf "_law_unit" "_law_unit" (defArgs s__law_unit) (defBody s__law_unit) (defScope s__law_unit) .none kV22 dc22 pm22 an22 cd22 ct22), sl22⟩) (c22 : PySem.W.codeIn K cd22 "_law_unit" = true) (k22 : PySem.W.keepIn K (.ref f22) = true)
    {f23 : Addr} {od23 an23 : Option Addr} {sl23 : Array (Option Value)} {oc23 kV23 dc23 pm23 cd23 ct23 : Value} (a23 : PySem.W.nsIn K mainGlobals "_law_shuffled" = some (some (.ref f23))) (l23 : K.lookup f23 = some ⟨oc23, od23, .func (PySem.W.fnOf "_law_shuffled" "_law_shuffled" (defArgs s__law_shuffled) (defBody s__law_shuffled) (defScope s__law_shuffled) .none kV23 dc23 pm23 an23 cd23 ct23), sl23⟩) (c23 : PySem.W.codeIn K cd23 "_law_shuffled" = true) (k23 : PySem.W.keepIn K (.ref f23) = true)
    {f24 : Addr} {od24 an24 : Option Addr} {sl24 : Array (Option Value)} {oc24 kV24 dc24 pm24 cd24 ct24 : Value} (a24 : PySem.W.nsIn K mainGlobals "_law_steps" = some (some (.ref f24))) (l24 : K.lookup f24 = some ⟨oc24, od24, .func (PySem.W.fnOf "_law_steps" "_law_steps" (defArgs s__law_steps) (defBody s__law_steps) (defScope s__law_steps) .none kV24 dc24 pm24 an24 cd24 ct24), sl24⟩) (c24 : PySem.W.codeIn K cd24 "_law_steps" = true) (k24 : PySem.W.keepIn K (.ref f24) = true)
    {f25 : Addr} {od25 an25 : Option Addr} {sl25 : Array (Option Value)} {oc25 kV25 dc25 pm25 cd25 ct25 : Value} (a25 : PySem.W.nsIn K mainGlobals "unit" = some (some (.ref f25))) (l25 : K.lookup f25 = some ⟨oc25, od25, .func (PySem.W.fnOf "unit" "unit" (defArgs s_unit) (defBody s_unit) (defScope s_unit) .none kV25 dc25 pm25 an25 cd25 ct25), sl25⟩) (c25 : PySem.W.codeIn K cd25 "unit" = true) (k25 : PySem.W.keepIn K (.ref f25) = true)
    {f26 : Addr} {od26 an26 : Option Addr} {sl26 : Array (Option Value)} {oc26 kV26 dc26 pm26 cd26 ct26 : Value} (a26 : PySem.W.nsIn K mainGlobals "still_table" = some (some (.ref f26))) (l26 : K.lookup f26 = some ⟨oc26, od26, .func (PySem.W.fnOf "still_table" "still_table" (defArgs s_still_table) (defBody s_still_table) (defScope s_still_table) .none kV26 dc26 pm26 an26 cd26 ct26), sl26⟩) (c26 : PySem.W.codeIn K cd26 "still_table" = true) (k26 : PySem.W.keepIn K (.ref f26) = true)
    {f27 : Addr} {od27 an27 : Option Addr} {sl27 : Array (Option Value)} {oc27 kV27 dc27 pm27 cd27 ct27 : Value} (a27 : PySem.W.nsIn K mainGlobals "turned_back" = some (some (.ref f27))) (l27 : K.lookup f27 = some ⟨oc27, od27, .func (PySem.W.fnOf "turned_back" "turned_back" (defArgs s_turned_back) (defBody s_turned_back) (defScope s_turned_back) .none kV27 dc27 pm27 an27 cd27 ct27), sl27⟩) (c27 : PySem.W.codeIn K cd27 "turned_back" = true) (k27 : PySem.W.keepIn K (.ref f27) = true)
    {f28 : Addr} {od28 an28 : Option Addr} {sl28 : Array (Option Value)} {oc28 kV28 dc28 pm28 cd28 ct28 : Value} (a28 : PySem.W.nsIn K mainGlobals "_law_behind" = some (some (.ref f28))) (l28 : K.lookup f28 = some ⟨oc28, od28, .func (PySem.W.fnOf "_law_behind" "_law_behind" (defArgs s__law_behind) (defBody s__law_behind) (defScope s__law_behind) .none kV28 dc28 pm28 an28 cd28 ct28), sl28⟩) (c28 : PySem.W.codeIn K cd28 "_law_behind" = true) (k28 : PySem.W.keepIn K (.ref f28) = true)
    {f29 : Addr} {od29 an29 : Option Addr} {sl29 : Array (Option Value)} {oc29 kV29 dc29 pm29 cd29 ct29 : Value} (a29 : PySem.W.nsIn K mainGlobals "_law_rank" = some (some (.ref f29))) (l29 : K.lookup f29 = some ⟨oc29, od29, .func (PySem.W.fnOf "_law_rank" "_law_rank" (defArgs s__law_rank) (defBody s__law_rank) (defScope s__law_rank) .none kV29 dc29 pm29 an29 cd29 ct29), sl29⟩) (c29 : PySem.W.codeIn K cd29 "_law_rank" = true) (k29 : PySem.W.keepIn K (.ref f29) = true)
    {f30 : Addr} {od30 an30 : Option Addr} {sl30 : Array (Option Value)} {oc30 kV30 dc30 pm30 cd30 ct30 : Value} (a30 : PySem.W.nsIn K mainGlobals "_law_back_right" = some (some (.ref f30))) (l30 : K.lookup f30 = some ⟨oc30, od30, .func (PySem.W.fnOf "_law_back_right" "_law_back_right" (defArgs s__law_back_right) (defBody s__law_back_right) (defScope s__law_back_right) .none kV30 dc30 pm30 an30 cd30 ct30), sl30⟩) (c30 : PySem.W.codeIn K cd30 "_law_back_right" = true) (k30 : PySem.W.keepIn K (.ref f30) = true)
    {f31 : Addr} {od31 an31 : Option Addr} {sl31 : Array (Option Value)} {oc31 kV31 dc31 pm31 cd31 ct31 : Value} (a31 : PySem.W.nsIn K mainGlobals "law" = some (some (.ref f31))) (l31 : K.lookup f31 = some ⟨oc31, od31, .func (PySem.W.fnOf "law" "law" (defArgs s_law) (defBody s_law) (defScope s_law) .none kV31 dc31 pm31 an31 cd31 ct31), sl31⟩) (c31 : PySem.W.codeIn K cd31 "law" = true) (k31 : PySem.W.keepIn K (.ref f31) = true)
    (z_enumerate : PySem.W.nsIn K mainGlobals "enumerate" = some none)
    (z_int : PySem.W.nsIn K mainGlobals "int" = some none)
    (z_len : PySem.W.nsIn K mainGlobals "len" = some none)
    (z_list : PySem.W.nsIn K mainGlobals "list" = some none)
    (z_max : PySem.W.nsIn K mainGlobals "max" = some none)
    (z_min : PySem.W.nsIn K mainGlobals "min" = some none)
    (z_range : PySem.W.nsIn K mainGlobals "range" = some none)
    (z_repr : PySem.W.nsIn K mainGlobals "repr" = some none)
    (z_sum : PySem.W.nsIn K mainGlobals "sum" = some none)
    (z_tuple : PySem.W.nsIn K mainGlobals "tuple" = some none)
    (z_zip : PySem.W.nsIn K mainGlobals "zip" = some none)
    : ∃ fd : FuncData, (∀ (s : Shared) (v : Value), BindsTo s fd ⟨[v], []⟩ [("script", v)]) ∧ ∀ base : Heap, K.In base → base.Ns mainGlobals mg → FnM l.prog w K mg base 6 fa fd ["script"] (spD K 1 [] false F_law) := by
  have e := hfa.symm.trans (PySem.W.mg_of X G a31)
  cases e
  have F0 := fun_mk (st := s__law_begun) l0 c0 k0
  have b0 := F0.binds (ps := ["script", "k"]) fun _ _ _ _ _ _ us hl => match us, hl with | [_, _], _ => rfl
  have F1 := fun_mk (st := s__law_like) l1 c1 k1
  have b1 := F1.binds (ps := ["got", "due"]) fun _ _ _ _ _ _ us hl => match us, hl with | [_, _], _ => rfl
  have F2 := fun_mk (st := s__law_draw) l2 c2 k2
  have b2 := F2.binds (ps := ["m", "bound"]) fun _ _ _ _ _ _ us hl => match us, hl with | [_, _], _ => rfl
  have F3 := fun_mk (st := s__law_of) l3 c3 k3
  have b3 := F3.binds (ps := ["m", "some"]) fun _ _ _ _ _ _ us hl => match us, hl with | [_, _], _ => rfl
  have F4 := fun_mk (st := s__law_small_prime) l4 c4 k4
  have b4 := F4.binds (ps := ["m"]) fun _ _ _ _ _ _ us hl => match us, hl with | [_], _ => rfl
  have F5 := fun_mk (st := s__law_column) l5 c5 k5
  have b5 := F5.binds (ps := ["m", "p", "size_so"]) fun _ _ _ _ _ _ us hl => match us, hl with | [_, _, _], _ => rfl
  have F6 := fun_mk (st := s__law_table) l6 c6 k6
  have b6 := F6.binds (ps := ["m", "p", "lines", "size_so"]) fun _ _ _ _ _ _ us hl => match us, hl with | [_, _, _, _], _ => rfl
  have F7 := fun_mk (st := s__law_leads) l7 c7 k7
  have b7 := F7.binds (ps := ["basis"]) fun _ _ _ _ _ _ us hl => match us, hl with | [_], _ => rfl
  have F8 := fun_mk (st := s__law_back) l8 c8 k8
  have b8 := F8.binds (ps := ["p", "x"]) fun _ _ _ _ _ _ us hl => match us, hl with | [_, _], _ => rfl
  have F9 := fun_mk (st := s__law_off) l9 c9 k9
  have b9 := F9.binds (ps := ["p", "row", "first", "spot"]) fun _ _ _ _ _ _ us hl => match us, hl with | [_, _, _, _], _ => rfl
  have F10 := fun_mk (st := s__law_reduced) l10 c10 k10
  have b10 := F10.binds (ps := ["p", "rows", "size_so"]) fun _ _ _ _ _ _ us hl => match us, hl with | [_, _, _], _ => rfl
  have F11 := fun_mk (st := s__law_kernel) l11 c11 k11
  have b11 := F11.binds (ps := ["p", "table_so", "size_so"]) fun _ _ _ _ _ _ us hl => match us, hl with | [_, _, _], _ => rfl
  have F12 := fun_mk (st := s__law_every) l12 c12 k12
  have b12 := F12.binds (ps := ["p", "size_so"]) fun _ _ _ _ _ _ us hl => match us, hl with | [_, _], _ => rfl
  have F13 := fun_mk (st := s__law_led) l13 c13 k13
  have b13 := F13.binds (ps := ["p", "table_so", "column_so"]) fun _ _ _ _ _ _ us hl => match us, hl with | [_, _, _], _ => rfl
  have F14 := fun_mk (st := s_zeros) l14 c14 k14
  have b14 := F14.binds (ps := ["size"]) fun _ _ _ _ _ _ us hl => match us, hl with | [_], _ => rfl
  have F15 := fun_mk (st := s_inverse) l15 c15 k15
  have b15 := F15.binds (ps := ["prime", "number"]) fun _ _ _ _ _ _ us hl => match us, hl with | [_, _], _ => rfl
  have F16 := fun_mk (st := s_scaled) l16 c16 k16
  have b16 := F16.binds (ps := ["prime", "column", "place"]) fun _ _ _ _ _ _ us hl => match us, hl with | [_, _, _], _ => rfl
  have F17 := fun_mk (st := s_less_times) l17 c17 k17
  have b17 := F17.binds (ps := ["prime", "column", "factor", "taken"]) fun _ _ _ _ _ _ us hl => match us, hl with | [_, _, _, _], _ => rfl
  have F18 := fun_mk (st := s_reduced) l18 c18 k18
  have b18 := F18.binds (ps := ["prime", "columns", "size"]) fun _ _ _ _ _ _ us hl => match us, hl with | [_, _, _], _ => rfl
  have F19 := fun_mk (st := s_solved) l19 c19 k19
  have b19 := F19.binds (ps := ["prime", "table", "size", "column"]) fun _ _ _ _ _ _ us hl => match us, hl with | [_, _, _, _], _ => rfl
  have F20 := fun_mk (st := s__law_all_right) l20 c20 k20
  have b20 := F20.binds (ps := ["m"]) fun _ _ _ _ _ _ us hl => match us, hl with | [_], _ => rfl
  have F21 := fun_mk (st := s__law_prime) l21 c21 k21
  have b21 := F21.binds (ps := ["m"]) fun _ _ _ _ _ _ us hl => match us, hl with | [_], _ => rfl
  have F22 := fun_mk (st := s__law_unit) l22 c22 k22
  have b22 := F22.binds (ps := ["size_so"]) fun _ _ _ _ _ _ us hl => match us, hl with | [_], _ => rfl
  have F23 := fun_mk (st := s__law_shuffled) l23 c23 k23
  have b23 := F23.binds (ps := ["m", "count"]) fun _ _ _ _ _ _ us hl => match us, hl with | [_, _], _ => rfl
  have F24 := fun_mk (st := s__law_steps) l24 c24 k24
  have b24 := F24.binds (ps := ["m", "p", "size_so"]) fun _ _ _ _ _ _ us hl => match us, hl with | [_, _, _], _ => rfl
  have F25 := fun_mk (st := s_unit) l25 c25 k25
  have b25 := F25.binds (ps := ["size", "place"]) fun _ _ _ _ _ _ us hl => match us, hl with | [_, _], _ => rfl
  have F26 := fun_mk (st := s_still_table) l26 c26 k26
  have b26 := F26.binds (ps := ["size"]) fun _ _ _ _ _ _ us hl => match us, hl with | [_], _ => rfl
  have F27 := fun_mk (st := s_turned_back) l27 c27 k27
  have b27 := F27.binds (ps := ["prime", "table"]) fun _ _ _ _ _ _ us hl => match us, hl with | [_, _], _ => rfl
  have F28 := fun_mk (st := s__law_behind) l28 c28 k28
  have b28 := F28.binds (ps := ["p", "one", "other", "size_so"]) fun _ _ _ _ _ _ us hl => match us, hl with | [_, _, _, _], _ => rfl
  have F29 := fun_mk (st := s__law_rank) l29 c29 k29
  have b29 := F29.binds (ps := ["p", "rows", "size_so"]) fun _ _ _ _ _ _ us hl => match us, hl with | [_, _, _], _ => rfl
  have F30 := fun_mk (st := s__law_back_right) l30 c30 k30
  have b30 := F30.binds (ps := ["m"]) fun _ _ _ _ _ _ us hl => match us, hl with | [_], _ => rfl
  have F31 := fun_mk (st := s_law) l31 c31 k31
  have m_enumerate := PySem.W.mg_none_of X G z_enumerate
  have m_int := PySem.W.mg_none_of X G z_int
  have m_len := PySem.W.mg_none_of X G z_len
  have m_list := PySem.W.mg_none_of X G z_list
  have m_max := PySem.W.mg_none_of X G z_max
  have m_min := PySem.W.mg_none_of X G z_min
  have m_range := PySem.W.mg_none_of X G z_range
  have m_repr := PySem.W.mg_none_of X G z_repr
  have m_sum := PySem.W.mg_none_of X G z_sum
  have m_tuple := PySem.W.mg_none_of X G z_tuple
  have m_zip := PySem.W.mg_none_of X G z_zip
  refine ⟨PySem.W.fnOf "law" "law" (defArgs s_law) (defBody s_law) (defScope s_law) .none kV31 dc31 pm31 an31 cd31 ct31, fun s v => .of_eq rfl, fun base _ _ => ?_⟩
  have k__law_begun : FnM l.prog w K mg base 1 f0 _ ["script", "k"] (spD K 2 [] true F__law_begun) := ok__law_begun F0 m_int
  have C__law_begun : Cal l.prog w K mg base 1 "_law_begun" ["script", "k"] [] true F__law_begun := ⟨_, _, k__law_begun, PySem.W.mg_of X G a0, k0, b0⟩
  have k__law_like : FnM l.prog w K mg base 1 f1 _ ["got", "due"] (spD K 2 [] false F__law_like) := ok__law_like F1 m_repr
  have C__law_like : Cal l.prog w K mg base 1 "_law_like" ["got", "due"] [] false F__law_like := ⟨_, _, k__law_like, PySem.W.mg_of X G a1, k1, b1⟩
  have k__law_draw : FnM l.prog w K mg base 1 f2 _ ["m", "bound"] (spD K 2 [0] false F__law_draw) := ok__law_draw F2 m_int m_len
  have C__law_draw : Cal l.prog w K mg base 1 "_law_draw" ["m", "bound"] [0] false F__law_draw := ⟨_, _, k__law_draw, PySem.W.mg_of X G a2, k2, b2⟩
  have k__law_of : FnM l.prog w K mg base 2 f3 _ ["m", "some"] (spD K 2 [0] false F__law_of) := ok__law_of F3 C__law_draw m_len
  have C__law_of : Cal l.prog w K mg base 2 "_law_of" ["m", "some"] [0] false F__law_of := ⟨_, _, k__law_of, PySem.W.mg_of X G a3, k3, b3⟩
  have k__law_small_prime : FnM l.prog w K mg base 3 f4 _ ["m"] (spD K 1 [0] false F__law_small_prime) := ok__law_small_prime F4 C__law_of
  have C__law_small_prime : Cal l.prog w K mg base 3 "_law_small_prime" ["m"] [0] false F__law_small_prime := ⟨_, _, k__law_small_prime, PySem.W.mg_of X G a4, k4, b4⟩
  have k__law_column : FnM l.prog w K mg base 2 f5 _ ["m", "p", "size_so"] (spD K 3 [0] false F__law_column) := ok__law_column F5 C__law_draw m_range m_tuple
  have C__law_column : Cal l.prog w K mg base 2 "_law_column" ["m", "p", "size_so"] [0] false F__law_column := ⟨_, _, k__law_column, PySem.W.mg_of X G a5, k5, b5⟩
  have k__law_of_01 : FnM l.prog w K mg base 2 f3 _ ["m", "some"] (spD K 2 [0, 1] false F__law_of_01) := ok__law_of_01 F3 C__law_draw m_len
  have C__law_of_01 : Cal l.prog w K mg base 2 "_law_of" ["m", "some"] [0, 1] false F__law_of_01 := ⟨_, _, k__law_of_01, PySem.W.mg_of X G a3, k3, b3⟩
  have k__law_table : FnM l.prog w K mg base 3 f6 _ ["m", "p", "lines", "size_so"] (spD K 4 [0] false F__law_table) := ok__law_table F6 C__law_column C__law_draw C__law_of_01 m_int m_range m_tuple
  have C__law_table : Cal l.prog w K mg base 3 "_law_table" ["m", "p", "lines", "size_so"] [0] false F__law_table := ⟨_, _, k__law_table, PySem.W.mg_of X G a6, k6, b6⟩
  have k__law_leads : FnM l.prog w K mg base 1 f7 _ ["basis"] (spD K 1 [] true F__law_leads) := ok__law_leads F7 m_len m_range
  have C__law_leads : Cal l.prog w K mg base 1 "_law_leads" ["basis"] [] true F__law_leads := ⟨_, _, k__law_leads, PySem.W.mg_of X G a7, k7, b7⟩
  have k__law_back : FnM l.prog w K mg base 1 f8 _ ["p", "x"] (spD K 2 [] false F__law_back) := ok__law_back F8 m_int m_range
  have C__law_back : Cal l.prog w K mg base 1 "_law_back" ["p", "x"] [] false F__law_back := ⟨_, _, k__law_back, PySem.W.mg_of X G a8, k8, b8⟩
  have k__law_off : FnM l.prog w K mg base 1 f9 _ ["p", "row", "first", "spot"] (spD K 4 [] false F__law_off) := ok__law_off F9 m_int m_len m_range m_tuple
  have C__law_off : Cal l.prog w K mg base 1 "_law_off" ["p", "row", "first", "spot"] [] false F__law_off := ⟨_, _, k__law_off, PySem.W.mg_of X G a9, k9, b9⟩
  have k__law_reduced : FnM l.prog w K mg base 2 f10 _ ["p", "rows", "size_so"] (spD K 3 [] false F__law_reduced) := ok__law_reduced F10 C__law_back C__law_off m_int m_len m_range m_tuple
  have C__law_reduced : Cal l.prog w K mg base 2 "_law_reduced" ["p", "rows", "size_so"] [] false F__law_reduced := ⟨_, _, k__law_reduced, PySem.W.mg_of X G a10, k10, b10⟩
  have k__law_kernel : FnM l.prog w K mg base 3 f11 _ ["p", "table_so", "size_so"] (spD K 3 [] false F__law_kernel) := ok__law_kernel F11 C__law_leads C__law_reduced m_int m_len m_range m_tuple
  have C__law_kernel : Cal l.prog w K mg base 3 "_law_kernel" ["p", "table_so", "size_so"] [] false F__law_kernel := ⟨_, _, k__law_kernel, PySem.W.mg_of X G a11, k11, b11⟩
  have k__law_every : FnM l.prog w K mg base 1 f12 _ ["p", "size_so"] (spD K 2 [] false F__law_every) := ok__law_every F12 m_range
  have C__law_every : Cal l.prog w K mg base 1 "_law_every" ["p", "size_so"] [] false F__law_every := ⟨_, _, k__law_every, PySem.W.mg_of X G a12, k12, b12⟩
  have k__law_led : FnM l.prog w K mg base 1 f13 _ ["p", "table_so", "column_so"] (spD K 3 [] false F__law_led) := ok__law_led F13 m_int m_len m_range m_sum m_tuple
  have C__law_led : Cal l.prog w K mg base 1 "_law_led" ["p", "table_so", "column_so"] [] false F__law_led := ⟨_, _, k__law_led, PySem.W.mg_of X G a13, k13, b13⟩
  have k_zeros : FnM l.prog w K mg base 1 f14 _ ["size"] (spD K 1 [] false F_zeros) := ok_zeros F14
  have C_zeros : Cal l.prog w K mg base 1 "zeros" ["size"] [] false F_zeros := ⟨_, _, k_zeros, PySem.W.mg_of X G a14, k14, b14⟩
  have k_inverse : FnM l.prog w K mg base 1 f15 _ ["prime", "number"] (spD K 2 [] false F_inverse) := ok_inverse F15 m_range
  have C_inverse : Cal l.prog w K mg base 1 "inverse" ["prime", "number"] [] false F_inverse := ⟨_, _, k_inverse, PySem.W.mg_of X G a15, k15, b15⟩
  have k_scaled : FnM l.prog w K mg base 2 f16 _ ["prime", "column", "place"] (spD K 3 [] false F_scaled) := ok_scaled F16 C_inverse m_tuple
  have C_scaled : Cal l.prog w K mg base 2 "scaled" ["prime", "column", "place"] [] false F_scaled := ⟨_, _, k_scaled, PySem.W.mg_of X G a16, k16, b16⟩
  have k_less_times : FnM l.prog w K mg base 1 f17 _ ["prime", "column", "factor", "taken"] (spD K 4 [] false F_less_times) := ok_less_times F17 m_tuple m_zip
  have C_less_times : Cal l.prog w K mg base 1 "less_times" ["prime", "column", "factor", "taken"] [] false F_less_times := ⟨_, _, k_less_times, PySem.W.mg_of X G a17, k17, b17⟩
  have k_reduced : FnM l.prog w K mg base 3 f18 _ ["prime", "columns", "size"] (spD K 3 [] false F_reduced) := ok_reduced F18 C_less_times C_scaled m_enumerate m_len m_list m_range m_tuple
  have C_reduced : Cal l.prog w K mg base 3 "reduced" ["prime", "columns", "size"] [] false F_reduced := ⟨_, _, k_reduced, PySem.W.mg_of X G a18, k18, b18⟩
  have k_solved : FnM l.prog w K mg base 4 f19 _ ["prime", "table", "size", "column"] (spD K 4 [] false F_solved) := ok_solved F19 C_reduced C_zeros m_list m_tuple m_zip
  have C_solved : Cal l.prog w K mg base 4 "solved" ["prime", "table", "size", "column"] [] false F_solved := ⟨_, _, k_solved, PySem.W.mg_of X G a19, k19, b19⟩
  have C_solved__column_size_table_prime : CalP l.prog w K mg base 4 "solved" ["prime", "table", "size", "column"] ["column", "size", "table", "prime"] [3, 2, 1, 0] F_solved := ⟨_, _, k_solved, PySem.W.mg_of X G a19, k19, fun s ws h => match ws, h with | [_, _, _, _], _ => .of_eq rfl⟩
  have k__law_all_right : FnM l.prog w K mg base 5 f20 _ ["m"] (spD K 1 [0] false F__law_all_right) := ok__law_all_right F20 C__law_draw C__law_every C__law_kernel C__law_leads C__law_led C__law_like C__law_small_prime C__law_table C_solved
  have C__law_all_right : Cal l.prog w K mg base 5 "_law_all_right" ["m"] [0] false F__law_all_right := ⟨_, _, k__law_all_right, PySem.W.mg_of X G a20, k20, b20⟩
  have k__law_prime : FnM l.prog w K mg base 3 f21 _ ["m"] (spD K 1 [0] false F__law_prime) := ok__law_prime F21 C__law_of
  have C__law_prime : Cal l.prog w K mg base 3 "_law_prime" ["m"] [0] false F__law_prime := ⟨_, _, k__law_prime, PySem.W.mg_of X G a21, k21, b21⟩
  have k__law_unit : FnM l.prog w K mg base 1 f22 _ ["size_so"] (spD K 1 [] false F__law_unit) := ok__law_unit F22 m_range m_tuple
  have C__law_unit : Cal l.prog w K mg base 1 "_law_unit" ["size_so"] [] false F__law_unit := ⟨_, _, k__law_unit, PySem.W.mg_of X G a22, k22, b22⟩
  have k__law_shuffled : FnM l.prog w K mg base 3 f23 _ ["m", "count"] (spD K 2 [0] false F__law_shuffled) := ok__law_shuffled F23 C__law_of m_list m_range m_tuple
  have C__law_shuffled : Cal l.prog w K mg base 3 "_law_shuffled" ["m", "count"] [0] false F__law_shuffled := ⟨_, _, k__law_shuffled, PySem.W.mg_of X G a23, k23, b23⟩
  have k__law_steps : FnM l.prog w K mg base 4 f24 _ ["m", "p", "size_so"] (spD K 3 [0] false F__law_steps) := ok__law_steps F24 C__law_draw C__law_shuffled C__law_unit m_int m_list m_range m_tuple
  have C__law_steps : Cal l.prog w K mg base 4 "_law_steps" ["m", "p", "size_so"] [0] false F__law_steps := ⟨_, _, k__law_steps, PySem.W.mg_of X G a24, k24, b24⟩
  have k_unit : FnM l.prog w K mg base 2 f25 _ ["size", "place"] (spD K 2 [] false F_unit) := ok_unit F25 C_zeros
  have C_unit : Cal l.prog w K mg base 2 "unit" ["size", "place"] [] false F_unit := ⟨_, _, k_unit, PySem.W.mg_of X G a25, k25, b25⟩
  have k_still_table : FnM l.prog w K mg base 3 f26 _ ["size"] (spD K 1 [] false F_still_table) := ok_still_table F26 C_unit m_range m_tuple
  have C_still_table : Cal l.prog w K mg base 3 "still_table" ["size"] [] false F_still_table := ⟨_, _, k_still_table, PySem.W.mg_of X G a26, k26, b26⟩
  have k_turned_back : FnM l.prog w K mg base 4 f27 _ ["prime", "table"] (spD K 2 [] false F_turned_back) := ok_turned_back F27 C_reduced C_still_table C_unit m_enumerate m_len m_tuple
  have C_turned_back : Cal l.prog w K mg base 4 "turned_back" ["prime", "table"] [] false F_turned_back := ⟨_, _, k_turned_back, PySem.W.mg_of X G a27, k27, b27⟩
  have C_turned_back__table_prime : CalP l.prog w K mg base 4 "turned_back" ["prime", "table"] ["table", "prime"] [1, 0] F_turned_back := ⟨_, _, k_turned_back, PySem.W.mg_of X G a27, k27, fun s ws h => match ws, h with | [_, _], _ => .of_eq rfl⟩
  have k__law_behind : FnM l.prog w K mg base 1 f28 _ ["p", "one", "other", "size_so"] (spD K 4 [] false F__law_behind) := ok__law_behind F28 m_int m_len m_range m_sum m_tuple
  have C__law_behind : Cal l.prog w K mg base 1 "_law_behind" ["p", "one", "other", "size_so"] [] false F__law_behind := ⟨_, _, k__law_behind, PySem.W.mg_of X G a28, k28, b28⟩
  have k__law_rank : FnM l.prog w K mg base 3 f29 _ ["p", "rows", "size_so"] (spD K 3 [] false F__law_rank) := ok__law_rank F29 C__law_reduced m_len
  have C__law_rank : Cal l.prog w K mg base 3 "_law_rank" ["p", "rows", "size_so"] [] false F__law_rank := ⟨_, _, k__law_rank, PySem.W.mg_of X G a29, k29, b29⟩
  have k__law_back_right : FnM l.prog w K mg base 5 f30 _ ["m"] (spD K 1 [0] false F__law_back_right) := ok__law_back_right F30 C__law_behind C__law_draw C__law_like C__law_prime C__law_rank C__law_steps C__law_table C__law_unit C_turned_back
  have C__law_back_right : Cal l.prog w K mg base 5 "_law_back_right" ["m"] [0] false F__law_back_right := ⟨_, _, k__law_back_right, PySem.W.mg_of X G a30, k30, b30⟩
  exact ok_law F31 C__law_all_right C__law_back_right C__law_begun C__law_like C_solved C_turned_back C_solved__column_size_table_prime C_turned_back__table_prime m_len m_max m_min m_range
end Pf
open PySem PySem.W PyProof.Rows
set_option maxHeartbeats 0 in
theorem PySem.Challenge.cw_patchrooms_k02_whole_columns_led_back_holds : PySem.Challenge.rw_patchrooms_k02_whole_columns_led_back.Holds := by
  w_on; o_law; k_head; (case hw => w_witness2)
  k_fill
  refine Mi.walkM (l := PySem.Challenge.rw_patchrooms_k02_whole_columns_led_back) (n := 63) (k := 6) (x := "script") (sp := fun K => Mi.spD K 1 [] false Pf.F_law) rfl (by decide) rfl ⟨rfl, by decide, by decide⟩ (fun w h Y => PySem.W.kIn_of Y) ?F (fun K H a ns hl hO hS => (Pf.e_law hl).elim fun s' e => Mi.sp_of hO hS e)
  case F =>
    intro w mg fa h KX G hmg
    refine' Pf.all_mk KX G hmg ?a0 ?l0 ?c0 ?k0 ?a1 ?l1 ?c1 ?k1 ?a2 ?l2 ?c2 ?k2 ?a3 ?l3 ?c3 ?k3 ?a4 ?l4 ?c4 ?k4 ?a5 ?l5 ?c5 ?k5 ?a6 ?l6 ?c6 ?k6 ?a7 ?l7 ?c7 ?k7 ?a8 ?l8 ?c8 ?k8 ?a9 ?l9 ?c9 ?k9 ?a10 ?l10 ?c10 ?k10 ?a11 ?l11 ?c11 ?k11 ?a12 ?l12 ?c12 ?k12 ?a13 ?l13 ?c13 ?k13 ?a14 ?l14 ?c14 ?k14 ?a15 ?l15 ?c15 ?k15 ?a16 ?l16 ?c16 ?k16 ?a17 ?l17 ?c17 ?k17 ?a18 ?l18 ?c18 ?k18 ?a19 ?l19 ?c19 ?k19 ?a20 ?l20 ?c20 ?k20 ?a21 ?l21 ?c21 ?k21 ?a22 ?l22 ?c22 ?k22 ?a23 ?l23 ?c23 ?k23 ?a24 ?l24 ?c24 ?k24 ?a25 ?l25 ?c25 ?k25 ?a26 ?l26 ?c26 ?k26 ?a27 ?l27 ?c27 ?k27 ?a28 ?l28 ?c28 ?k28 ?a29 ?l29 ?c29 ?k29 ?a30 ?l30 ?c30 ?k30 ?a31 ?l31 ?c31 ?k31 ?z_enumerate ?z_int ?z_len ?z_list ?z_max ?z_min ?z_range ?z_repr ?z_sum ?z_tuple ?z_zip
    (case a0 => k_is); (case l0 => k_is); (case c0 => k_is); (case k0 => k_is); (case a1 => k_is); (case l1 => k_is); (case c1 => k_is); (case k1 => k_is); (case a2 => k_is); (case l2 => k_is); (case c2 => k_is); (case k2 => k_is); (case a3 => k_is); (case l3 => k_is); (case c3 => k_is); (case k3 => k_is); (case a4 => k_is); (case l4 => k_is); (case c4 => k_is); (case k4 => k_is); (case a5 => k_is); (case l5 => k_is); (case c5 => k_is); (case k5 => k_is); (case a6 => k_is); (case l6 => k_is); (case c6 => k_is); (case k6 => k_is); (case a7 => k_is); (case l7 => k_is); (case c7 => k_is); (case k7 => k_is); (case a8 => k_is); (case l8 => k_is); (case c8 => k_is); (case k8 => k_is); (case a9 => k_is); (case l9 => k_is); (case c9 => k_is); (case k9 => k_is); (case a10 => k_is); (case l10 => k_is); (case c10 => k_is); (case k10 => k_is); (case a11 => k_is); (case l11 => k_is); (case c11 => k_is); (case k11 => k_is); (case a12 => k_is); (case l12 => k_is); (case c12 => k_is); (case k12 => k_is); (case a13 => k_is); (case l13 => k_is); (case c13 => k_is); (case k13 => k_is); (case a14 => k_is); (case l14 => k_is); (case c14 => k_is); (case k14 => k_is); (case a15 => k_is); (case l15 => k_is); (case c15 => k_is); (case k15 => k_is); (case a16 => k_is); (case l16 => k_is); (case c16 => k_is); (case k16 => k_is); (case a17 => k_is); (case l17 => k_is); (case c17 => k_is); (case k17 => k_is); (case a18 => k_is); (case l18 => k_is); (case c18 => k_is); (case k18 => k_is); (case a19 => k_is); (case l19 => k_is); (case c19 => k_is); (case k19 => k_is); (case a20 => k_is); (case l20 => k_is); (case c20 => k_is); (case k20 => k_is); (case a21 => k_is); (case l21 => k_is); (case c21 => k_is); (case k21 => k_is); (case a22 => k_is); (case l22 => k_is); (case c22 => k_is); (case k22 => k_is); (case a23 => k_is); (case l23 => k_is); (case c23 => k_is); (case k23 => k_is); (case a24 => k_is); (case l24 => k_is); (case c24 => k_is); (case k24 => k_is); (case a25 => k_is); (case l25 => k_is); (case c25 => k_is); (case k25 => k_is); (case a26 => k_is); (case l26 => k_is); (case c26 => k_is); (case k26 => k_is); (case a27 => k_is); (case l27 => k_is); (case c27 => k_is); (case k27 => k_is); (case a28 => k_is); (case l28 => k_is); (case c28 => k_is); (case k28 => k_is); (case a29 => k_is); (case l29 => k_is); (case c29 => k_is); (case k29 => k_is); (case a30 => k_is); (case l30 => k_is); (case c30 => k_is); (case k30 => k_is); (case a31 => k_is); (case l31 => k_is); (case c31 => k_is); (case k31 => k_is); (case z_enumerate => k_is); (case z_int => k_is); (case z_len => k_is); (case z_list => k_is); (case z_max => k_is); (case z_min => k_is); (case z_range => k_is); (case z_repr => k_is); (case z_sum => k_is); (case z_tuple => k_is); (case z_zip => k_is)
