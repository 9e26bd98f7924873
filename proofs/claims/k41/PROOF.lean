import PyProof.Rows.All
import Wide.All
import OpenK.AllK
import Wide.FinOn
import HandS.ForMost
import HandS.ForExc
import HandS.Flow
import HandS.FStr
import HandS.StrMore
import HandS.Style
import HandS.IsInst
import HandS.Walk
import HandS.Zip
import HandS.Rev
import HandS.Evl
import HandS.ExcCtx
import PyProof.AutoSeq1
import HandS.TupAny
import KE.GoesEnum
import HandS.MapJoin
import HandS.ExcInit
import HandS.ExcField
import HandS.TryMany
import KE.KExcIs
import HandS.SetKeys
import HandS.DictComp
import HandS.ExcIs
import HandS.Conv
import HandS.Iter
import PyProof.SliceList
import PyProof.DelItemList
import HandS.More
import KE.GoesZip
import KE.GoesMore
import HandS.Deep
import KE.GoesEnumKw
import KE.DataMinMax
import PyProof.P3Eq
import HandS.SortKw
import HandS.SuiteRaise
import HandS.RaiseFrom
import HandS.ExcInitHot
import KE.IntTextText
import HandS.HotCalls
import KE.GoesRaise
import PyProof.Rows.StrMeet
import KE.KDictZip
import PySem.Challenge.RW_weft_k41_merge
set_option Elab.async false
set_option linter.all false
set_option maxRecDepth 100000
set_option maxHeartbeats 4000000
/-! The data layer: what a body does, said over plain data. -/
namespace WD
open PySem PySem.Spec PyProof.Rows L2
open Evl (Ex Ex.refl Ex.trans Ex.new Ex.mut ex_l ex_t fresh_back)

abbrev D := PyData
abbrev Frag := PySem.W.Frag
structure Exn where
  cls : Str
  fs : List (Str × D)
inductive Res (α : Type) where
  | ok (a : α) | err (x : Exn) | stk
namespace Res
def bind {α β : Type} : Res α → (α → Res β) → Res β
  | .ok a, f => f a
  | .err x, _ => .err x
  | .stk, _ => .stk
def sat {α : Type} (P : α → Prop) (R : Exn → Prop) : Res α → Prop
  | .ok a => P a
  | .err x => R x
  | .stk => False
theorem sat_bind {α β : Type} {P : β → Prop} {R : Exn → Prop} {m : Res α} {f : α → Res β} (h : (m.bind f).sat P R) : m.sat (fun a => (f a).sat P R) R := by
  cases m <;> exact h
theorem sat_imp {α : Type} {P P' : α → Prop} {R R' : Exn → Prop} {m : Res α} (h : m.sat P R) (hp : ∀ a, m = .ok a → P a → P' a) (hr : ∀ x, R x → R' x) : m.sat P' R' := by
  cases m with
  | ok a => exact hp a rfl h
  | err x => exact hr x h
  | stk => exact h
end Res
def ofO {α : Type} : Option α → Res α
  | some a => .ok a
  | none => .stk
theorem ofO_sat {α : Type} {P : α → Prop} {R : Exn → Prop} {o : Option α} (h : (ofO o).sat P R) : ∃ a, o = some a ∧ P a := by
  cases o with
  | none => exact h.elim
  | some a => exact ⟨a, rfl, h⟩
abbrev Env := List (Option D)

/-! ### values that stand for data -/
abbrev OkS (x : Str) : Prop := PyData.strOk x = true
def KeyOk : Key → Prop
  | .inl _ => True
  | .inr x => OkS x
def keyD : Key → D
  | .inl i => .int i
  | .inr x => .str x
mutual
inductive Rp (K : Frag) (F : Hp) : V → D → Prop
  | non : Rp K F .non .none
  | bl (b : Bool) : Rp K F (.bl b) (.bool b)
  | int (i : Int) : Rp K F (.int i) (.int i)
  | str (x : Str) (h : OkS x) : Rp K F (.str x) (.str x)
  | lst {a : Addr} {xs : List V} {ds : List D} : SqL K F a xs → RpA K F xs ds → Rp K F (.ref a) (.list ds)
  | tup {a : Addr} {xs : List V} {ds : List D} : SqT K F a xs → RpA K F xs ds → Rp K F (.ref a) (.tuple ds)
  | dct {a : Addr} {kvs : List (Key × V)} {ds : List (D × D)} : Rd F a (.dK kvs) → RpK K F kvs ds → Rp K F (.ref a) (.dict ds)
inductive RpA (K : Frag) (F : Hp) : List V → List D → Prop
  | nil : RpA K F [] []
  | cons {v : V} {vs : List V} {d : D} {ds : List D} : Rp K F v d → RpA K F vs ds → RpA K F (v :: vs) (d :: ds)
inductive RpK (K : Frag) (F : Hp) : List (Key × V) → List (D × D) → Prop
  | nil : RpK K F [] []
  | cons {k : Key} {v : V} {kvs : List (Key × V)} {d : D} {ds : List (D × D)} : KeyOk k → Rp K F v d → RpK K F kvs ds → RpK K F ((k, v) :: kvs) ((keyD k, d) :: ds)
end
section
variable {K : Frag} {F F' H H' : Hp}
mutual
theorem Rp.mono (e : Ex F F') : ∀ {v : V} {d : D}, Rp K F v d → Rp K F' v d
  | _, _, .non => .non
  | _, _, .bl b => .bl b
  | _, _, .int i => .int i
  | _, _, .str x h => .str x h
  | _, _, .lst h a => .lst (ex_l e h) (RpA.mono e a)
  | _, _, .tup h a => .tup (ex_t e h) (RpA.mono e a)
  | _, _, .dct h a => .dct (h.imp (e _ _) fun ⟨o, q⟩ => ⟨o, e _ _ q⟩) (RpK.mono e a)
theorem RpA.mono (e : Ex F F') : ∀ {v : List V} {d : List D}, RpA K F v d → RpA K F' v d
  | _, _, .nil => .nil
  | _, _, .cons h a => .cons (Rp.mono e h) (RpA.mono e a)
theorem RpK.mono (e : Ex F F') : ∀ {v : List (Key × V)} {d : List (D × D)}, RpK K F v d → RpK K F' v d
  | _, _, .nil => .nil
  | _, _, .cons o h a => .cons o (Rp.mono e h) (RpK.mono e a)
end
theorem RpA.length : ∀ {vs : List V} {ds : List D}, RpA K F vs ds → vs.length = ds.length
  | _, _, .nil => rfl
  | _, _, .cons _ a => by rw [List.length_cons, List.length_cons, RpA.length a]
theorem RpA.append : ∀ {vs ws : List V} {ds es : List D}, RpA K F vs ds → RpA K F ws es → RpA K F (vs ++ ws) (ds ++ es)
  | _, _, _, _, .nil, b => b
  | _, _, _, _, .cons h a, b => .cons h (RpA.append a b)
theorem RpA.get : ∀ {vs : List V} {ds : List D} {i : Nat} {d : D}, RpA K F vs ds → ds[i]? = some d → ∃ v, vs[i]? = some v ∧ Rp K F v d
  | _, _, _, _, .nil, e => by simp at e
  | _, _, 0, d, .cons (v := v) h _, e => ⟨v, rfl, by simp at e; subst e; exact h⟩
  | _, _, i + 1, _, .cons _ a, e => by
    obtain ⟨v, h1, h2⟩ := RpA.get (i := i) a (by simpa using e)
    exact ⟨v, by simpa using h1, h2⟩
theorem RpA.getV : ∀ {vs : List V} {ds : List D} {i : Nat} {v : V}, RpA K F vs ds → vs[i]? = some v → ∃ d, ds[i]? = some d ∧ Rp K F v d
  | _, _, _, _, .nil, e => by simp at e
  | _, _, 0, _, .cons (d := d) h _, e => ⟨d, rfl, by simp at e; subst e; exact h⟩
  | _, _, i + 1, _, .cons _ a, e => by
    obtain ⟨v, h1, h2⟩ := RpA.getV (i := i) a (by simpa using e)
    exact ⟨v, by simpa using h1, h2⟩
theorem RpA.take : ∀ {vs : List V} {ds : List D} (n : Nat), RpA K F vs ds → RpA K F (vs.take n) (ds.take n)
  | _, _, 0, _ => .nil
  | _, _, _ + 1, .nil => .nil
  | _, _, n + 1, .cons h a => .cons h (RpA.take n a)
theorem RpA.drop : ∀ {vs : List V} {ds : List D} (n : Nat), RpA K F vs ds → RpA K F (vs.drop n) (ds.drop n)
  | _, _, 0, a => a
  | _, _, _ + 1, .nil => .nil
  | _, _, n + 1, .cons _ a => RpA.drop n a
theorem RpA.set {v : V} {d : D} (h : Rp K F v d) : ∀ {vs : List V} {ds : List D} (i : Nat), RpA K F vs ds → RpA K F (vs.set i v) (ds.set i d)
  | _, _, _, .nil => .nil
  | _, _, 0, .cons _ a => .cons h a
  | _, _, i + 1, .cons g a => .cons g (RpA.set h i a)
theorem RpA.dropLast : ∀ {vs : List V} {ds : List D}, RpA K F vs ds → RpA K F vs.dropLast ds.dropLast
  | _, _, .nil => .nil
  | _, _, .cons _ .nil => .nil
  | _, _, .cons h (.cons g a) => .cons h (RpA.dropLast (.cons g a))
theorem RpA.reverse {vs : List V} {ds : List D} (h : RpA K F vs ds) : RpA K F vs.reverse ds.reverse := by
  induction vs generalizing ds with
  | nil => cases h; exact .nil
  | cons v vs ih =>
    cases h with
    | cons h a =>
      rw [List.reverse_cons, List.reverse_cons]
      exact (ih a).append (.cons h .nil)
theorem RpA.rep {vs : List V} {ds : List D} (h : RpA K F vs ds) : ∀ k : Nat, RpA K F (List.replicate k vs).flatten (List.replicate k ds).flatten
  | 0 => .nil
  | k + 1 => by
    rw [List.replicate_succ, List.replicate_succ, List.flatten_cons, List.flatten_cons]
    exact h.append (h.rep k)
end

/-- what stands still holds its dicts as they lie (so that they can be walked) -/
def NF (F : Hp) : Prop := ∀ a kvs, F a ≠ some (.dK kvs)
theorem NF.upd {F : Hp} {p : Addr} {o : HO} (n : NF F) (ho : ∀ kvs, o ≠ .dK kvs) : NF (upd F p o) := fun a kvs => by
  by_cases h : a = p
  · rw [h, upd_same]; exact fun z => ho kvs (Option.some.inj z)
  · rw [upd_ne h]; exact n a kvs
/-- F: what stands still; H: all that is tracked -/
structure Ext (F H F' H' : Hp) : Prop where
  f : Ex F F'
  h : Ex H H'
  o : ∀ a, F a = none → H a ≠ none → F' a = none
  s : Ex F' H'
  n : NF F → NF F'
theorem Ext.refl {F H : Hp} (s : Ex F H) : Ext F H F H := ⟨Ex.refl F, Ex.refl H, fun _ h _ => h, s, id⟩
theorem Ext.trans {F H F1 H1 F2 H2 : Hp} (a : Ext F H F1 H1) (b : Ext F1 H1 F2 H2) : Ext F H F2 H2 :=
  ⟨a.f.trans b.f, a.h.trans b.h, fun x h n => b.o x (a.o x h n) (by
    cases e : H x with
    | none => exact absurd e n
    | some u => rw [a.h x u e]; exact fun q => nomatch q), b.s, fun z => b.n (a.n z)⟩
theorem none_of_ex {F H : Hp} {p : Addr} (s : Ex F H) (h : H p = none) : F p = none := fresh_back s h
/-- a new object that stands still from now on -/
theorem Ext.new {F H : Hp} {p : Addr} {o : HO} (s : Ex F H) (h : H p = none) (ho : ∀ kvs, o ≠ .dK kvs := by exact fun _ h => nomatch h) : Ext F H (upd F p o) (upd H p o) :=
  ⟨Ex.new (none_of_ex s h), Ex.new h, fun a h1 h2 => by
    rw [upd_ne (fun e => h2 (by rw [e]; exact h))]; exact h1, fun a u e => by
    by_cases q : a = p
    · subst q; rw [upd_same] at e ⊢; exact e
    · rw [upd_ne q] at e ⊢; exact s a u e, fun n => n.upd ho⟩
/-- a new object that may change yet -/
theorem Ext.newO {F H : Hp} {p : Addr} {o : HO} (s : Ex F H) (h : H p = none) : Ext F H F (upd H p o) :=
  ⟨Ex.refl F, Ex.new h, fun a h1 _ => h1, fun a u e => (Ex.new h) a u (s a u e), id⟩

def OwnAt (K : Frag) (F H : Hp) (a : Addr) (d : D) : Prop :=
  (∃ vs ds, d = .list ds ∧ H a = some (.lst vs) ∧ RpA K F vs ds) ∨ (∃ kvs ds, d = .dict ds ∧ H a = some (.dK kvs) ∧ RpK K F kvs ds)
def Rb (K : Frag) (F H : Hp) (v : V) (d : D) : Prop := Rp K F v d ∨ ∃ a, v = .ref a ∧ OwnAt K F H a d
theorem OwnAt.mono {K : Frag} {F H F' H' : Hp} {a : Addr} {d : D} (f : Ex F F') (h : Ex H H') (o : OwnAt K F H a d) : OwnAt K F' H' a d := by
  rcases o with ⟨vs, ds, e, g, r⟩ | ⟨vs, ds, e, g, r⟩
  · exact .inl ⟨vs, ds, e, h _ _ g, r.mono f⟩
  · exact .inr ⟨vs, ds, e, h _ _ g, r.mono f⟩
theorem Rb.mono {K : Frag} {F H F' H' : Hp} {v : V} {d : D} (e : Ext F H F' H') (r : Rb K F H v d) : Rb K F' H' v d := by
  rcases r with r | ⟨a, rfl, o⟩
  · exact .inl (r.mono e.f)
  · exact .inr ⟨a, rfl, o.mono e.f e.h⟩
/-- what is borrowed, over the whole heap -/
theorem Rb.whole {K : Frag} {F H : Hp} {v : V} {d : D} (s : Ex F H) (r : Rb K F H v d) : Rp K H v d := by
  rcases r with r | ⟨a, rfl, ⟨vs, ds, rfl, g, r⟩ | ⟨vs, ds, rfl, g, r⟩⟩
  · exact r.mono s
  · exact .lst (Evl.sq_of g) (r.mono s)
  · exact .dct (.inl g) (r.mono s)
theorem Rb.list {K : Frag} {F H : Hp} {v : V} {ds : List D} (s : Ex F H) (r : Rb K F H v (.list ds)) : ∃ a vs, v = .ref a ∧ SqL K H a vs ∧ RpA K F vs ds := by
  rcases r with r | ⟨a, rfl, ⟨vs, ds', e, g, r⟩ | ⟨vs, ds', e, g, r⟩⟩
  · cases r with
    | lst h a => exact ⟨_, _, rfl, ex_l s h, a⟩
  · cases e; exact ⟨a, vs, rfl, Evl.sq_of g, r⟩
  · cases e
theorem Rb.tuple {K : Frag} {F H : Hp} {v : V} {ds : List D} (s : Ex F H) (r : Rb K F H v (.tuple ds)) : ∃ a vs, v = .ref a ∧ SqT K H a vs ∧ RpA K F vs ds ∧ Rp K F v (.tuple ds) := by
  rcases r with r | ⟨a, rfl, ⟨vs, ds', e, g, r⟩ | ⟨vs, ds', e, g, r⟩⟩
  · have r' := r
    cases r with
    | tup h a => exact ⟨_, _, rfl, ex_t s h, a, r'⟩
  · cases e
  · cases e
theorem Rb.int {K : Frag} {F H : Hp} {v : V} {i : Int} (r : Rb K F H v (.int i)) : v = .int i := by
  rcases r with r | ⟨a, rfl, ⟨vs, ds', e, g, r⟩ | ⟨vs, ds', e, g, r⟩⟩
  · cases r; rfl
  · cases e
  · cases e
theorem Rb.bool {K : Frag} {F H : Hp} {v : V} {i : Bool} (r : Rb K F H v (.bool i)) : v = .bl i := by
  rcases r with r | ⟨a, rfl, ⟨vs, ds', e, g, r⟩ | ⟨vs, ds', e, g, r⟩⟩
  · cases r; rfl
  · cases e
  · cases e
theorem Rb.str {K : Frag} {F H : Hp} {v : V} {i : Str} (r : Rb K F H v (.str i)) : v = .str i ∧ OkS i := by
  rcases r with r | ⟨a, rfl, ⟨vs, ds', e, g, r⟩ | ⟨vs, ds', e, g, r⟩⟩
  · cases r with
    | str x h => exact ⟨rfl, h⟩
  · cases e
  · cases e
theorem Rb.non {K : Frag} {F H : Hp} {v : V} (r : Rb K F H v .none) : v = .non := by
  rcases r with r | ⟨a, rfl, ⟨vs, ds', e, g, r⟩ | ⟨vs, ds', e, g, r⟩⟩
  · cases r; rfl
  · cases e
  · cases e

/-- a caught exception's fields, as data -/
def xD (l : List (Str × D)) : D := .dict (l.map fun p => (.str p.1, p.2))
inductive Kd where
  | im | ow | bw | od | op | ol | mx
  | xn (a : Addr) (dd : Option Addr)
  | pw (a : Addr)
  deriving DecidableEq
def Kd.plain : Kd → Bool
  | .od => false
  | .op => false
  | .ol => false
  | .xn _ _ => false
  | _ => true
def XnOk (K : Frag) (F : Hp) (dd : Option Addr) (l : List (Str × D)) : Prop :=
  match dd with
  | none => l = []
  | some q => ∃ fs, F q = some (.xd fs) ∧ ∀ f e, l.lookup f = some e → ∃ v, fs.lookup f = some v ∧ Rp K F v e
theorem XnOk.mono {K : Frag} {F F' : Hp} {dd : Option Addr} {l : List (Str × D)} (e : Ex F F') (h : XnOk K F dd l) : XnOk K F' dd l := by
  cases dd with
  | none => exact h
  | some q =>
    obtain ⟨fs, h1, h2⟩ := h
    exact ⟨fs, e _ _ h1, fun f d hl => by
      obtain ⟨v, hv, r⟩ := h2 f d hl
      exact ⟨v, hv, r.mono e⟩⟩
/-- the entries of a dict whose values are lists of its own -/
inductive OdK (K : Frag) (H0 F H : Hp) : List (Key × V) → List (D × D) → Prop
  | nil : OdK K H0 F H [] []
  | cons {q : Key} {b : Addr} {vs : List V} {xs : List D} {kvs : List (Key × V)} {ds : List (D × D)} : KeyOk q → H0 b = none → F b = none → H b = some (.lst vs) → RpA K F vs xs → OdK K H0 F H kvs ds → OdK K H0 F H ((q, .ref b) :: kvs) ((keyD q, .list xs) :: ds)
theorem some_ne {H : Hp} {a : Addr} {o : HO} (h : H a = some o) : H a ≠ none := fun z => by rw [h] at z; cases z
theorem OdK.mono {K : Frag} {H0 F H F' H' : Hp} (f : Ex F F') (hk : ∀ b, F b = none → H b ≠ none → F' b = none) : ∀ {kvs : List (Key × V)} {ds : List (D × D)}, (∀ q b, (q, V.ref b) ∈ kvs → ∀ o, H b = some o → H' b = some o) → OdK K H0 F H kvs ds → OdK K H0 F' H' kvs ds
  | _, _, _, .nil => .nil
  | _, _, hh, .cons ko h1 h2 h3 h4 h5 => .cons ko h1 (hk _ h2 (some_ne h3)) (hh _ _ List.mem_cons_self _ h3) (h4.mono f) (OdK.mono f hk (fun q b hb => hh q b (by simp [hb])) h5)
theorem OdK.mem {K : Frag} {H0 F H : Hp} : ∀ {kvs : List (Key × V)} {ds : List (D × D)}, OdK K H0 F H kvs ds → ∀ {q : Key} {b : Addr}, (q, V.ref b) ∈ kvs → H0 b = none ∧ F b = none ∧ ∃ vs, H b = some (.lst vs)
  | _, _, .nil, _, _, h => by simp at h
  | _, _, .cons _ h1 h2 h3 h4 h5, q, b, h => by
    rcases List.mem_cons.mp h with h | h
    · have e : b = _ := V.ref.inj (Prod.mk.inj h).2
      subst e
      exact ⟨h1, h2, _, h3⟩
    · exact h5.mem h
/-- the entries of a list of pairs, each with a list of its own behind: the pairs stand still, the lists bs are owned -/
inductive OpK (K : Frag) (H0 F H : Hp) : List Addr → List V → List D → Prop
  | nil : OpK K H0 F H [] [] []
  | cons {t b : Addr} {v : V} {vs : List V} {d : D} {xs : List D} {bs : List Addr} {ws : List V} {ds : List D} : F t = some (.tup [v, .ref b]) → H t = some (.tup [v, .ref b]) → Rp K F v d → H0 b = none → F b = none → H b = some (.lst vs) → RpA K F vs xs → OpK K H0 F H bs ws ds → OpK K H0 F H (b :: bs) (.ref t :: ws) (.tuple [d, .list xs] :: ds)
theorem OpK.mem {K : Frag} {H0 F H : Hp} : ∀ {bs : List Addr} {ws : List V} {ds : List D}, OpK K H0 F H bs ws ds → ∀ {t b : Addr} {x : V}, V.ref t ∈ ws → H t = some (.tup [x, .ref b]) → b ∈ bs
  | _, _, _, .nil, _, _, _, h, _ => by simp at h
  | _, _, _, .cons f1 h1 r h2 h3 h4 h5 h6, t, b, x, h, e => by
    rcases List.mem_cons.mp h with h | h
    · have et : t = _ := V.ref.inj h
      subst et
      rw [h1] at e
      have := HO.tup.inj (Option.some.inj e)
      simp only [List.cons.injEq, V.ref.injEq, and_true] at this
      rw [this.2]; exact List.mem_cons_self
    · exact List.mem_cons_of_mem _ (h6.mem h e)
theorem OpK.at {K : Frag} {H0 F H : Hp} : ∀ {bs : List Addr} {ws : List V} {ds : List D}, OpK K H0 F H bs ws ds → ∀ {b : Addr}, b ∈ bs → (H0 b = none ∧ F b = none ∧ ∃ vs, H b = some (.lst vs)) ∧ ∃ t x, V.ref t ∈ ws ∧ H t = some (.tup [x, .ref b])
  | _, _, _, .nil, _, h => by simp at h
  | _, _, _, .cons f1 h1 r h2 h3 h4 h5 h6, b, h => by
    rcases List.mem_cons.mp h with h | h
    · subst h; exact ⟨⟨h2, h3, _, h4⟩, _, _, List.mem_cons_self, h1⟩
    · obtain ⟨g, t, x, m, e⟩ := h6.at h
      exact ⟨g, t, x, List.mem_cons_of_mem _ m, e⟩
theorem OpK.tupF {K : Frag} {H0 F H : Hp} : ∀ {bs : List Addr} {ws : List V} {ds : List D}, OpK K H0 F H bs ws ds → ∀ {t : Addr}, V.ref t ∈ ws → ∃ x b, F t = some (.tup [x, .ref b]) ∧ H t = some (.tup [x, .ref b])
  | _, _, _, .nil, _, h => by simp at h
  | _, _, _, .cons f1 h1 r h2 h3 h4 h5 h6, t, h => by
    rcases List.mem_cons.mp h with h | h
    · have et : t = _ := V.ref.inj h
      subst et
      exact ⟨_, _, f1, h1⟩
    · exact h6.tupF h
theorem OpK.mono {K : Frag} {H0 F H F' H' : Hp} (f : Ex F F') (s : ∀ a o, F a = some o → H' a = some o) : ∀ {bs : List Addr} {ws : List V} {ds : List D}, (∀ b ∈ bs, F' b = none) → (∀ b ∈ bs, ∀ o, H b = some o → H' b = some o) → OpK K H0 F H bs ws ds → OpK K H0 F' H' bs ws ds
  | _, _, _, _, _, .nil => .nil
  | _, _, _, hF, ho, .cons f1 h1 r h2 h3 h4 h5 h6 => .cons (f _ _ f1) (s _ _ f1) (r.mono f) h2 (hF _ List.mem_cons_self) (ho _ List.mem_cons_self _ h4) (h5.mono f) (h6.mono f s (fun b hb => hF b (List.mem_cons_of_mem _ hb)) fun b hb => ho b (List.mem_cons_of_mem _ hb))
theorem OpK.still {K : Frag} {H0 F H F' : Hp} (f : Ex F F') : ∀ {bs : List Addr} {ws : List V} {ds : List D}, (∀ b ∈ bs, F' b = H b) → OpK K H0 F H bs ws ds → RpA K F' ws ds
  | _, _, _, _, .nil => .nil
  | _, _, _, hh, .cons f1 h1 r h2 h3 h4 h5 h6 => .cons (.tup (Evl.st_of (f _ _ f1)) (.cons (r.mono f) (.cons (.lst (Evl.sq_of ((hh _ List.mem_cons_self).trans h4)) (h5.mono f)) .nil))) (h6.still f fun b hb => hh b (List.mem_cons_of_mem _ hb))
theorem OpK.len {K : Frag} {H0 F H : Hp} : ∀ {bs : List Addr} {ws : List V} {ds : List D}, OpK K H0 F H bs ws ds → ws.length = ds.length
  | _, _, _, .nil => rfl
  | _, _, _, .cons f1 h1 r h2 h3 h4 h5 h6 => by rw [List.length_cons, List.length_cons, h6.len]
/-- the entries of a list of lists, each of which it owns -/
inductive OlK (K : Frag) (H0 F H : Hp) : List Addr → List D → Prop
  | nil : OlK K H0 F H [] []
  | cons {b : Addr} {vs : List V} {xs : List D} {bs : List Addr} {ds : List D} : H0 b = none → F b = none → H b = some (.lst vs) → RpA K F vs xs → OlK K H0 F H bs ds → OlK K H0 F H (b :: bs) (.list xs :: ds)
theorem OlK.mem {K : Frag} {H0 F H : Hp} : ∀ {bs : List Addr} {ds : List D}, OlK K H0 F H bs ds → ∀ {b : Addr}, b ∈ bs → H0 b = none ∧ F b = none ∧ ∃ vs, H b = some (.lst vs)
  | _, _, .nil, _, h => by simp at h
  | _, _, .cons h1 h2 h3 h4 h5, b, h => by
    rcases List.mem_cons.mp h with h | h
    · subst h; exact ⟨h1, h2, _, h3⟩
    · exact h5.mem h
theorem OlK.mono {K : Frag} {H0 F H F' H' : Hp} (f : Ex F F') : ∀ {bs : List Addr} {ds : List D}, (∀ b ∈ bs, F' b = none) → (∀ b ∈ bs, ∀ o, H b = some o → H' b = some o) → OlK K H0 F H bs ds → OlK K H0 F' H' bs ds
  | _, _, _, _, .nil => .nil
  | _, _, hF, ho, .cons h1 h2 h3 h4 h5 => .cons h1 (hF _ List.mem_cons_self) (ho _ List.mem_cons_self _ h3) (h4.mono f) (h5.mono f (fun b hb => hF b (List.mem_cons_of_mem _ hb)) fun b hb => ho b (List.mem_cons_of_mem _ hb))
theorem OlK.still {K : Frag} {H0 F H F' : Hp} (f : Ex F F') : ∀ {bs : List Addr} {ds : List D}, (∀ b ∈ bs, F' b = H b) → OlK K H0 F H bs ds → RpA K F' (bs.map V.ref) ds
  | _, _, _, .nil => .nil
  | _, _, hh, .cons h1 h2 h3 h4 h5 => .cons (.lst (Evl.sq_of ((hh _ List.mem_cons_self).trans h3)) (h4.mono f)) (h5.still f fun b hb => hh b (List.mem_cons_of_mem _ hb))
theorem OlK.len {K : Frag} {H0 F H : Hp} : ∀ {bs : List Addr} {ds : List D}, OlK K H0 F H bs ds → bs.length = ds.length
  | _, _, .nil => rfl
  | _, _, .cons h1 h2 h3 h4 h5 => by rw [List.length_cons, List.length_cons, h5.len]
theorem ref_mem {bs : List Addr} {b : Addr} (h : V.ref b ∈ bs.map V.ref) : b ∈ bs := by
  obtain ⟨c, hc, e⟩ := List.mem_map.mp h
  cases e; exact hc
/-- what is no object of its own -/
def litD : D → Bool
  | .none => true
  | .bool _ => true
  | .int _ => true
  | .str _ => true
  | _ => false
theorem lit_ref {K : Frag} {F : Hp} {a : Addr} {d : D} (h : litD d = true) (r : Rp K F (.ref a) d) : False := by
  cases r <;> cases h
def SlotOk (K : Frag) (k : Kd) (H0 F H : Hp) (v : V) (d : D) : Prop :=
  match k with
  | .im => Rp K F v d
  | .bw => Rp K F v d ∨ ∃ a, v = .ref a ∧ H0 a ≠ none ∧ OwnAt K F H a d
  | .ow => ∃ a, v = .ref a ∧ H0 a = none ∧ F a = none ∧ OwnAt K F H a d
  | .od => ∃ a kvs ds, v = .ref a ∧ H0 a = none ∧ F a = none ∧ d = .dict ds ∧ H a = some (.dK kvs) ∧ OdK K H0 F H kvs ds ∧ (kvs.map (·.2)).Nodup ∧ (kvs.map (·.1)).Nodup
  | .op => ∃ a bs ws ds, v = .ref a ∧ H0 a = none ∧ F a = none ∧ d = .list ds ∧ H a = some (.lst ws) ∧ OpK K H0 F H bs ws ds ∧ bs.Nodup ∧ a ∉ bs
  | .ol => ∃ a bs ds, v = .ref a ∧ H0 a = none ∧ F a = none ∧ d = .list ds ∧ H a = some (.lst (bs.map V.ref)) ∧ OlK K H0 F H bs ds ∧ bs.Nodup ∧ a ∉ bs
  | .xn a dd => v = .ref a ∧ ∃ l, d = xD l ∧ XnOk K F dd l
  | .pw a => v = .ref a ∧ H0 a = none ∧ F a = none ∧ OwnAt K F H a d
  | .mx => (∃ a, v = .ref a ∧ H0 a = none ∧ F a = none ∧ OwnAt K F H a d) ∨ (litD d = true ∧ Rp K F v d)

def Owns (k : Kd) (H : Hp) (v : V) (b : Addr) : Prop :=
  match k with
  | .ow => v = .ref b
  | .mx => v = .ref b
  | .pw _ => v = .ref b
  | .od => v = .ref b ∨ ∃ a kvs q, v = .ref a ∧ H a = some (.dK kvs) ∧ (q, V.ref b) ∈ kvs
  | .op => v = .ref b ∨ ∃ a ws t x, v = .ref a ∧ H a = some (.lst ws) ∧ V.ref t ∈ ws ∧ H t = some (.tup [x, .ref b])
  | .ol => v = .ref b ∨ ∃ a ws, v = .ref a ∧ H a = some (.lst ws) ∧ V.ref b ∈ ws
  | _ => False
def Kd.owned : Kd → Bool
  | .ow => true
  | .mx => true
  | .op => true
  | .ol => true
  | .od => true
  | .pw _ => true
  | _ => false
/-- what may come to rest -/
def Kd.frz : Kd → Bool
  | .mx => false
  | k => k.owned
/-- changed in place, by the name alone -/
def Kd.mutb : Kd → Bool
  | .ow => true
  | .pw _ => true
  | _ => false
theorem owns_owned {k : Kd} {H : Hp} {v : V} {b : Addr} (h : Owns k H v b) : k.owned = true := by
  cases k <;> first | rfl | exact h.elim
theorem own_some {K : Frag} {F H : Hp} {a : Addr} {d : D} (o : OwnAt K F H a d) : H a ≠ none := by
  rcases o with ⟨_, _, _, g, _⟩ | ⟨_, _, _, g, _⟩ <;> exact some_ne g
theorem SlotOk.owned {K : Frag} {k : Kd} {H0 F H : Hp} {v : V} {d : D} {b : Addr} (h : SlotOk K k H0 F H v d) (o : Owns k H v b) : H0 b = none ∧ F b = none ∧ H b ≠ none := by
  cases k with
  | ow =>
    obtain ⟨a, e, h0, f0, oa⟩ := h
    have e2 : v = .ref b := o
    rw [e] at e2
    cases e2
    exact ⟨h0, f0, own_some oa⟩
  | mx =>
    have e2 : v = .ref b := o
    rcases h with ⟨a, e, h0, f0, oa⟩ | ⟨hl, r⟩
    · rw [e] at e2
      cases e2
      exact ⟨h0, f0, own_some oa⟩
    · rw [e2] at r
      exact (lit_ref hl r).elim
  | pw a =>
    obtain ⟨e, h0, f0, oa⟩ := h
    have e2 : v = .ref b := o
    rw [e] at e2
    cases e2
    exact ⟨h0, f0, own_some oa⟩
  | od =>
    obtain ⟨a, kvs, ds, e, h0, f0, _, hH, ok, _⟩ := h
    rcases (show v = .ref b ∨ ∃ a kvs q, v = .ref a ∧ H a = some (.dK kvs) ∧ (q, V.ref b) ∈ kvs from o) with e2 | ⟨a', kvs', q, e2, h2, h3⟩
    · rw [e] at e2
      cases e2
      exact ⟨h0, f0, some_ne hH⟩
    · rw [e] at e2
      cases e2
      rw [hH] at h2
      cases h2
      obtain ⟨x1, x2, vs, x3⟩ := ok.mem h3
      exact ⟨x1, x2, some_ne x3⟩
  | op =>
    obtain ⟨a, bs, ws, ds, e, h0, f0, _, hH, ok, _⟩ := h
    rcases (show v = .ref b ∨ ∃ a ws t x, v = .ref a ∧ H a = some (.lst ws) ∧ V.ref t ∈ ws ∧ H t = some (.tup [x, .ref b]) from o) with e2 | ⟨a', ws', t, x, e2, h2, h3, h4⟩
    · rw [e] at e2
      cases e2
      exact ⟨h0, f0, some_ne hH⟩
    · rw [e] at e2
      cases e2
      rw [hH] at h2
      cases h2
      obtain ⟨⟨x1, x2, vs, x3⟩, _⟩ := ok.at (ok.mem h3 h4)
      exact ⟨x1, x2, some_ne x3⟩
  | ol =>
    obtain ⟨a, bs, ds, e, h0, f0, _, hH, ok, _⟩ := h
    rcases (show v = .ref b ∨ ∃ a ws, v = .ref a ∧ H a = some (.lst ws) ∧ V.ref b ∈ ws from o) with e2 | ⟨a', ws', e2, h2, h3⟩
    · rw [e] at e2
      cases e2
      exact ⟨h0, f0, some_ne hH⟩
    · rw [e] at e2
      cases e2
      rw [hH] at h2
      cases h2
      obtain ⟨x1, x2, vs, x3⟩ := ok.mem (ref_mem h3)
      exact ⟨x1, x2, some_ne x3⟩
  | _ => exact o.elim
/-- what it owns over another heap, where its own objects have stayed -/
theorem Owns.back {K : Frag} {k : Kd} {H0 F H H' : Hp} {v : V} {d : D} {b : Addr} (h : SlotOk K k H0 F H v d) (keep : ∀ a, v = .ref a → ∀ o, H a = some o → H' a = some o) (kf : ∀ a o, F a = some o → H' a = some o) (o : Owns k H' v b) : Owns k H v b := by
  cases k with
  | od =>
    obtain ⟨a, kvs, ds, e, h0, f0, _, hH, ok, _⟩ := h
    rcases (show v = .ref b ∨ ∃ a kvs q, v = .ref a ∧ H' a = some (.dK kvs) ∧ (q, V.ref b) ∈ kvs from o) with e2 | ⟨a', kvs', q, e2, h2, h3⟩
    · exact .inl e2
    · rw [e] at e2
      cases e2
      rw [keep _ e _ hH] at h2
      cases h2
      exact .inr ⟨_, _, _, e, hH, h3⟩
  | op =>
    obtain ⟨a, bs, ws, ds, e, h0, f0, _, hH, ok, _⟩ := h
    rcases (show v = .ref b ∨ ∃ a ws t x, v = .ref a ∧ H' a = some (.lst ws) ∧ V.ref t ∈ ws ∧ H' t = some (.tup [x, .ref b]) from o) with e2 | ⟨a', ws', t, x, e2, h2, h3, h4⟩
    · exact .inl e2
    · rw [e] at e2
      cases e2
      rw [keep _ e _ hH] at h2
      cases h2
      obtain ⟨x2, b2, g1, g2⟩ := ok.tupF h3
      rw [kf _ _ g1] at h4
      exact .inr ⟨_, _, t, x, e, hH, h3, g2.trans h4⟩
  | ol =>
    obtain ⟨a, bs, ds, e, h0, f0, _, hH, ok, _⟩ := h
    rcases (show v = .ref b ∨ ∃ a ws, v = .ref a ∧ H' a = some (.lst ws) ∧ V.ref b ∈ ws from o) with e2 | ⟨a', ws', e2, h2, h3⟩
    · exact .inl e2
    · rw [e] at e2
      cases e2
      rw [keep _ e _ hH] at h2
      cases h2
      exact .inr ⟨_, _, e, hH, h3⟩
  | _ => exact o
theorem OwnAt.keep {K : Frag} {F H F' H' : Hp} {a : Addr} {d : D} (f : Ex F F') (h : ∀ o, H a = some o → H' a = some o) (o : OwnAt K F H a d) : OwnAt K F' H' a d := by
  rcases o with ⟨vs, ds, e, g, r⟩ | ⟨vs, ds, e, g, r⟩
  · exact .inl ⟨vs, ds, e, h _ g, r.mono f⟩
  · exact .inr ⟨vs, ds, e, h _ g, r.mono f⟩
/-- a slot stands on, where what it owns and what it borrows has stayed -/
theorem SlotOk.keep {K : Frag} {k : Kd} {H0 F H F' H' : Hp} {v : V} {d : D} (f : Ex F F') (hF : ∀ b, Owns k H v b → F' b = none) (hb : ∀ b o, H0 b ≠ none → H b = some o → H' b = some o) (ho : ∀ b, Owns k H v b → ∀ o, H b = some o → H' b = some o) (kf : ∀ a o, F a = some o → H' a = some o) (h : SlotOk K k H0 F H v d) : SlotOk K k H0 F' H' v d := by
  cases k with
  | im => exact Rp.mono f h
  | bw =>
    rcases h with h | ⟨a, e1, h0, o⟩
    · exact .inl (h.mono f)
    · exact .inr ⟨a, e1, h0, o.keep f fun u => hb a u h0⟩
  | ow =>
    obtain ⟨a, e1, h0, f0, o⟩ := h
    exact ⟨a, e1, h0, hF a e1, o.keep f (ho a e1)⟩
  | mx =>
    rcases h with ⟨a, e1, h0, f0, o⟩ | ⟨hl, r⟩
    · exact .inl ⟨a, e1, h0, hF a e1, o.keep f (ho a e1)⟩
    · exact .inr ⟨hl, r.mono f⟩
  | pw a =>
    obtain ⟨e1, h0, f0, o⟩ := h
    exact ⟨e1, h0, hF a e1, o.keep f (ho a e1)⟩
  | od =>
    obtain ⟨a, kvs, ds, e1, h0, f0, e2, hH, ok, nd⟩ := h
    have own : ∀ q b, (q, V.ref b) ∈ kvs → Owns .od H v b := fun q b hb => .inr ⟨a, kvs, q, e1, hH, hb⟩
    refine ⟨a, kvs, ds, e1, h0, hF a (.inl e1), e2, ho a (.inl e1) _ hH, ?_, nd⟩
    have key : ∀ {kvs : List (Key × V)} {ds : List (D × D)}, (∀ q b, (q, V.ref b) ∈ kvs → Owns .od H v b) → OdK K H0 F H kvs ds → OdK K H0 F' H' kvs ds := fun {kvs ds} hown hk => by
      induction hk with
      | nil => exact .nil
      | @cons q b vs xs kvs ds ko h1 h2 h3 h4 _ ih =>
        have ob := hown q b (by simp)
        exact .cons ko h1 (hF b ob) (ho b ob _ h3) (h4.mono f) (ih fun q b hb => hown q b (by simp [hb]))
    exact key own ok
  | op =>
    obtain ⟨a, bs, ws, ds, e1, h0, f0, e2, hH, ok, nd, na⟩ := h
    have own : ∀ b ∈ bs, Owns .op H v b := fun b hb => by
      obtain ⟨_, t, x, m, g⟩ := ok.at hb
      exact .inr ⟨a, ws, t, x, e1, hH, m, g⟩
    exact ⟨a, bs, ws, ds, e1, h0, hF a (.inl e1), e2, ho a (.inl e1) _ hH, ok.mono f kf (fun b hb => hF b (own b hb)) (fun b hb => ho b (own b hb)), nd, na⟩
  | ol =>
    obtain ⟨a, bs, ds, e1, h0, f0, e2, hH, ok, nd, na⟩ := h
    have own : ∀ b ∈ bs, Owns .ol H v b := fun b hb => .inr ⟨a, _, e1, hH, List.mem_map.mpr ⟨b, hb, rfl⟩⟩
    exact ⟨a, bs, ds, e1, h0, hF a (.inl e1), e2, ho a (.inl e1) _ hH, ok.mono f (fun b hb => hF b (own b hb)) (fun b hb => ho b (own b hb)), nd, na⟩
  | xn a dd =>
    obtain ⟨e1, l, e2, h⟩ := h
    exact ⟨e1, l, e2, h.mono f⟩
theorem SlotOk.mono {K : Frag} {k : Kd} {H0 F H F' H' : Hp} {v : V} {d : D} (e : Ext F H F' H') (h : SlotOk K k H0 F H v d) : SlotOk K k H0 F' H' v d :=
  h.keep e.f (fun b o => by
    obtain ⟨_, h2, h3⟩ := h.owned o
    exact e.o b h2 h3) (fun b o _ q => e.h b o q) (fun b _ o q => e.h b o q) fun a o q => e.s a o (e.f a o q)
theorem OdK.rpk {K : Frag} {H0 F H : Hp} (s : Ex F H) : ∀ {kvs : List (Key × V)} {ds : List (D × D)}, OdK K H0 F H kvs ds → RpK K H kvs ds
  | _, _, .nil => .nil
  | _, _, .cons ko h1 h2 h3 h4 h5 => .cons ko (.lst (Evl.sq_of h3) (h4.mono s)) (OdK.rpk s h5)
theorem SlotOk.rb {K : Frag} {k : Kd} {H0 F H : Hp} {v : V} {d : D} (h : SlotOk K k H0 F H v d) (hp : k.plain = true) : Rb K F H v d := by
  cases k with
  | xn a dd => cases hp
  | od => cases hp
  | op => cases hp
  | ol => cases hp
  | im => exact .inl h
  | bw =>
    rcases h with h | ⟨a, e1, h0, o⟩
    · exact .inl h
    · exact .inr ⟨a, e1, o⟩
  | ow =>
    obtain ⟨a, e1, h0, f0, o⟩ := h
    exact .inr ⟨a, e1, o⟩
  | mx =>
    rcases h with ⟨a, e1, h0, f0, o⟩ | ⟨hl, r⟩
    · exact .inr ⟨a, e1, o⟩
    · exact .inl r
  | pw a =>
    obtain ⟨e1, h0, f0, o⟩ := h
    exact .inr ⟨a, e1, o⟩
theorem SlotOk.mutb {K : Frag} {k : Kd} {H0 F H : Hp} {v : V} {d : D} (hk : k.mutb = true) (h : SlotOk K k H0 F H v d) : ∃ a, v = .ref a ∧ H0 a = none ∧ F a = none ∧ OwnAt K F H a d ∧ ∀ F' H' d', F' a = none → OwnAt K F' H' a d' → SlotOk K k H0 F' H' v d' := by
  cases k with
  | ow =>
    obtain ⟨a, e, h0, f0, o⟩ := h
    exact ⟨a, e, h0, f0, o, fun F' H' d' f o' => ⟨a, e, h0, f, o'⟩⟩
  | pw a =>
    obtain ⟨e, h0, f0, o⟩ := h
    exact ⟨a, e, h0, f0, o, fun F' H' d' f o' => ⟨e, h0, f, o'⟩⟩
  | _ => cases hk
theorem mutb_owns {k : Kd} {H : Hp} {v : V} {b : Addr} (hk : k.mutb = true) : Owns k H v b ↔ v = .ref b := by
  cases k with
  | ow => exact Iff.rfl
  | pw a => exact Iff.rfl
  | _ => cases hk
structure Stt (K : Frag) (κ : Nat → Kd) (F0 H0 F H : Hp) (σ : L2.St) (ρ : Env) : Prop where
  ex0 : Ex F0 F
  h0 : Ex H0 H
  o0 : ∀ a, F0 a = none → H0 a ≠ none → F a = none
  sub : Ex F H
  nf : NF F
  len : σ.length = ρ.length
  slot : ∀ i d, ρ[i]? = some (some d) → ∃ v, σ[i]? = some (some v) ∧ SlotOk K (κ i) H0 F H v d
  sep : ∀ i j b di dj u w, i ≠ j → ρ[i]? = some (some di) → ρ[j]? = some (some dj) → σ[i]? = some (some u) → σ[j]? = some (some w) → Owns (κ i) H u b → Owns (κ j) H w b → False
section
variable {K : Frag} {κ : Nat → Kd} {F0 H0 F H F' H' : Hp} {σ : L2.St} {ρ : Env}
theorem Stt.ext (S : Stt K κ F0 H0 F H σ ρ) : Ext F0 H0 F H := ⟨S.ex0, S.h0, S.o0, S.sub, fun _ => S.nf⟩
theorem Stt.slotAt (S : Stt K κ F0 H0 F H σ ρ) {i : Nat} {d : D} {v : V} (h : ρ[i]? = some (some d)) (e : σ[i]? = some (some v)) : SlotOk K (κ i) H0 F H v d := by
  obtain ⟨v', h1, h2⟩ := S.slot i d h
  rw [e] at h1
  cases h1
  exact h2
theorem Stt.mono (S : Stt K κ F0 H0 F H σ ρ) (e : Ext F H F' H') : Stt K κ F0 H0 F' H' σ ρ :=
  have x := S.ext.trans e
  ⟨x.f, x.h, x.o, x.s, e.n S.nf, S.len, fun i d h => by
    obtain ⟨v, h1, h2⟩ := S.slot i d h
    exact ⟨v, h1, h2.mono e⟩, fun i j b di dj u w n hi hj eu ew ou ow => S.sep i j b di dj u w n hi hj eu ew
      (Owns.back (S.slotAt hi eu) (fun a _ o q => e.h a o q) (fun a o q => e.s a o (e.f a o q)) ou) (Owns.back (S.slotAt hj ew) (fun a _ o q => e.h a o q) (fun a o q => e.s a o (e.f a o q)) ow)⟩
/-- a slot is stored that stands still -/
theorem Stt.set (S : Stt K κ F0 H0 F H σ ρ) {i : Nat} {v : V} {d : D} (hk : κ i = .im) (r : Rp K F v d) : Stt K κ F0 H0 F H (σ.set i (some v)) (ρ.set i (some d)) := by
  refine ⟨S.ex0, S.h0, S.o0, S.sub, S.nf, by rw [List.length_set, List.length_set, S.len], fun j e h => ?_, fun j l a dj dl u w hn hj hl ej el oj ol => ?_⟩
  · rw [List.getElem?_set] at h ⊢
    by_cases q : i = j
    · rw [if_pos q] at h ⊢
      subst q
      by_cases z : i < ρ.length
      · rw [if_pos z] at h
        rw [if_pos (by rw [S.len]; exact z)]
        cases h
        exact ⟨v, rfl, by rw [hk]; exact r⟩
      · rw [if_neg z] at h; cases h
    · rw [if_neg q] at h ⊢
      exact S.slot j e h
  · have nj : i ≠ j := fun z => by rw [← z, hk] at oj; exact oj.elim
    have nl : i ≠ l := fun z => by rw [← z, hk] at ol; exact ol.elim
    rw [List.getElem?_set_ne nj] at hj ej
    rw [List.getElem?_set_ne nl] at hl el
    exact S.sep j l a dj dl u w hn hj hl ej el oj ol
/-- a slot is stored that owns what no other slot owns -/
theorem Stt.setW (S : Stt K κ F0 H0 F H σ ρ) {i : Nat} {v : V} {d : D} (so : SlotOk K (κ i) H0 F H v d)
    (hn : ∀ j b dj w, ρ[j]? = some (some dj) → σ[j]? = some (some w) → j ≠ i → Owns (κ i) H v b → Owns (κ j) H w b → False) : Stt K κ F0 H0 F H (σ.set i (some v)) (ρ.set i (some d)) := by
  refine ⟨S.ex0, S.h0, S.o0, S.sub, S.nf, by rw [List.length_set, List.length_set, S.len], fun j e h => ?_, fun j l a dj dl u w hjl hj hl ej el oj ol => ?_⟩
  · rw [List.getElem?_set] at h ⊢
    by_cases q : i = j
    · rw [if_pos q] at h ⊢
      subst q
      by_cases z : i < ρ.length
      · rw [if_pos z] at h
        rw [if_pos (by rw [S.len]; exact z)]
        cases h
        exact ⟨v, rfl, so⟩
      · rw [if_neg z] at h; cases h
    · rw [if_neg q] at h ⊢
      exact S.slot j e h
  · by_cases qj : i = j
    · subst qj
      have nl : i ≠ l := hjl
      rw [List.getElem?_set_ne nl] at hl el
      rw [List.getElem?_set, if_pos rfl] at ej
      split at ej
      · cases ej
        exact hn l a dl w hl el (Ne.symm nl) oj ol
      · cases ej
    · by_cases ql : i = l
      · subst ql
        rw [List.getElem?_set_ne qj] at hj ej
        rw [List.getElem?_set, if_pos rfl] at el
        split at el
        · cases el
          exact hn j a dj u hj ej (Ne.symm qj) ol oj
        · cases el
      · rw [List.getElem?_set_ne qj] at hj ej
        rw [List.getElem?_set_ne ql] at hl el
        exact S.sep j l a dj dl u w hjl hj hl ej el oj ol
/-- a slot is stored that is owned: new at p -/
theorem Stt.setO (S : Stt K κ F0 H0 F H σ ρ) {i : Nat} {p : Addr} {d : D} (hk : κ i = .ow) (hp : H0 p = none) (fp : F p = none) (o : OwnAt K F H p d)
    (hn : ∀ j d w, ρ[j]? = some (some d) → j ≠ i → σ[j]? = some (some w) → ¬ Owns (κ j) H w p) : Stt K κ F0 H0 F H (σ.set i (some (.ref p))) (ρ.set i (some d)) :=
  S.setW (by rw [hk]; exact ⟨p, rfl, hp, fp, o⟩) fun j b dj w hj ej nj oi oj => by
    rw [hk] at oi
    cases (show V.ref p = .ref b from oi)
    exact hn j dj w hj nj ej oj
/-- what slot i owns is changed -/
theorem Stt.chg (S : Stt K κ F0 H0 F H σ ρ) {i : Nat} {u : V} {d d' : D} (hd : ρ[i]? = some (some d)) (hu : σ[i]? = some (some u)) (f : Ex F F') (s' : Ex F' H') (nf' : NF F') (o : ∀ b, F b = none → H b ≠ none → F' b = none)
    (keep : ∀ b x, H b = some x → ¬ Owns (κ i) H u b → H' b = some x) (slot' : SlotOk K (κ i) H0 F' H' u d') (own' : ∀ b, Owns (κ i) H' u b → Owns (κ i) H u b ∨ ∀ j dj w, j ≠ i → ρ[j]? = some (some dj) → σ[j]? = some (some w) → ¬ Owns (κ j) H w b) :
    Stt K κ F0 H0 F' H' σ (ρ.set i (some d')) := by
  have si := S.slotAt hd hu
  have h0k : ∀ b x, H0 b ≠ none → H b = some x → H' b = some x := fun b x hb hx => keep b x hx fun ob => hb (si.owned ob).1
  have other : ∀ {j : Nat} {w : V} {dj : D}, j ≠ i → ρ[j]? = some (some dj) → σ[j]? = some (some w) → ∀ b, Owns (κ j) H w b → ∀ x, H b = some x → H' b = some x := fun {j w dj} nj hj ej b ob x hx =>
    keep b x hx fun oi => S.sep i j b d dj u w (Ne.symm nj) hd hj hu ej oi ob
  have back : ∀ {m : Nat} {dm : D}, (ρ.set i (some d'))[m]? = some (some dm) → ∃ dm', ρ[m]? = some (some dm') := fun {m dm} hm => by
    by_cases q : i = m
    · subst q; exact ⟨d, hd⟩
    · rw [List.getElem?_set_ne q] at hm; exact ⟨dm, hm⟩
  -- what another slot owns, it owned
  have same : ∀ {j : Nat} {w : V} {dj : D} {b : Addr}, j ≠ i → ρ[j]? = some (some dj) → σ[j]? = some (some w) → Owns (κ j) H' w b → Owns (κ j) H w b := fun {j w dj b} nj hj ej ob =>
    Owns.back (S.slotAt hj ej) (fun a ea x hx => by
      subst ea
      refine other nj hj ej a ?_ x hx
      have q := owns_owned ob
      generalize κ j = k at q ⊢
      cases k <;> first | exact rfl | exact Or.inl rfl | cases q) (fun a o q => s' a o (f a o q)) ob
  refine ⟨S.ex0.trans f, fun b x e => h0k b x (some_ne e) (S.h0 b x e), fun b h1 h2 => o b (S.o0 b h1 h2) (by
    cases e : H0 b with
    | none => exact absurd e h2
    | some x => exact some_ne (S.h0 b x e)), s', nf', by rw [List.length_set, S.len], fun j e h => ?_, fun j l b dj dl v w hjl hj hl ej el oj ol => ?_⟩
  · by_cases q : i = j
    · subst q
      rw [List.getElem?_set, if_pos rfl] at h
      split at h
      · cases h
        exact ⟨u, hu, slot'⟩
      · cases h
    · rw [List.getElem?_set_ne q] at h
      obtain ⟨w, g1, g2⟩ := S.slot j e h
      exact ⟨w, g1, g2.keep f (fun b ob => o b (g2.owned ob).2.1 (g2.owned ob).2.2) h0k (other (Ne.symm q) h g1) fun a o q => s' a o (f a o q)⟩
  · obtain ⟨dj', hj'⟩ := back hj
    obtain ⟨dl', hl'⟩ := back hl
    by_cases qj : j = i
    · subst qj
      rw [hu] at ej
      cases ej
      have ol2 := same (Ne.symm hjl) hl' el ol
      rcases own' b oj with z | z
      · exact S.sep j l b dj' dl' u w hjl hj' hl' hu el z ol2
      · exact z l dl' w (Ne.symm hjl) hl' el ol2
    · have oj2 := same qj hj' ej oj
      by_cases ql : l = i
      · subst ql
        rw [hu] at el
        cases el
        rcases own' b ol with z | z
        · exact S.sep j l b dj' dl' v u hjl hj' hl' ej hu oj2 z
        · exact z j dj' v hjl hj' ej oj2
      · exact S.sep j l b dj' dl' v w hjl hj' hl' ej el oj2 (same ql hl' el ol)
/-- the owned object of slot i is changed -/
theorem Stt.mut (S : Stt K κ F0 H0 F H σ ρ) {i : Nat} {a : Addr} {d d' : D} {o : HO} (hk : (κ i).mutb = true) (hd : ρ[i]? = some (some d)) (hs : σ[i]? = some (some (.ref a))) (o' : OwnAt K F (upd H a o) a d') :
    Stt K κ F0 H0 F (upd H a o) σ (ρ.set i (some d')) := by
  have si := S.slotAt hd hs
  obtain ⟨a', e, ha0, fa, oa, mk⟩ := si.mutb hk
  cases e
  refine S.chg hd hs (Ex.refl F) (fun b u e => by rw [upd_ne (ne_of_none e fa)]; exact S.sub b u e) S.nf (fun _ h _ => h) (fun b x hx nb => ?_) (mk _ _ _ fa o') fun b ob => ?_
  · rw [upd_ne (fun z => nb ((mutb_owns hk).mpr (by rw [z])))]; exact hx
  · exact .inl ((mutb_owns hk).mpr ((mutb_owns hk).mp ob))
end
end WD

namespace WD
open PySem PySem.Spec PyProof.Rows L2
open Evl (Ex Ex.refl Ex.trans Ex.new Ex.mut ex_l ex_t fresh_back)

/-! ### readings by mirrors -/
abbrev Mg := Str → Option Value
def ExRep (mg : Mg) (K : Frag) (F H : Hp) (x : Exn) (cls : Value) (dd : Option Addr) : Prop :=
  ∃ C, mg x.cls = some (.ref C) ∧ cls = .ref C ∧ ((x.fs = [] ∧ dd = none) ∨ ∃ a fs, dd = some a ∧ F a = some (.xd fs) ∧ ∀ f d, x.fs.lookup f = some d → ∃ v, fs.lookup f = some v ∧ Rp K F v d)
/-- what a judgement wishes of exceptions (by the slots) and of what is returned -/
structure EX where
  err : L2.St → XK
  ret : Hp → D → V → Hp → Hp → Prop
abbrev EX0 : EX := ⟨fun _ => L2.E0, fun _ _ _ _ _ => False⟩
abbrev eX (K : Frag) (E : XK) : EX := ⟨fun _ => E, fun _ d v F _ => Rp K F v d⟩
def ErrOk (mg : Mg) (K : Frag) (E : XK) (F H : Hp) (x : Exn) : Prop := ∀ F' H' c dd, Ext F H F' H' → ExRep mg K F' H' x c dd → E c dd H'
theorem ErrOk.mono {mg : Mg} {K : Frag} {E : XK} {F H F' H' : Hp} {x : Exn} (e : Ext F H F' H') (h : ErrOk mg K E F H x) : ErrOk mg K E F' H' x :=
  fun F2 H2 c dd e2 r => h F2 H2 c dd (e.trans e2) r

section
variable (mg : Mg) (K : Frag) (κ : Nat → Kd) (E : EX)
def rdE (m : Env → Res D) : TE := fun σ H Q => ∃ F0 H0 F ρ, Stt K κ F0 H0 F H σ ρ ∧ (m ρ).sat (fun d => ∀ v F' H', Ext F H F' H' → Rp K F' v d → Q v H') (ErrOk mg K (E.err σ) F H)
def rdB (m : Env → Res D) : TE := fun σ H Q => ∃ F0 H0 F ρ, Stt K κ F0 H0 F H σ ρ ∧ (m ρ).sat (fun d => ∀ v F' H', Ext F H F' H' → Rb K F' H' v d → Q v H') (ErrOk mg K (E.err σ) F H)
/-- a new list, owned by whoever takes it -/
def rdN (m : Env → Res (List D)) : TE := fun σ H Q => ∃ F0 H0 F ρ, Stt K κ F0 H0 F H σ ρ ∧
  (m ρ).sat (fun ds => ∀ p vs F' H', Ext F H F' H' → H p = none → F' p = none → H' p = some (.lst vs) → RpA K F' vs ds → Q (.ref p) H') (ErrOk mg K (E.err σ) F H)
def rdT (m : Env → Res Bool) : TT := fun σ H Q => ∃ F0 H0 F ρ, Stt K κ F0 H0 F H σ ρ ∧ (m ρ).sat (fun b => ∀ F' H', Ext F H F' H' → Q b H') (ErrOk mg K (E.err σ) F H)
def rdA (m : Env → Res (List D)) : TA := fun σ H Q => ∃ F0 H0 F ρ, Stt K κ F0 H0 F H σ ρ ∧ (m ρ).sat (fun ds => ∀ vs F' H', Ext F H F' H' → RpA K F' vs ds → Q vs H') (ErrOk mg K (E.err σ) F H)
end
def DE (X : Cx) (κ : Nat → Kd) (E : EX) (e : Expr) (m : Env → Res D) : Prop := PE X e (rdE X.mg X.K κ E m)
def DB (X : Cx) (κ : Nat → Kd) (E : EX) (e : Expr) (m : Env → Res D) : Prop := PE X e (rdB X.mg X.K κ E m)
def DN (X : Cx) (κ : Nat → Kd) (E : EX) (e : Expr) (m : Env → Res (List D)) : Prop := PE X e (rdN X.mg X.K κ E m)
def DT (X : Cx) (κ : Nat → Kd) (E : EX) (e : Expr) (m : Env → Res Bool) : Prop := PT X e (rdT X.mg X.K κ E m)
def DW (X : Cx) (κ : Nat → Kd) (E : EX) (e : Expr) (m : Env → Res Bool) : Prop := PW X e (rdT X.mg X.K κ E m)
def DA (X : Cx) (κ : Nat → Kd) (E : EX) (es : List Expr) (m : Env → Res (List D)) : Prop := PA X es (rdA X.mg X.K κ E m)

theorem _root_.L2.PE.imp {X : Cx} {e : Expr} {t t' : TE} (h : PE X e t) (i : ∀ σ H Q, t' σ H Q → t σ H Q) : PE X e t' := ⟨fun pins s σ H Q I hw => h.run pins s σ H Q I (i σ H Q hw)⟩
theorem _root_.L2.PT.imp {X : Cx} {e : Expr} {t t' : TT} (h : PT X e t) (i : ∀ σ H Q, t' σ H Q → t σ H Q) : PT X e t' := ⟨fun pins s σ H Q I hw => h.run pins s σ H Q I (i σ H Q hw)⟩
theorem _root_.L2.PW.imp {X : Cx} {e : Expr} {t t' : TT} (h : PW X e t) (i : ∀ σ H Q, t' σ H Q → t σ H Q) : PW X e t' := ⟨fun wh pins s σ H Q I hw => h.run wh pins s σ H Q I (i σ H Q hw)⟩
theorem _root_.L2.PA.imp {X : Cx} {e : List Expr} {t t' : TA} (h : PA X e t) (i : ∀ σ H Q, t' σ H Q → t σ H Q) : PA X e t' := ⟨fun pos pins s σ H Q I hw => h.run pos pins s σ H Q I (i σ H Q hw)⟩
theorem _root_.L2.PS.imp {X : Cx} {e : Stmt} {t t' : TS} (h : PS X e t) (i : ∀ D σ H, t' D σ H → t D σ H) : PS X e t' := ⟨fun pins s σ H D I hw => h.run pins s σ H D I (i D σ H hw)⟩
theorem _root_.L2.PSs.imp {X : Cx} {e : List Stmt} {t t' : TS} (h : PSs X e t) (i : ∀ D σ H, t' D σ H → t D σ H) : PSs X e t' := ⟨fun pins s σ H D I hw => h.run pins s σ H D I (i D σ H hw)⟩

section
variable {X : Cx} {κ : Nat → Kd} {E : EX} {a b c e : Expr} {es : List Expr} {pos : Pos}

/-! ### from one judgement to another -/
theorem db_of {m : Env → Res D} (h : DE X κ E e m) : DB X κ E e m := h.imp fun σ H Q ⟨F0, H0, F, ρ, S, c⟩ =>
  ⟨F0, H0, F, ρ, S, Res.sat_imp c (fun d _ k v F' H' x r => k v F' H' x (.inl r)) fun _ z => z⟩
def mList (m : Env → Res (List D)) : Env → Res D := fun ρ => (m ρ).bind fun ds => .ok (.list ds)
theorem de_new {m : Env → Res (List D)} (h : DN X κ E e m) : DE X κ E e (mList m) := h.imp fun σ H Q ⟨F0, H0, F, ρ, S, c⟩ =>
  ⟨F0, H0, F, ρ, S, Res.sat_imp (Res.sat_bind c) (fun ds _ k p vs F' H' x hp fp hv r => k (.ref p) (upd F' p (.lst vs)) H'
    ⟨x.f.trans (Ex.new fp), x.h, fun a h1 h2 => by
      rw [upd_ne (fun z => h2 (by rw [z]; exact hp))]; exact x.o a h1 h2, fun a u q => by
      by_cases z : a = p
      · subst z; rw [upd_same] at q; cases q; exact hv
      · rw [upd_ne z] at q; exact x.s a u q, fun n => (x.n n).upd (fun _ h => nomatch h)⟩ (.lst (Evl.sq_of upd_same) (r.mono (Ex.new fp)))) fun _ z => z⟩

/-! ### names, constants -/
def mVar (i : Nat) : Env → Res D := fun ρ => ofO ((ρ[i]?).join)
def mC (d : D) : Env → Res D := fun _ => .ok d
theorem join_some {α : Type} {o : Option (Option α)} {a : α} (h : o.join = some a) : o = some (some a) := by
  cases o with
  | none => cases h
  | some q => cases q with
    | none => cases h
    | some b => cases h; rfl
theorem de_var {i : Nat} {x : Str} (hk : κ i = .im) (hN : X.N[i]? = some x) (hv : Vis X.env.scope x) (hd : (x == ("__debug__" : Str)) = false := by decide) (hcd : (x == ("__classdict__" : Str)) = false := by decide) : DE X κ E (.Name x pos) (mVar i) :=
  (pe_var hN hv hd hcd).imp fun σ H Q ⟨F0, H0, F, ρ, S, c⟩ => by
    obtain ⟨d, e, k⟩ := ofO_sat c
    obtain ⟨v, h1, h2⟩ := S.slot i d (join_some e)
    rw [hk] at h2
    exact ⟨v, h1, k v F H (Ext.refl S.sub) h2⟩
theorem db_var {i : Nat} {x : Str} (hp : (κ i).plain = true) (hN : X.N[i]? = some x) (hv : Vis X.env.scope x) (hd : (x == ("__debug__" : Str)) = false := by decide) (hcd : (x == ("__classdict__" : Str)) = false := by decide) : DB X κ E (.Name x pos) (mVar i) :=
  (pe_var hN hv hd hcd).imp fun σ H Q ⟨F0, H0, F, ρ, S, c⟩ => by
    obtain ⟨d, e, k⟩ := ofO_sat c
    obtain ⟨v, h1, h2⟩ := S.slot i d (join_some e)
    exact ⟨v, h1, k v F H (Ext.refl S.sub) (h2.rb hp)⟩
theorem rdE_c {mg : Mg} {K : Frag} {v : V} {d : D} (r : ∀ F, Rp K F v d) : ∀ σ H Q, rdE mg K κ E (mC d) σ H Q → tC v σ H Q := fun σ H Q ⟨F0, H0, F, ρ, S, c⟩ => c v F H (Ext.refl S.sub) (r F)
theorem de_int {i j} : DE X κ E (.Constant (.int i) j pos) (mC (.int i)) := pe_int.imp (rdE_c fun _ => .int i)
theorem de_bl {i j} : DE X κ E (.Constant (.bool i) j pos) (mC (.bool i)) := pe_bl.imp (rdE_c fun _ => .bl i)
theorem de_non {j} : DE X κ E (.Constant .none j pos) (mC .none) := pe_non.imp (rdE_c fun _ => .non)
theorem de_str {x : Str} {j} (h : OkS x := by decide +kernel) : DE X κ E (.Constant (.str x) j pos) (mC (.str x)) := pe_str.imp (rdE_c fun _ => .str x h)
/-- a constant of the module: of the written part -/
structure GlobC (K : Frag) (mg : Mg) (x : Str) (d : D) : Prop where
  ex : ∃ v u, mg x = some u ∧ RelV v u ∧ ∀ F, Rp K F v d
theorem de_glob {x : Str} {d : D} (G : GlobC X.K X.mg x d) (hg : Gl X x) (hd : (x == ("__debug__" : Str)) = false := by decide) : DE X κ E (.Name x pos) (mC d) := by
  obtain ⟨v, u, h1, h2, h3⟩ := G.ex
  exact (pe_glob hg h1 h2 hd).imp (rdE_c h3)

/-! ### operators -/
abbrev Post (K : Frag) (F H : Hp) (Q : VK) (r : Res D) : Prop := r.sat (fun d => ∀ v F' H', Ext F H F' H' → Rp K F' v d → Q v H') fun _ => False
def Op2 (K : Frag) (r : R2) (f : D → D → Res D) : Prop := ∀ F H x y dx dy, Ex F H → Rb K F H x dx → Rb K F H y dy → ∀ Q : VK, Post K F H Q (f dx dy) → r x y H Q
def mBin (f : D → D → Res D) (ma mb : Env → Res D) : Env → Res D := fun ρ => (ma ρ).bind fun x => (mb ρ).bind fun y => f x y
theorem sat_post {K : Frag} {F H : Hp} {Q : VK} {m : Res D} {mg : Mg} {E1 : XK} (noerr : ∀ x, m ≠ .err x) (h : m.sat (fun d => ∀ v F' H', Ext F H F' H' → Rp K F' v d → Q v H') (ErrOk mg K E1 F H)) : Post K F H Q m := by
  cases m with
  | ok d => exact h
  | err x => exact absurd rfl (noerr x)
  | stk => exact h
/-- two borrowed operands, from the left -/
theorem rd2 {ma mb : Env → Res D} {mg : Mg} {K : Frag} {σ : L2.St} {H : Hp} {R : V → V → Hp → Prop} {F0 H0 F : Hp} {ρ : Env} (S : Stt K κ F0 H0 F H σ ρ) {f : D → D → Res D} {P : D → Prop}
    (c : (mBin f ma mb ρ).sat P (ErrOk mg K (E.err σ) F H))
    (k : ∀ dx dy x y F2 H2, Ext F H F2 H2 → Rb K F2 H2 x dx → Rb K F2 H2 y dy → (f dx dy).sat P (ErrOk mg K (E.err σ) F H) → R x y H2) :
    rdB mg K κ E ma σ H fun x H1 => rdB mg K κ E mb σ H1 fun y H2 => R x y H2 := by
  refine ⟨F0, H0, F, ρ, S, Res.sat_imp (Res.sat_bind c) (fun dx _ c1 x F1 H1 e1 r1 => ?_) fun _ z => z⟩
  refine ⟨F0, H0, F1, ρ, S.mono e1, Res.sat_imp (Res.sat_bind c1) (fun dy _ c2 y F2 H2 e2 r2 => ?_) fun x z => z.mono e1⟩
  exact k dx dy x y F2 H2 (e1.trans e2) (r1.mono e2) r2 c2
theorem op2_read {r : R2} {f : D → D → Res D} {mg : Mg} {K : Frag} (hf : Op2 K r f) (ne : ∀ x y z, f x y ≠ .err z) {ma mb : Env → Res D} : ∀ σ H Q, rdE mg K κ E (mBin f ma mb) σ H Q → tOp r (rdB mg K κ E ma) (rdB mg K κ E mb) σ H Q :=
  fun σ H Q ⟨F0, H0, F, ρ, S, c⟩ => rd2 S c fun dx dy x y F2 H2 e r1 r2 c2 => hf F2 H2 x y dx dy e.s r1 r2 Q (by
    have c3 := sat_post (ne dx dy) c2
    exact Res.sat_imp c3 (fun d _ k v F' H' e' rp => k v F' H' (e.trans e') rp) fun _ z => z)
theorem de_op {op : Operator} {r : R2} {f : D → D → Res D} (ho : OpR X (binaryOp op) r) (hf : Op2 X.K r f) (ne : ∀ x y z, f x y ≠ .err z) {ma mb : Env → Res D} (ha : DB X κ E a ma) (hb : DB X κ E b mb) : DE X κ E (.BinOp a op b pos) (mBin f ma mb) :=
  (pe_op ho ha hb).imp (op2_read hf ne)
theorem de_cmp {op : CmpOp} {r : R2} {f : D → D → Res D} (ho : OpR X (compareOp op) r) (hf : Op2 X.K r f) (ne : ∀ x y z, f x y ≠ .err z) {ma mb : Env → Res D} (ha : DB X κ E a ma) (hb : DB X κ E b mb) (hm : behindInMarks op b = false) : DE X κ E (.Compare a [op] [b] pos) (mBin f ma mb) :=
  (pe_cmpR ho ha hb hm).imp (op2_read hf ne)
/-- a value as a test -/
def truD : D → Res Bool
  | .bool b => .ok b
  | .none => .ok false
  | .int i => .ok (i != 0)
  | .str x => if x.length ≤ sizeLine then .ok ((x.length : Int) != 0) else .stk
  | .list xs => .ok (!xs.isEmpty)
  | .tuple xs => .ok (!xs.isEmpty)
  | .dict _ => .stk
def mTru (m : Env → Res D) : Env → Res Bool := fun ρ => (m ρ).bind truD
theorem bool_of {r : Res D} {P : Bool → Prop} {Q : Exn → Prop} (h : ((r.bind truD)).sat P Q) (hb : ∀ d, r = .ok d → ∃ b, d = .bool b) : r.sat (fun d => ∃ b, d = .bool b ∧ P b) Q := by
  cases r with
  | ok d =>
    obtain ⟨b, rfl⟩ := hb d rfl
    exact ⟨b, rfl, h⟩
  | err x => exact h
  | stk => exact h
theorem dt_cmp {op : CmpOp} {r : R2} {f : D → D → Res D} (ho : OpR X (compareOp op) r) (hf : Op2 X.K r f) (ne : ∀ x y z, f x y ≠ .err z) (hb : ∀ x y d, f x y = .ok d → ∃ b, d = .bool b) {ma mb : Env → Res D} (ha : DB X κ E a ma) (hb' : DB X κ E b mb) (hm : behindInMarks op b = false) :
    DT X κ E (.Compare a [op] [b] pos) (mTru (mBin f ma mb)) :=
  (pt_cmpR ho ha hb' hm).imp fun σ H Q ⟨F0, H0, F, ρ, S, c⟩ => by
    refine op2_read (mg := X.mg) hf ne σ H _ ⟨F0, H0, F, ρ, S, Res.sat_imp (bool_of c fun d hd => ?_) (fun d _ k v F' H' e r => ?_) fun _ z => z⟩
    · unfold mBin at hd
      cases q : ma ρ with
      | ok x =>
        rw [q] at hd
        cases q2 : mb ρ with
        | ok y =>
          simp only [Res.bind, q2] at hd
          exact hb x y d hd
        | err y => simp only [Res.bind, q2] at hd; cases hd
        | stk => simp only [Res.bind, q2] at hd; cases hd
      | err x => rw [q] at hd; cases hd
      | stk => rw [q] at hd; cases hd
    · obtain ⟨b, rfl, k⟩ := k
      cases r
      exact ⟨b, rfl, k F' H' e⟩
theorem dt_truth {ma : Env → Res D} (ha : DB X κ E a ma) (he : ∀ whole, isTrue a X.env whole = (do let v ← whole; standAt a.pos; holding [v] (truthy v))) : DT X κ E a (mTru ma) :=
  (pt_truth ha he).imp fun σ H Q ⟨F0, H0, F, ρ, S, c⟩ => by
    refine ⟨F0, H0, F, ρ, S, Res.sat_imp (Res.sat_bind c) (fun d _ k v F' H' e r => ?_) fun _ z => z⟩
    have w := r.whole e.s
    cases w with
    | non => exact ⟨false, rfl, k F' H' e⟩
    | bl b => exact ⟨b, rfl, k F' H' e⟩
    | int i => exact ⟨_, rfl, k F' H' e⟩
    | str x hx =>
      unfold truD at k
      by_cases z : x.length ≤ sizeLine
      · simp only [if_pos z] at k
        exact ⟨_, ⟨z, rfl⟩, k F' H' e⟩
      · simp only [if_neg z] at k
        exact k.elim
    | @lst a xs ds h1 h2 =>
      refine ⟨!ds.isEmpty, .inl ⟨xs, h1, ?_⟩, k F' H' e⟩
      cases h2 <;> rfl
    | @tup a xs ds h1 h2 =>
      refine ⟨!ds.isEmpty, .inr (.inl ⟨xs, h1, ?_⟩), k F' H' e⟩
      cases h2 <;> rfl
    | @dct a kvs ds h1 h2 => exact k.elim
/-! and, or, not as tests -/
def mAnd (t u : Env → Res Bool) : Env → Res Bool := fun ρ => (t ρ).bind fun b => if b = true then u ρ else .ok false
def mOr (t u : Env → Res Bool) : Env → Res Bool := fun ρ => (t ρ).bind fun b => if b = true then .ok true else u ρ
def mNot (t : Env → Res Bool) : Env → Res Bool := fun ρ => (t ρ).bind fun b => .ok (!b)
variable {rest : List Expr}
theorem dw_and1 {t : Env → Res Bool} (h : DT X κ E a t) : DW X κ E (.BoolOp .And [a] pos) t := pw_and1 h
theorem dw_or1 {t : Env → Res Bool} (h : DT X κ E a t) : DW X κ E (.BoolOp .Or [a] pos) t := pw_or1 h
theorem dw_and {t u : Env → Res Bool} (h : DT X κ E a t) (h2 : DW X κ E (.BoolOp .And (b :: rest) pos) u) : DW X κ E (.BoolOp .And (a :: b :: rest) pos) (mAnd t u) :=
  (pw_and h h2).imp fun σ H Q ⟨F0, H0, F, ρ, S, c⟩ => ⟨F0, H0, F, ρ, S, Res.sat_imp (Res.sat_bind c) (fun b _ k F' H' e => by
    cases b with
    | true => exact ⟨F0, H0, F', ρ, S.mono e, Res.sat_imp k (fun b _ k F2 H2 e2 => k F2 H2 (e.trans e2)) fun x z => z.mono e⟩
    | false => exact k F' H' e) fun _ z => z⟩
theorem dw_or {t u : Env → Res Bool} (h : DT X κ E a t) (h2 : DW X κ E (.BoolOp .Or (b :: rest) pos) u) : DW X κ E (.BoolOp .Or (a :: b :: rest) pos) (mOr t u) :=
  (pw_or h h2).imp fun σ H Q ⟨F0, H0, F, ρ, S, c⟩ => ⟨F0, H0, F, ρ, S, Res.sat_imp (Res.sat_bind c) (fun b _ k F' H' e => by
    cases b with
    | false => exact ⟨F0, H0, F', ρ, S.mono e, Res.sat_imp k (fun b _ k F2 H2 e2 => k F2 H2 (e.trans e2)) fun x z => z.mono e⟩
    | true => exact k F' H' e) fun _ z => z⟩
theorem dt_not {t : Env → Res Bool} (h : DT X κ E a t) : DT X κ E (.UnaryOp .Not a pos) (mNot t) :=
  (pt_not h).imp fun σ H Q ⟨F0, H0, F, ρ, S, c⟩ => ⟨F0, H0, F, ρ, S, Res.sat_imp (Res.sat_bind c) (fun b _ k F' H' e => k F' H' e) fun _ z => z⟩
/-! .. as values, of bools -/
def boolD : D → Res Bool
  | .bool b => .ok b
  | _ => .stk
def mAndV (t u : Env → Res D) : Env → Res D := fun ρ => (t ρ).bind fun d => (boolD d).bind fun b => if b = true then u ρ else .ok (.bool false)
def mOrV (t u : Env → Res D) : Env → Res D := fun ρ => (t ρ).bind fun d => (boolD d).bind fun b => if b = true then .ok (.bool true) else u ρ
def mNotV (t : Env → Res D) : Env → Res D := fun ρ => (t ρ).bind fun d => (boolD d).bind fun b => .ok (.bool (!b))
theorem boolD_sat {d : D} {P : Bool → Prop} {R : Exn → Prop} (h : (boolD d).sat P R) : ∃ b, d = .bool b ∧ P b := by
  cases d <;> first | exact ⟨_, rfl, h⟩ | exact h.elim
theorem de_one {op} {m : Env → Res D} (h : DE X κ E a m) : DE X κ E (.BoolOp op [a] pos) m := pe_one h
theorem de_and {ma mb : Env → Res D} (ha : DE X κ E a ma) (hb : DE X κ E (.BoolOp .And (b :: rest) pos) mb) : DE X κ E (.BoolOp .And (a :: b :: rest) pos) (mAndV ma mb) :=
  (pe_and ha hb).imp fun σ H Q ⟨F0, H0, F, ρ, S, c⟩ => ⟨F0, H0, F, ρ, S, Res.sat_imp (Res.sat_bind c) (fun d _ k v F' H' e r => by
    obtain ⟨b, rfl, k⟩ := boolD_sat (Res.sat_bind k)
    cases r
    refine ⟨b, rfl, ?_⟩
    cases b with
    | true => exact ⟨F0, H0, F', ρ, S.mono e, Res.sat_imp k (fun d _ k v F2 H2 e2 r => k v F2 H2 (e.trans e2) r) fun x z => z.mono e⟩
    | false => exact k (.bl false) F' H' e (.bl false)) fun _ z => z⟩
theorem de_or {ma mb : Env → Res D} (ha : DE X κ E a ma) (hb : DE X κ E (.BoolOp .Or (b :: rest) pos) mb) : DE X κ E (.BoolOp .Or (a :: b :: rest) pos) (mOrV ma mb) :=
  (pe_or ha hb).imp fun σ H Q ⟨F0, H0, F, ρ, S, c⟩ => ⟨F0, H0, F, ρ, S, Res.sat_imp (Res.sat_bind c) (fun d _ k v F' H' e r => by
    obtain ⟨b, rfl, k⟩ := boolD_sat (Res.sat_bind k)
    cases r
    refine ⟨b, rfl, ?_⟩
    cases b with
    | false => exact ⟨F0, H0, F', ρ, S.mono e, Res.sat_imp k (fun d _ k v F2 H2 e2 r => k v F2 H2 (e.trans e2) r) fun x z => z.mono e⟩
    | true => exact k (.bl true) F' H' e (.bl true)) fun _ z => z⟩
theorem de_not {ma : Env → Res D} (ha : DE X κ E a ma) : DE X κ E (.UnaryOp .Not a pos) (mNotV ma) :=
  (pe_not ha).imp fun σ H Q ⟨F0, H0, F, ρ, S, c⟩ => ⟨F0, H0, F, ρ, S, Res.sat_imp (Res.sat_bind c) (fun d _ k v F' H' e r => by
    obtain ⟨b, rfl, k⟩ := boolD_sat (Res.sat_bind k)
    cases r
    exact ⟨b, rfl, k _ F' H' e (.bl _)⟩) fun _ z => z⟩
/-! x if t else y -/
def mIf (t : Env → Res Bool) (ma mb : Env → Res D) : Env → Res D := fun ρ => (t ρ).bind fun b => if b = true then ma ρ else mb ρ
theorem de_if {t : Env → Res Bool} {ma mb : Env → Res D} (ht : DT X κ E c t) (ha : DE X κ E a ma) (hb : DE X κ E b mb) : DE X κ E (.IfExp c a b pos) (mIf t ma mb) :=
  (pe_ifExp ht ha hb).imp fun σ H Q ⟨F0, H0, F, ρ, S, c⟩ => ⟨F0, H0, F, ρ, S, Res.sat_imp (Res.sat_bind c) (fun b _ k F' H' e => by
    cases b with
    | true => exact ⟨F0, H0, F', ρ, S.mono e, Res.sat_imp k (fun d _ k v F2 H2 e2 r => k v F2 H2 (e.trans e2) r) fun x z => z.mono e⟩
    | false => exact ⟨F0, H0, F', ρ, S.mono e, Res.sat_imp k (fun d _ k v F2 H2 e2 r => k v F2 H2 (e.trans e2) r) fun x z => z.mono e⟩) fun _ z => z⟩

/-! ### arguments, displays -/
def mNil : Env → Res (List D) := fun _ => .ok []
def mCons (m : Env → Res D) (ms : Env → Res (List D)) : Env → Res (List D) := fun ρ => (m ρ).bind fun d => (ms ρ).bind fun ds => .ok (d :: ds)
theorem da_nil : DA X κ E [] mNil := pa_nil.imp fun σ H Q ⟨F0, H0, F, ρ, S, c⟩ => c [] F H (Ext.refl S.sub) .nil
theorem da_cons {m : Env → Res D} {ms : Env → Res (List D)} (h : DE X κ E e m) (hs : DA X κ E es ms) (hst : starEach (e :: es) X.env = (false, eval e X.env) :: starEach es X.env := by rfl) : DA X κ E (e :: es) (mCons m ms) :=
  (pa_cons h hs hst).imp fun σ H Q ⟨F0, H0, F, ρ, S, c⟩ => ⟨F0, H0, F, ρ, S, Res.sat_imp (Res.sat_bind c) (fun d _ k v F' H' e r =>
    ⟨F0, H0, F', ρ, S.mono e, Res.sat_imp (Res.sat_bind k) (fun ds _ k vs F2 H2 e2 rs => k (v :: vs) F2 H2 (e.trans e2) (.cons (r.mono e2.f) rs)) fun x z => z.mono e⟩) fun _ z => z⟩
def mTup (m : Env → Res (List D)) : Env → Res D := fun ρ => (m ρ).bind fun ds => if ds.length ≤ sizeLine then .ok (.tuple ds) else .stk
theorem de_tup {x1} {m : Env → Res (List D)} (h : DA X κ E es m) : DE X κ E (.Tuple es x1 pos) (mTup m) :=
  (pe_tup h).imp fun σ H Q ⟨F0, H0, F, ρ, S, c⟩ => ⟨F0, H0, F, ρ, S, Res.sat_imp (Res.sat_bind c) (fun ds _ k vs F' H' e r => by
    by_cases z : ds.length ≤ sizeLine
    · simp only [if_pos z] at k
      exact ⟨by rw [r.length]; exact z, fun p hp => k _ (upd F' p (.tup vs)) _ (e.trans (.new e.s hp)) (.tup (Evl.st_of upd_same) (r.mono (Ex.new (none_of_ex e.s hp))))⟩
    · simp only [if_neg z] at k
      exact k.elim) fun _ z => z⟩
def mLst (m : Env → Res (List D)) : Env → Res (List D) := fun ρ => (m ρ).bind fun ds => if ds.length ≤ sizeLine then .ok ds else .stk
theorem dn_lst {m : Env → Res (List D)} (h : DA X κ E es m) : DN X κ E (.List es pos) (mLst m) :=
  (pe_lst h).imp fun σ H Q ⟨F0, H0, F, ρ, S, c⟩ => ⟨F0, H0, F, ρ, S, Res.sat_imp (Res.sat_bind c) (fun ds _ k vs F' H' e r => by
    by_cases z : ds.length ≤ sizeLine
    · simp only [if_pos z] at k
      exact ⟨by rw [r.length]; exact z, fun p hp => k p vs F' _ (e.trans (.newO e.s hp)) (fresh_back e.h hp) (none_of_ex e.s hp) upd_same r⟩
    · simp only [if_neg z] at k
      exact k.elim) fun _ z => z⟩
end
end WD

namespace WD
open PySem PySem.Spec PyProof.Rows L2
open Evl (Ex Ex.refl Ex.trans Ex.new Ex.mut ex_l ex_t fresh_back)

/-! ### statements -/
inductive Out where
  | nx (ρ : Env) | bk (ρ : Env) | ct (ρ : Env) | rt (d : D) | err (x : Exn) | stk
def Out.sat (N B C : Env → Prop) (T : D → Prop) (R : Exn → Prop) : Out → Prop
  | .nx ρ => N ρ
  | .bk ρ => B ρ
  | .ct ρ => C ρ
  | .rt d => T d
  | .err x => R x
  | .stk => False
theorem Out.sat_imp {N B C N' B' C' : Env → Prop} {T T' : D → Prop} {R R' : Exn → Prop} {o : Out} (h : Out.sat N B C T R o) (hn : ∀ ρ, N ρ → N' ρ) (hb : ∀ ρ, B ρ → B' ρ) (hc : ∀ ρ, C ρ → C' ρ) (ht : ∀ d, T d → T' d) (hr : ∀ x, R x → R' x) : Out.sat N' B' C' T' R' o := by
  cases o with
  | nx ρ => exact hn ρ h
  | bk ρ => exact hb ρ h
  | ct ρ => exact hc ρ h
  | rt d => exact ht d h
  | err x => exact hr x h
  | stk => exact h
def Res.out {α : Type} (r : Res α) (f : α → Out) : Out :=
  match r with
  | .ok a => f a
  | .err x => .err x
  | .stk => .stk
theorem out_sat {α : Type} {N B C : Env → Prop} {T : D → Prop} {R : Exn → Prop} {r : Res α} {f : α → Out} (h : Out.sat N B C T R (r.out f)) : Res.sat (fun a => Out.sat N B C T R (f a)) R r := by
  cases r <;> exact h
section
variable (mg : Mg) (K : Frag) (κ : Nat → Kd) (E : EX)
/-- what is asked of where a statement ends; F0 H0: the entry's -/
def OutOk (F0 H0 F H : Hp) (Dn : Ends) (o : Out) : Prop :=
  Out.sat (fun ρ' => ∀ σ' F' H', Ex F F' → Stt K κ F0 H0 F' H' σ' ρ' → Dn.nx σ' H') (fun ρ' => ∀ σ' F' H', Ex F F' → Stt K κ F0 H0 F' H' σ' ρ' → Dn.bk σ' H') (fun ρ' => ∀ σ' F' H', Ex F F' → Stt K κ F0 H0 F' H' σ' ρ' → Dn.ct σ' H')
    (fun d => ∀ v F' H', Ext F0 H0 F' H' → E.ret H0 d v F' H' → Dn.rt v H') (fun x => ∀ σ, ErrOk mg K (E.err σ) F0 H0 x) o
theorem OutOk.mono {mg : Mg} {K : Frag} {κ : Nat → Kd} {E : EX} {F0 H0 F H F' H' : Hp} {Dn : Ends} {o : Out} (x : Ex F F') (h : OutOk mg K κ E F0 H0 F H Dn o) : OutOk mg K κ E F0 H0 F' H' Dn o :=
  Out.sat_imp h (fun ρ k σ' F2 H2 e s => k σ' F2 H2 (x.trans e) s) (fun ρ k σ' F2 H2 e s => k σ' F2 H2 (x.trans e) s) (fun ρ k σ' F2 H2 e s => k σ' F2 H2 (x.trans e) s) (fun _ z => z) fun _ z => z
def rdS (m : Env → Out) : TS := fun Dn σ H => ∃ F0 H0 F ρ, Stt K κ F0 H0 F H σ ρ ∧ OutOk mg K κ E F0 H0 F H Dn (m ρ)
end
def DS (X : Cx) (κ : Nat → Kd) (E : EX) (e : Stmt) (m : Env → Out) : Prop := PS X e (rdS X.mg X.K κ E m)
def DSs (X : Cx) (κ : Nat → Kd) (E : EX) (e : List Stmt) (m : Env → Out) : Prop := PSs X e (rdS X.mg X.K κ E m)

section
variable {X : Cx} {κ : Nat → Kd} {E : EX} {a b c e : Expr} {es : List Expr} {pos : Pos} {st : Stmt} {sts : List Stmt}
def mNext : Env → Out := .nx
def mSeq (m n : Env → Out) : Env → Out := fun ρ =>
  match m ρ with
  | .nx ρ' => n ρ'
  | o => o
theorem ds_nil : DSs X κ E [] mNext := pss_nil.imp fun Dn σ H ⟨F0, H0, F, ρ, S, k⟩ => k σ F H (Ex.refl F) S
theorem ds_cons {m n : Env → Out} (h : DS X κ E st m) (hs : DSs X κ E sts n) : DSs X κ E (st :: sts) (mSeq m n) :=
  (pss_cons h hs).imp fun Dn σ H ⟨F0, H0, F, ρ, S, k⟩ => ⟨F0, H0, F, ρ, S, by
    unfold mSeq at k
    cases q : m ρ with
    | nx ρ' => rw [q] at k; exact fun σ' F' H' x S' => ⟨F0, H0, F', ρ', S', OutOk.mono (H := H) x k⟩
    | bk ρ' => rw [q] at k; exact k
    | ct ρ' => rw [q] at k; exact k
    | rt d => rw [q] at k; exact k
    | err x => rw [q] at k; exact k
    | stk => rw [q] at k; exact k⟩
theorem ds_one {m : Env → Out} (h : DS X κ E st m) : DSs X κ E [st] m := pss_one h
theorem ds_pass : DS X κ E (.Pass pos) mNext := ps_pass.imp fun Dn σ H ⟨F0, H0, F, ρ, S, k⟩ => k σ F H (Ex.refl F) S
theorem ds_break : DS X κ E (.Break pos) .bk := ps_break.imp fun Dn σ H ⟨F0, H0, F, ρ, S, k⟩ => k σ F H (Ex.refl F) S
theorem ds_continue : DS X κ E (.Continue pos) .ct := ps_continue.imp fun Dn σ H ⟨F0, H0, F, ρ, S, k⟩ => k σ F H (Ex.refl F) S
theorem ds_doc {x j pos pos'} : DS X κ E (.Expr (.Constant (.str x) j pos) pos') mNext := ps_doc.imp fun Dn σ H ⟨F0, H0, F, ρ, S, k⟩ => k σ F H (Ex.refl F) S
/-- what is never reached -/
def mStk : Env → Out := fun _ => .stk
theorem ds_stk : DS X κ E st mStk := ps_never.imp fun Dn σ H ⟨F0, H0, F, ρ, S, k⟩ => k
/-- the error's wish, seen from the entry -/
theorem err_back {mg : Mg} {K : Frag} {F0 H0 F H : Hp} {σ : L2.St} {ρ : Env} (S : Stt K κ F0 H0 F H σ ρ) {x : Exn} (h : ∀ σ, ErrOk mg K (E.err σ) F0 H0 x) {σ' : L2.St} : ErrOk mg K (E.err σ') F H x := (h σ').mono S.ext
def mRet (m : Env → Res D) : Env → Out := fun ρ => (m ρ).out .rt
theorem ds_ret {m : Env → Res D} (h : DE X κ E e m) (hR : ∀ H0 d v F H, Rp X.K F v d → E.ret H0 d v F H := by exact fun _ _ _ _ _ h => h) : DS X κ E (.Return (some e) pos) (mRet m) :=
  (ps_ret h).imp fun Dn σ H ⟨F0, H0, F, ρ, S, k⟩ => ⟨F0, H0, F, ρ, S, Res.sat_imp (out_sat k) (fun d _ k v F' H' x r => k v F' H' (S.ext.trans x) (hR _ _ _ _ _ r)) fun x z => err_back S z⟩
theorem ds_retN (hR : ∀ H0 d v F H, Rp X.K F v d → E.ret H0 d v F H := by exact fun _ _ _ _ _ h => h) : DS X κ E (.Return none pos) (fun _ => .rt .none) := ps_retN.imp fun Dn σ H ⟨F0, H0, F, ρ, S, k⟩ => k .non F H S.ext (hR _ _ _ _ _ .non)
def mAsg (i : Nat) (m : Env → Res D) : Env → Out := fun ρ => (m ρ).out fun d => .nx (ρ.set i (some d))
theorem ds_set {i : Nat} {x : Str} {pos' : Pos} {m : Env → Res D} (hk : κ i = .im) (hN : X.N.Nodup) (hi : X.N[i]? = some x) (hx : Loc X.env.scope x) (h : DE X κ E e m) (hs : swapsWith e (some (.Name x pos')) pos.line X.env = pure false := by rfl)
    (hf : X.fn x = true ∨ X.env.scope.names.lookup x = some .local := by first | exact .inl rfl | exact .inr rfl | assumption) : DS X κ E (.Assign [.Name x pos'] e pos) (mAsg i m) :=
  (ps_set (i := i) hN hi hx h hs hf).imp fun Dn σ H ⟨F0, H0, F, ρ, S, k⟩ => ⟨F0, H0, F, ρ, S, Res.sat_imp (out_sat k) (fun d _ k v F' H' x r => k _ F' H' x.f ((S.mono x).set hk r)) fun x z => err_back S z⟩
/-- an owned name gets a new list -/
def mAsgN (i : Nat) (m : Env → Res (List D)) : Env → Out := fun ρ => (m ρ).out fun ds => .nx (ρ.set i (some (.list ds)))
theorem asgN {mg : Mg} {K : Frag} {i : Nat} {m : Env → Res (List D)} (hk : κ i = .ow) {Dn : Ends} {σ : L2.St} {H F0 H0 F : Hp} {ρ : Env} (S : Stt K κ F0 H0 F H σ ρ) (k : OutOk mg K κ E F0 H0 F H Dn (mAsgN i m ρ)) :
    (m ρ).sat (fun ds => ∀ p vs F' H', Ext F H F' H' → H p = none → F' p = none → H' p = some (.lst vs) → RpA K F' vs ds → Dn.nx (σ.set i (some (.ref p))) H') (ErrOk mg K (E.err σ) F H) :=
  Res.sat_imp (out_sat k) (fun ds _ k p vs F' H' x hp fp hv r => k _ F' H' x.f ((S.mono x).setO hk (fresh_back S.h0 hp) fp (.inl ⟨vs, ds, rfl, hv, r⟩) (fun j d w hj _ ej ow => ((S.slotAt hj ej).owned (Owns.back (S.slotAt hj ej) (fun a _ o q => x.h a o q) (fun a o q => x.s a o (x.f a o q)) ow)).2.2 hp))) fun x z => err_back S z
theorem ds_setN {i : Nat} {x : Str} {pos' : Pos} {m : Env → Res (List D)} (hk : κ i = .ow) (hN : X.N.Nodup) (hi : X.N[i]? = some x) (hx : Loc X.env.scope x) (h : DN X κ E e m) (hs : swapsWith e (some (.Name x pos')) pos.line X.env = pure false := by rfl)
    (hf : X.fn x = true ∨ X.env.scope.names.lookup x = some .local := by first | exact .inl rfl | exact .inr rfl | assumption) : DS X κ E (.Assign [.Name x pos'] e pos) (mAsgN i m) :=
  (ps_set (i := i) hN hi hx h hs hf).imp fun Dn σ H ⟨F0, H0, F, ρ, S, k⟩ => ⟨F0, H0, F, ρ, S, asgN hk S k⟩
def mIfS (t : Env → Res Bool) (m n : Env → Out) : Env → Out := fun ρ => (t ρ).out fun b => if b = true then m ρ else n ρ
theorem ds_if {t : Env → Res Bool} {m n : Env → Out} {sts2 : List Stmt} (hc : DT X κ E c t) (h1 : DSs X κ E sts m) (h2 : DSs X κ E sts2 n) : DS X κ E (.If c sts sts2 pos) (mIfS t m n) :=
  (ps_if hc h1 h2).imp fun Dn σ H ⟨F0, H0, F, ρ, S, k⟩ => ⟨F0, H0, F, ρ, S, Res.sat_imp (out_sat k) (fun b _ k F' H' x => by
    cases b with
    | true => exact ⟨F0, H0, F', ρ, S.mono x, OutOk.mono (H := H) x.f k⟩
    | false => exact ⟨F0, H0, F', ρ, S.mono x, OutOk.mono (H := H) x.f k⟩) fun x z => err_back S z⟩
def mExpr (m : Env → Res D) : Env → Out := fun ρ => (m ρ).out fun _ => .nx ρ
theorem ds_expr {m : Env → Res D} (h : DE X κ E e m) (hs : swapsWith e none pos.line X.env = pure false := by rfl) : DS X κ E (.Expr e pos) (mExpr m) :=
  (ps_expr h hs).imp fun Dn σ H ⟨F0, H0, F, ρ, S, k⟩ => ⟨F0, H0, F, ρ, S, Res.sat_imp (out_sat k) (fun d _ k v F' H' x r => k σ F' H' x.f (S.mono x)) fun x z => err_back S z⟩

/-! ### freezing an owned slot; forgetting a slot -/
/-- F and the objects that a slot owns -/
theorem OdK.still {K : Frag} {H0 F H F' : Hp} (f : Ex F F') : ∀ {kvs : List (Key × V)} {ds : List (D × D)}, (∀ q b, (q, V.ref b) ∈ kvs → F' b = H b) → OdK K H0 F H kvs ds → RpK K F' kvs ds
  | _, _, _, .nil => .nil
  | _, _, hh, .cons ko h1 h2 h3 h4 h5 => .cons ko (.lst (Evl.sq_of ((hh _ _ List.mem_cons_self).trans h3)) (h4.mono f)) (OdK.still f (fun q b hb => hh q b (List.mem_cons_of_mem _ hb)) h5)
/-- the heap with the object of a held as it lies, if it is a dict -/
theorem lock_at {X : Cx} {pins : List (Addr × Obj)} {σ : L2.St} {H : Hp} {s : Shared} (I : Inv X pins σ H s) {a : Addr} {u : HO} (h : H a = some u) (hl : (∃ xs, u = .lst xs) ∨ ∃ kvs, u = .dK kvs) :
    ∃ u', (∀ kvs, u' ≠ .dK kvs) ∧ Inv X pins σ (upd H a u') s ∧ ((∃ xs, u = .lst xs ∧ u' = .lst xs) ∨ ∃ kvs o, u = .dK kvs ∧ u' = .frz o (.dK kvs)) := by
  rcases hl with ⟨xs, rfl⟩ | ⟨kvs, rfl⟩
  · have e : upd H a (.lst xs) = H := by
      funext b
      by_cases z : b = a
      · rw [z, upd_same, h]
      · rw [upd_ne z]
    exact ⟨.lst xs, (fun _ z => by cases z), (by rw [e]; exact I), .inl ⟨xs, rfl, rfl⟩⟩
  · obtain ⟨o, I2⟩ := I.lock h True.intro
    exact ⟨_, (fun _ z => by cases z), I2, .inr ⟨kvs, o, rfl, rfl⟩⟩
open Classical in
theorem Stt.freeze {X : Cx} {pins : List (Addr × Obj)} {s : Shared} {F0 H0 F H : Hp} {σ : L2.St} {ρ : Env} (I : Inv X pins σ H s) (S : Stt X.K κ F0 H0 F H σ ρ) (i : Nat) {κ' : Nat → Kd} (hi : (κ i).frz = true) (hi' : κ' i = .im) (ho : ∀ j, j ≠ i → κ' j = κ j) :
    ∃ F' H', Ex F F' ∧ Inv X pins σ H' s ∧ Stt X.K κ' F0 H0 F' H' σ ρ := by
  have sep' : ∀ j l b dj dl u w, j ≠ l → ρ[j]? = some (some dj) → ρ[l]? = some (some dl) → σ[j]? = some (some u) → σ[l]? = some (some w) → Owns (κ' j) H u b → Owns (κ' l) H w b → False := fun j l b dj dl u w n hj hl ej el oj ol => by
    have nj : j ≠ i := fun z => by rw [z, hi'] at oj; exact oj
    have nl : l ≠ i := fun z => by rw [z, hi'] at ol; exact ol
    rw [ho j nj] at oj
    rw [ho l nl] at ol
    exact S.sep j l b dj dl u w n hj hl ej el oj ol
  cases hd : (ρ[i]?).join with
  | none =>
    have hn : ∀ d, ρ[i]? ≠ some (some d) := fun d e => by rw [e] at hd; cases hd
    refine ⟨F, H, Ex.refl F, I, S.ex0, S.h0, S.o0, S.sub, S.nf, S.len, fun j d h => ?_, sep'⟩
    have : j ≠ i := fun z => hn d (z ▸ h)
    rw [ho j this]
    exact S.slot j d h
  | some d =>
    have hd' := join_some hd
    obtain ⟨u, hu, si⟩ := S.slot i d hd'
    -- the outer object
    obtain ⟨a, x, eu, own_a, hx, hxl⟩ : ∃ a x, u = .ref a ∧ Owns (κ i) H u a ∧ H a = some x ∧ ((∃ xs, x = .lst xs) ∨ ∃ kvs, x = .dK kvs) := by
      cases kj : κ i with
      | ow =>
        rw [kj] at si
        obtain ⟨a, e, a0, fa, o⟩ := si
        rcases o with ⟨vs, ds, _, g, r⟩ | ⟨vs, ds, _, g, r⟩
        · exact ⟨a, _, e, e, g, .inl ⟨_, rfl⟩⟩
        · exact ⟨a, _, e, e, g, .inr ⟨_, rfl⟩⟩
      | pw p =>
        rw [kj] at si
        obtain ⟨e, a0, fa, o⟩ := si
        rcases o with ⟨vs, ds, _, g, r⟩ | ⟨vs, ds, _, g, r⟩
        · exact ⟨p, _, e, e, g, .inl ⟨_, rfl⟩⟩
        · exact ⟨p, _, e, e, g, .inr ⟨_, rfl⟩⟩
      | od =>
        rw [kj] at si
        obtain ⟨a, kvs, ds, e, a0, fa, _, g, ok, nd⟩ := si
        exact ⟨a, _, e, .inl e, g, .inr ⟨_, rfl⟩⟩
      | op =>
        rw [kj] at si
        obtain ⟨a, bs, ws, ds, e, a0, fa, _, g, ok, nd⟩ := si
        exact ⟨a, _, e, .inl e, g, .inl ⟨_, rfl⟩⟩
      | ol =>
        rw [kj] at si
        obtain ⟨a, bs, ds, e, a0, fa, _, g, ok, nd⟩ := si
        exact ⟨a, _, e, .inl e, g, .inl ⟨_, rfl⟩⟩
      | mx => rw [kj] at hi; cases hi
      | im => rw [kj] at hi; cases hi
      | bw => rw [kj] at hi; cases hi
      | xn _ _ => rw [kj] at hi; cases hi
    obtain ⟨x', nx, I', hxx⟩ := lock_at I hx hxl
    obtain ⟨F', hF'⟩ : ∃ F' : Hp, F' = fun b => if Owns (κ i) H u b then upd H a x' b else F b := ⟨_, rfl⟩
    have inn : ∀ b, Owns (κ i) H u b → F' b = upd H a x' b := fun b o => by rw [hF']; exact if_pos o
    have out : ∀ b, ¬ Owns (κ i) H u b → F' b = F b := fun b o => by rw [hF']; exact if_neg o
    have fF : Ex F F' := fun b y e => by rw [out b fun o => by rw [(si.owned o).2.1] at e; cases e]; exact e
    have fa' : F' a = some x' := (inn a own_a).trans upd_same
    have stay : ∀ b, ¬ Owns (κ i) H u b → upd H a x' b = H b := fun b o => upd_ne fun z => o (z ▸ own_a)
    have keepO : ∀ {j : Nat} {w : V} {dj : D} {b : Addr}, j ≠ i → ρ[j]? = some (some dj) → σ[j]? = some (some w) → Owns (κ j) H w b → ¬ Owns (κ i) H u b := fun {j w dj b} z hj g ob oi => S.sep i j b d dj u w (Ne.symm z) hd' hj hu g oi ob
    have lstOf : ∀ b, Owns (κ i) H u b → ∀ y, upd H a x' b = some y → ∀ kvs, y ≠ .dK kvs := fun b o y e kvs => by
      by_cases z : b = a
      · rw [z, upd_same] at e; cases e; exact nx kvs
      · rw [upd_ne z] at e
        cases kj : κ i with
        | ow => rw [kj] at o; have o : u = .ref b := o; rw [eu] at o; cases o; exact absurd rfl z
        | pw p => rw [kj] at o; have o : u = .ref b := o; rw [eu] at o; cases o; exact absurd rfl z
        | od =>
          rw [kj] at si o
          obtain ⟨a', kvs', ds, e', a0, fa, _, g, ok, nd⟩ := si
          rcases (show u = .ref b ∨ ∃ a kvs q, u = .ref a ∧ H a = some (.dK kvs) ∧ (q, V.ref b) ∈ kvs from o) with o | ⟨a2, k2, q, e2, g2, m⟩
          · rw [eu] at o; cases o; exact absurd rfl z
          · rw [e'] at e2; cases e2
            rw [g] at g2; cases g2
            obtain ⟨_, _, vs, hb⟩ := ok.mem m
            rw [hb] at e; cases e
            exact fun q => by cases q
        | op =>
          rw [kj] at si o
          obtain ⟨a', bs, ws, ds, e', a0, fa, _, g, ok, nd⟩ := si
          rcases (show u = .ref b ∨ ∃ a ws t x, u = .ref a ∧ H a = some (.lst ws) ∧ V.ref t ∈ ws ∧ H t = some (.tup [x, .ref b]) from o) with o | ⟨a2, w2, t, x2, e2, g2, m, m2⟩
          · rw [eu] at o; cases o; exact absurd rfl z
          · rw [e'] at e2; cases e2
            rw [g] at g2; cases g2
            obtain ⟨⟨_, _, vs, hb⟩, _⟩ := ok.at (ok.mem m m2)
            rw [hb] at e; cases e
            exact fun q => by cases q
        | ol =>
          rw [kj] at si o
          obtain ⟨a', bs, ds, e', a0, fa, _, g, ok, nd⟩ := si
          rcases (show u = .ref b ∨ ∃ a ws, u = .ref a ∧ H a = some (.lst ws) ∧ V.ref b ∈ ws from o) with o | ⟨a2, w2, e2, g2, m⟩
          · rw [eu] at o; cases o; exact absurd rfl z
          · rw [e'] at e2; cases e2
            rw [g] at g2; cases g2
            obtain ⟨_, _, vs, hb⟩ := ok.mem (ref_mem m)
            rw [hb] at e; cases e
            exact fun q => by cases q
        | mx => rw [kj] at hi; cases hi
        | im => rw [kj] at hi; cases hi
        | bw => rw [kj] at hi; cases hi
        | xn _ _ => rw [kj] at hi; cases hi
    refine ⟨F', upd H a x', fF, I', S.ex0.trans fF, fun b y e => ?_, fun b h3 h4 => ?_, fun b w q => ?_, fun b kvs q => ?_, S.len, fun j dj h => ?_, fun j l b dj dl v w n hj hl ej el oj ol => ?_⟩
    · rw [stay b fun o => by rw [(si.owned o).1] at e; cases e]
      exact S.h0 b y e
    · rw [out b fun o => h4 (si.owned o).1]
      exact S.o0 b h3 h4
    · by_cases o : Owns (κ i) H u b
      · rw [inn b o] at q; exact q
      · rw [out b o] at q; rw [stay b o]; exact S.sub b w q
    · by_cases o : Owns (κ i) H u b
      · rw [inn b o] at q; exact lstOf b o _ q kvs rfl
      · rw [out b o] at q; exact S.nf b kvs q
    · by_cases z : j = i
      · subst z
        rw [hd'] at h
        cases h
        refine ⟨u, hu, ?_⟩
        rw [hi']
        cases kj : κ j with
        | ow =>
          rw [kj] at si
          obtain ⟨a2, e, a0, fa, o⟩ := si
          rw [eu] at e
          cases e
          subst eu
          rcases o with ⟨vs, ds, rfl, g, r⟩ | ⟨vs, ds, rfl, g, r⟩
          · rw [hx] at g
            cases g
            rcases hxx with ⟨xs, e1, e2⟩ | ⟨kvs, o, e1, e2⟩
            · cases e1; subst e2; exact Rp.lst (Evl.sq_of fa') (r.mono fF)
            · cases e1
          · rw [hx] at g
            cases g
            rcases hxx with ⟨xs, e1, e2⟩ | ⟨kvs, o, e1, e2⟩
            · cases e1
            · cases e1; subst e2; exact Rp.dct (.inr ⟨o, fa'⟩) (r.mono fF)
        | pw p =>
          rw [kj] at si
          obtain ⟨e, a0, fa, o⟩ := si
          rw [eu] at e
          cases e
          subst eu
          rcases o with ⟨vs, ds, rfl, g, r⟩ | ⟨vs, ds, rfl, g, r⟩
          · rw [hx] at g
            cases g
            rcases hxx with ⟨xs, e1, e2⟩ | ⟨kvs, o, e1, e2⟩
            · cases e1; subst e2; exact Rp.lst (Evl.sq_of fa') (r.mono fF)
            · cases e1
          · rw [hx] at g
            cases g
            rcases hxx with ⟨xs, e1, e2⟩ | ⟨kvs, o, e1, e2⟩
            · cases e1
            · cases e1; subst e2; exact Rp.dct (.inr ⟨o, fa'⟩) (r.mono fF)
        | od =>
          rw [kj] at si inn stay
          obtain ⟨a2, kvs, ds, e, a0, fa, rfl, g, ok, nd⟩ := si
          rw [eu] at e
          cases e
          have nest : ∀ q b, (q, V.ref b) ∈ kvs → F' b = H b := fun q b hb => by
            rw [inn b (.inr ⟨a, kvs, q, eu, g, hb⟩), upd_ne fun z => ?_]
            obtain ⟨_, _, vs, h⟩ := ok.mem hb
            rw [z, g] at h; cases h
          have r := ok.still fF nest
          subst eu
          rw [hx] at g
          cases g
          rcases hxx with ⟨xs, e1, e2⟩ | ⟨kvs, o, e1, e2⟩
          · cases e1
          · cases e1; subst e2; exact Rp.dct (.inr ⟨o, fa'⟩) r
        | op =>
          rw [kj] at si inn stay
          obtain ⟨a2, bs, ws, ds, e, a0, fa, rfl, g, ok, nd, na⟩ := si
          rw [eu] at e
          cases e
          have nest : ∀ b ∈ bs, F' b = H b := fun b hb => by
            obtain ⟨_, t, x, m, g2⟩ := ok.at hb
            rw [inn b (.inr ⟨a, ws, t, x, eu, g, m, g2⟩), upd_ne fun z => na (by rw [← z]; exact hb)]
          have r := ok.still fF nest
          subst eu
          rw [hx] at g
          cases g
          rcases hxx with ⟨xs, e1, e2⟩ | ⟨kvs, o, e1, e2⟩
          · cases e1; subst e2; exact Rp.lst (Evl.sq_of fa') r
          · cases e1
        | ol =>
          rw [kj] at si inn stay
          obtain ⟨a2, bs, ds, e, a0, fa, rfl, g, ok, nd, na⟩ := si
          rw [eu] at e
          cases e
          have nest : ∀ b ∈ bs, F' b = H b := fun b hb => by
            rw [inn b (.inr ⟨a, _, eu, g, List.mem_map.mpr ⟨b, hb, rfl⟩⟩), upd_ne fun z => na (by rw [← z]; exact hb)]
          have r := ok.still fF nest
          subst eu
          rw [hx] at g
          cases g
          rcases hxx with ⟨xs, e1, e2⟩ | ⟨kvs, o, e1, e2⟩
          · cases e1; subst e2; exact Rp.lst (Evl.sq_of fa') r
          · cases e1
        | mx => rw [kj] at hi; cases hi
        | im => rw [kj] at hi; cases hi
        | bw => rw [kj] at hi; cases hi
        | xn _ _ => rw [kj] at hi; cases hi
      · obtain ⟨w, g1, g2⟩ := S.slot j dj h
        refine ⟨w, g1, ?_⟩
        rw [ho j z]
        exact g2.keep fF (fun b ob => by rw [out b (keepO z h g1 ob)]; exact (g2.owned ob).2.1)
          (fun b o h0 q => by rw [stay b fun oi => h0 (si.owned oi).1]; exact q) (fun b ob o q => by rw [stay b (keepO z h g1 ob)]; exact q) fun b o q => by
            rw [stay b fun oi => by rw [(si.owned oi).2.1] at q; cases q]
            exact S.sub b o q
    · have nj : j ≠ i := fun z => by rw [z, hi'] at oj; exact oj
      have nl : l ≠ i := fun z => by rw [z, hi'] at ol; exact ol
      rw [ho j nj] at oj
      rw [ho l nl] at ol
      have back : ∀ {j : Nat} {w : V} {dj : D}, j ≠ i → ρ[j]? = some (some dj) → σ[j]? = some (some w) → Owns (κ j) (upd H a x') w b → Owns (κ j) H w b := fun {j w dj} z hj g ob => by
        have g2 := S.slotAt hj g
        refine Owns.back g2 (fun a2 ea y hy => ?_) (fun a2 y q => ?_) ob
        · rw [stay a2 (keepO z hj g ?_)]
          · exact hy
          · subst ea
            have q := owns_owned ob
            generalize κ j = k at q ⊢
            cases k <;> first | exact rfl | exact Or.inl rfl | cases q
        · rw [stay a2 fun oi => by rw [(si.owned oi).2.1] at q; cases q]
          exact S.sub a2 y q
      exact S.sep j l b dj dl v w n hj hl ej el (back nj hj ej oj) (back nl hl el ol)
/-- from here on slot i stands still -/
def kdIm (κ : Nat → Kd) (i : Nat) : Nat → Kd := fun j => if j = i then .im else κ j
/-- the kinds at the end may be others -/
def rdS2 (mg : Mg) (K : Frag) (κ κe : Nat → Kd) (E : EX) (m : Env → Out) : TS := fun Dn σ H => ∃ F0 H0 F ρ, Stt K κ F0 H0 F H σ ρ ∧ OutOk mg K κe E F0 H0 F H Dn (m ρ)
def DSs2 (X : Cx) (κ κe : Nat → Kd) (E : EX) (e : List Stmt) (m : Env → Out) : Prop := PSs X e (rdS2 X.mg X.K κ κe E m)
variable {κe : Nat → Kd}
theorem ds2_of {m : Env → Out} (h : DSs X κ E sts m) : DSs2 X κ κ E sts m := h
/-- a statement that leaves nothing but by its end: no break, no continue -/
def Straight (m : Env → Out) : Prop := ∀ ρ, (∀ ρ', m ρ ≠ .bk ρ') ∧ ∀ ρ', m ρ ≠ .ct ρ'
theorem ds2_cons {m n : Env → Out} (h : DS X κ E st m) (hs : DSs2 X κ κe E sts n) (hm : ∀ ρ, (∀ ρ', m ρ ≠ .bk ρ') ∧ ∀ ρ', m ρ ≠ .ct ρ') : DSs2 X κ κe E (st :: sts) (mSeq m n) :=
  (pss_cons h hs).imp fun Dn σ H ⟨F0, H0, F, ρ, S, k⟩ => ⟨F0, H0, F, ρ, S, by
    unfold mSeq at k
    cases q : m ρ with
    | nx ρ' => rw [q] at k; exact fun σ' F' H' x S' => ⟨F0, H0, F', ρ', S', OutOk.mono (H := H) x k⟩
    | bk ρ' => exact absurd q ((hm ρ).1 ρ')
    | ct ρ' => exact absurd q ((hm ρ).2 ρ')
    | rt d => rw [q] at k; exact k
    | err x => rw [q] at k; exact k
    | stk => rw [q] at k; exact k⟩
theorem ds2_freeze (i : Nat) {m : Env → Out} (h : DSs2 X (kdIm κ i) κe E sts m) (hi : (κ i).frz = true) : DSs2 X κ κe E sts m :=
  ⟨fun pins s σ H Dn I ⟨F0, H0, F, ρ, S, k⟩ => by
    obtain ⟨F', H', x, I', S'⟩ := Stt.freeze I S i (κ' := kdIm κ i) hi (if_pos rfl) (fun j hj => if_neg hj)
    exact h.run pins s σ H' Dn I' ⟨F0, H0, F', ρ, S', OutOk.mono (H := H) x k⟩⟩
def forget (is : List Nat) (ρ : Env) : Env := is.foldl (fun r i => r.set i none) ρ
theorem forget_get : ∀ (is : List Nat) (ρ : Env) (i : Nat) (d : D), (forget is ρ)[i]? = some (some d) → ρ[i]? = some (some d) ∧ i ∉ is
  | [], ρ, i, d, h => ⟨h, by simp⟩
  | j :: is, ρ, i, d, h => by
    obtain ⟨h1, h2⟩ := forget_get is (ρ.set j none) i d h
    by_cases q : j = i
    · subst q
      rw [List.getElem?_set, if_pos rfl] at h1
      split at h1 <;> cases h1
    · rw [List.getElem?_set_ne q] at h1
      exact ⟨h1, by simp [h2, Ne.symm q]⟩
theorem forget_len : ∀ (is : List Nat) (ρ : Env), (forget is ρ).length = ρ.length
  | [], ρ => rfl
  | j :: is, ρ => by
    show (forget is (ρ.set j none)).length = _
    rw [forget_len is, List.length_set]
theorem Stt.forget {K : Frag} {F0 H0 F H : Hp} {σ : L2.St} {ρ : Env} (S : Stt K κe F0 H0 F H σ ρ) (is : List Nat) (hk : ∀ j, j ∉ is → κe j = κ j) : Stt K κ F0 H0 F H σ (forget is ρ) := by
  refine ⟨S.ex0, S.h0, S.o0, S.sub, S.nf, by rw [forget_len, S.len], fun j d h => ?_, fun j l a dj dl u w hn' hj hl ej el oj ol => ?_⟩
  · obtain ⟨h1, h2⟩ := forget_get is ρ j d h
    rw [← hk j h2]
    exact S.slot j d h1
  · obtain ⟨h1, h2⟩ := forget_get is ρ j dj hj
    obtain ⟨h3, h4⟩ := forget_get is ρ l dl hl
    rw [← hk j h2] at oj
    rw [← hk l h4] at ol
    exact S.sep j l a dj dl u w hn' h1 h3 ej el oj ol
def mForget (is : List Nat) (m : Env → Out) : Env → Out := fun ρ =>
  match m ρ with
  | .nx ρ' => .nx (forget is ρ')
  | .bk ρ' => .bk (forget is ρ')
  | .ct ρ' => .ct (forget is ρ')
  | .rt d => .rt d
  | .err x => .err x
  | .stk => .stk
theorem ds2_forget (is : List Nat) {m : Env → Out} (h : DSs2 X κ κe E sts m) (hk : ∀ j, j ∉ is → κe j = κ j) : DSs X κ E sts (mForget is m) :=
  PSs.imp h fun Dn σ H ⟨F0, H0, F, ρ, S, k⟩ => ⟨F0, H0, F, ρ, S, by
    unfold mForget at k
    cases q : m ρ with
    | nx ρ' => rw [q] at k; exact fun σ' F' H' x S' => k σ' F' H' x (S'.forget is hk)
    | bk ρ' => rw [q] at k; exact fun σ' F' H' x S' => k σ' F' H' x (S'.forget is hk)
    | ct ρ' => rw [q] at k; exact fun σ' F' H' x S' => k σ' F' H' x (S'.forget is hk)
    | rt d => rw [q] at k; exact k
    | err x => rw [q] at k; exact k
    | stk => rw [q] at k; exact k⟩

/-! ### targets -/
def rdG (K : Frag) (κ : Nat → Kd) (is : List Nat) (m : D → Env → Option Env) : TG := fun v σ H Q => ∃ F0 H0 F ρ d ρ', Stt K κ F0 H0 F H σ ρ ∧ Rp K F v d ∧ m d ρ = some ρ' ∧
  ∀ σ' F' H', Ext F H F' H' → Stt K κ F0 H0 F' H' σ' ρ' → σ'.length = σ.length → (∀ i, i ∉ is → σ'[i]? = σ[i]?) → Q σ' H'
def rdGs (K : Frag) (κ : Nat → Kd) (is : List Nat) (m : List D → Env → Option Env) : TGs := fun vs σ H Q => ∃ F0 H0 F ρ ds ρ', Stt K κ F0 H0 F H σ ρ ∧ RpA K F vs ds ∧ m ds ρ = some ρ' ∧
  ∀ σ' F' H', Ext F H F' H' → Stt K κ F0 H0 F' H' σ' ρ' → σ'.length = σ.length → (∀ i, i ∉ is → σ'[i]? = σ[i]?) → Q σ' H'
def DG (X : Cx) (κ : Nat → Kd) (e : Expr) (is : List Nat) (m : D → Env → Option Env) : Prop := PG X e (rdG X.K κ is m)
def DGs (X : Cx) (κ : Nat → Kd) (e : List Expr) (is : List Nat) (m : List D → Env → Option Env) : Prop := PGs X e (rdGs X.K κ is m)
theorem _root_.L2.PG.imp {X : Cx} {e : Expr} {t t' : TG} (h : PG X e t) (i : ∀ v σ H Q, t' v σ H Q → t v σ H Q) : PG X e t' := ⟨fun pins s σ H v u Q I r hw => h.run pins s σ H v u Q I r (i v σ H Q hw)⟩
theorem _root_.L2.PGs.imp {X : Cx} {e : List Expr} {t t' : TGs} (h : PGs X e t) (i : ∀ v σ H Q, t' v σ H Q → t v σ H Q) : PGs X e t' := ⟨fun pins s σ H v u Q I r hw => h.run pins s σ H v u Q I r (i v σ H Q hw)⟩
def gSet (i : Nat) : D → Env → Option Env := fun d ρ => some (ρ.set i (some d))
theorem dg_name {i : Nat} {x : Str} (hk : κ i = .im) (hN : X.N.Nodup) (hi : X.N[i]? = some x) (hx : Loc X.env.scope x) (hf : X.fn x = true ∨ X.env.scope.names.lookup x = some .local := by first | exact .inl rfl | exact .inr rfl | assumption) : DG X κ (.Name x pos) [i] (gSet i) :=
  (pg_name hN hi hx hf).imp fun v σ H Q ⟨F0, H0, F, ρ, d, ρ', S, r, e, k⟩ => by
    cases e
    refine k _ F H (Ext.refl S.sub) (S.set hk r) (by rw [List.length_set]) fun j hj => ?_
    rw [List.getElem?_set_ne (by simpa using (Ne.symm (by simpa using hj)))]
def gNilD : List D → Env → Option Env := fun ds ρ => match ds with
  | [] => some ρ
  | _ => none
def gConsD (g : D → Env → Option Env) (gs : List D → Env → Option Env) : List D → Env → Option Env := fun ds ρ => match ds with
  | [] => none
  | d :: ds => (g d ρ).bind (gs ds)
theorem dgs_nil : DGs X κ [] [] gNilD := pgs_nil.imp fun v σ H Q ⟨F0, H0, F, ρ, d, ρ', S, r, e, k⟩ => by
  cases r with
  | nil =>
    cases e
    exact ⟨rfl, k σ F H (Ext.refl S.sub) S rfl fun _ _ => rfl⟩
  | cons _ _ => cases e
theorem dgs_cons {is js : List Nat} {g : D → Env → Option Env} {gs : List D → Env → Option Env} (h : DG X κ e is g) (hs : DGs X κ es js gs)
    (hst : (assignEach (e :: es) X.env).map (·.2) = assign e X.env :: (assignEach es X.env).map (·.2) := by rfl) : DGs X κ (e :: es) (is ++ js) (gConsD g gs) :=
  (pgs_cons h hs hst).imp fun v σ H Q ⟨F0, H0, F, ρ, d, ρ', S, r, e, k⟩ => by
    cases r with
    | nil => cases e
    | @cons w vs dd ds r1 r2 =>
      have e' : (g dd ρ).bind (gs ds) = some ρ' := e
      cases q : g dd ρ with
      | none => rw [q] at e'; cases e'
      | some ρ1 =>
        rw [q] at e'
        refine ⟨w, vs, rfl, F0, H0, F, ρ, dd, ρ1, S, r1, q, fun σ1 F1 H1 x1 S1 l1 o1 => ?_⟩
        refine ⟨F0, H0, F1, ρ1, ds, ρ', S1, r2.mono x1.f, e', fun σ2 F2 H2 x2 S2 l2 o2 => k σ2 F2 H2 (x1.trans x2) S2 (l2.trans l1) fun i hi => ?_⟩
        have hi' : i ∉ is ∧ i ∉ js := by simpa using hi
        rw [o2 i hi'.2, o1 i hi'.1]
def gTupD (gs : List D → Env → Option Env) : D → Env → Option Env := fun d ρ => match d with
  | .tuple ds => gs ds ρ
  | _ => none
def lenG (n : Nat) (gs : List D → Env → Option Env) : List D → Env → Option Env := fun ds ρ => if ds.length = n then gs ds ρ else none
theorem dg_tup {is : List Nat} {k n : Nat} {gs : List D → Env → Option Env} (hc : X.calm = true) (h : DGs X κ es is gs)
    (hn : (assignEach es X.env).length = n := by rfl) (hst : (assignEach es X.env).findIdx? (·.1) = none := by rfl) : DG X κ (.Tuple es k pos) is (gTupD (lenG n gs)) :=
  (pg_tup hc h hn hst).imp fun v σ H Q ⟨F0, H0, F, ρ, d, ρ', S, r, e, k⟩ => by
    cases r with
    | @tup a xs ds h1 h2 =>
      have e' : (if ds.length = n then gs ds ρ else none) = some ρ' := e
      by_cases z : ds.length = n
      · rw [if_pos z] at e'
        exact ⟨a, xs, rfl, ex_t S.sub h1, by rw [h2.length]; exact z, F0, H0, F, ρ, ds, ρ', S, h2, e', k⟩
      · rw [if_neg z] at e'; cases e'
    | _ => cases e
/-- target = value -/
def mAsgG (g : D → Env → Option Env) (m : Env → Res D) : Env → Out := fun ρ => (m ρ).out fun d => (ofO (g d ρ)).out .nx
theorem ds_asg {tg : Expr} {is : List Nat} {g : D → Env → Option Env} {m : Env → Res D} (h : DE X κ E e m) (hg : DG X κ tg is g) (hs : swapsWithSole [tg] e pos.line X.env = pure false := by rfl) (hw : swappedStores [tg] e X.env = pure none := by rfl)
    (h1 : (assignEach [tg] X.env).map (·.2) = [assign tg X.env] := by rfl) : DS X κ E (.Assign [tg] e pos) (mAsgG g m) :=
  (ps_asg h hg hs hw h1).imp fun Dn σ H ⟨F0, H0, F, ρ, S, k⟩ => ⟨F0, H0, F, ρ, S, Res.sat_imp (out_sat k) (fun d _ k v F' H' x r => by
    obtain ⟨ρ', e, k⟩ := ofO_sat (out_sat k)
    exact ⟨F0, H0, F', ρ, d, ρ', S.mono x, r, e, fun σ' F2 H2 x2 S' _ _ => k σ' F2 H2 (x.f.trans x2.f) S'⟩) fun x z => err_back S z⟩

/-! ### walks -/
def WalkD (K : Frag) (G : Hp → Hp → Prop) (J : It) (ds : List D) : Prop := ∀ i F2 H2, G F2 H2 → Ex F2 H2 → i ≤ ds.length →
  (i < ds.length → J.go i H2 ∧ ∀ x H3, J.yld i H2 x H3 → ∃ d F3, ds[i]? = some d ∧ Ext F2 H2 F3 H3 ∧ Rp K F3 x d) ∧ (i = ds.length → J.stop i H2)
/-- over what stands still | over what is there for the while (for a comprehension) -/
def rdI (mg : Mg) (K : Frag) (κ : Nat → Kd) (E : EX) (m : Env → Res (List D)) : TI := fun σ H R => ∃ F0 H0 F ρ, Stt K κ F0 H0 F H σ ρ ∧
  (m ρ).sat (fun ds => ∀ J F' H', Ext F H F' H' → WalkD K (fun F2 H2 => Ex F' F2) J ds → R J H') (ErrOk mg K (E.err σ) F H)
def rdIp (mg : Mg) (K : Frag) (κ : Nat → Kd) (E : EX) (m : Env → Res (List D)) : TI := fun σ H R => ∃ F0 H0 F ρ, Stt K κ F0 H0 F H σ ρ ∧
  (m ρ).sat (fun ds => ∀ J F' H', Ext F H F' H' → WalkD K (fun F2 H2 => Ext F' H' F2 H2) J ds → R J H') (ErrOk mg K (E.err σ) F H)
def DI (X : Cx) (κ : Nat → Kd) (E : EX) (tg it : Expr) (m : Env → Res (List D)) : Prop := PI X tg it (rdI X.mg X.K κ E m)
def DIp (X : Cx) (κ : Nat → Kd) (E : EX) (tg it : Expr) (m : Env → Res (List D)) : Prop := PI X tg it (rdIp X.mg X.K κ E m)
theorem _root_.L2.PI.imp {X : Cx} {tg e : Expr} {t t' : TI} (h : PI X tg e t) (i : ∀ σ H R, t' σ H R → t σ H R) : PI X tg e t' := ⟨fun pins s σ H R I hw => h.run pins s σ H R I (i σ H R hw)⟩
theorem dip_of {tg : Expr} {m : Env → Res (List D)} (h : DI X κ E tg e m) : DIp X κ E tg e m := h.imp fun σ H R ⟨F0, H0, F, ρ, S, k⟩ =>
  ⟨F0, H0, F, ρ, S, Res.sat_imp k (fun ds _ k J F' H' x w => k J F' H' x fun i F2 H2 g => w i F2 H2 g.f) fun _ z => z⟩

/-! ### for -/
def forL (g : D → Env → Option Env) (b : Env → Out) : List D → Env → Out
  | [], ρ => .nx ρ
  | d :: ds, ρ =>
    match g d ρ with
    | none => .stk
    | some ρ1 =>
      match b ρ1 with
      | .nx ρ2 => forL g b ds ρ2
      | .ct ρ2 => forL g b ds ρ2
      | .bk ρ2 => .nx ρ2
      | .rt d => .rt d
      | .err x => .err x
      | .stk => .stk
def mFor (it : Env → Res (List D)) (g : D → Env → Option Env) (b : Env → Out) : Env → Out := fun ρ => (it ρ).out fun ds => forL g b ds ρ
theorem for_read {mg : Mg} {K : Frag} {it : Env → Res (List D)} {is : List Nat} {g : D → Env → Option Env} {b : Env → Out} : ∀ Dn σ H, rdS mg K κ E (mFor it g b) Dn σ H → tFor (rdI mg K κ E it) (rdG K κ is g) (rdS mg K κ E b) Dn σ H :=
  fun Dn σ H ⟨F0, H0, F, ρ, S, k⟩ => ⟨F0, H0, F, ρ, S, Res.sat_imp (out_sat k) (fun ds _ k J F1 H1 x1 w => by
    refine ⟨fun i m σ' H' => m = ds.length - i ∧ i ≤ ds.length ∧ ∃ F' ρ', Ex F1 F' ∧ Stt K κ F0 H0 F' H' σ' ρ' ∧ OutOk mg K κ E F0 H0 F' H' Dn (forL g b (ds.drop i) ρ'), ⟨ds.length, rfl, Nat.zero_le _, F1, ρ, Ex.refl F1, S.mono x1, OutOk.mono (H := H) x1.f k⟩, ?_⟩
    rintro i m σ' H' ⟨rfl, hi, F', ρ', e1, S', k'⟩
    obtain ⟨w1, w2⟩ := w i F' H' e1 S'.sub hi
    by_cases hlt : i < ds.length
    · obtain ⟨go, yl⟩ := w1 hlt
      have ed : ds.drop i = ds[i] :: ds.drop (i + 1) := List.drop_eq_getElem_cons hlt
      refine .inr ⟨go, fun σ2 H2 => ∃ F2 ρ2, Ex F1 F2 ∧ Stt K κ F0 H0 F2 H2 σ2 ρ2 ∧ OutOk mg K κ E F0 H0 F2 H2 Dn (forL g b (ds.drop (i + 1)) ρ2), fun σ2 H2 ⟨F2, ρ2, e2, S2, k2⟩ => ⟨ds.length - (i + 1), by omega, rfl, hlt, F2, ρ2, e2, S2, k2⟩, fun x H3 y => ?_⟩
      obtain ⟨d, F3, ed2, x3, r3⟩ := yl x H3 y
      have hd : ds[i] = d := by
        have := List.getElem?_eq_getElem hlt
        rw [this] at ed2
        exact Option.some.inj ed2
      rw [ed, hd] at k'
      unfold forL at k'
      cases q : g d ρ' with
      | none => rw [q] at k'; exact k'.elim
      | some ρ1 =>
        rw [q] at k'
        refine ⟨F0, H0, F3, ρ', d, ρ1, S'.mono x3, r3, q, fun σ4 F4 H4 x4 S4 _ _ => ⟨F0, H0, F4, ρ1, S4, ?_⟩⟩
        have e4 : Ex F1 F4 := (e1.trans x3.f).trans x4.f
        have e5 : Ex F' F4 := x3.f.trans x4.f
        cases q2 : b ρ1 with
        | nx ρ2 =>
          simp only [q2] at k'
          exact fun σ5 F5 H5 x5 S5 => ⟨F5, ρ2, e4.trans x5, S5, OutOk.mono (H := H') (e5.trans x5) k'⟩
        | ct ρ2 =>
          simp only [q2] at k'
          exact fun σ5 F5 H5 x5 S5 => ⟨F5, ρ2, e4.trans x5, S5, OutOk.mono (H := H') (e5.trans x5) k'⟩
        | bk ρ2 => simp only [q2] at k'; exact fun σ5 F5 H5 x5 S5 => k' σ5 F5 H5 (e5.trans x5) S5
        | rt d => simp only [q2] at k'; exact k'
        | err x => simp only [q2] at k'; exact k'
        | stk => simp only [q2] at k'; exact k'
    · have e : i = ds.length := by omega
      have ed : ds.drop i = [] := by rw [e, List.drop_length]
      rw [ed] at k'
      exact .inl ⟨w2 e, k' σ' F' H' (Ex.refl F') S'⟩) fun x z => err_back S z⟩
theorem ds_for {tg it : Expr} {is : List Nat} {mi : Env → Res (List D)} {g : D → Env → Option Env} {b : Env → Out} (hp : PassesOwn (model X.prog X.w) X.A X.env X.xe) (hc : X.calm = true) (hi : DI X κ E tg it mi) (hg : DG X κ tg is g) (hb : DSs X κ E sts b)
    (hs : ∀ x, foldedSetIterable it X.env x = pure x := by intro _; rfl) : DS X κ E (.For tg it sts [] pos) (mFor mi g b) :=
  (ps_for hp hc hi hg hb hs).imp for_read

/-! ### while -/
def whileL (c : Env → Res Bool) (b : Env → Out) : Nat → Env → Out
  | 0, _ => .stk
  | n + 1, ρ =>
    match c ρ with
    | .err x => .err x
    | .stk => .stk
    | .ok false => .nx ρ
    | .ok true =>
      match b ρ with
      | .nx ρ2 => whileL c b n ρ2
      | .ct ρ2 => whileL c b n ρ2
      | .bk ρ2 => .nx ρ2
      | .rt d => .rt d
      | .err x => .err x
      | .stk => .stk
def mWhile (fuel : Env → Nat) (c : Env → Res Bool) (b : Env → Out) : Env → Out := fun ρ => whileL c b (fuel ρ) ρ
theorem ds_while {fuel : Env → Nat} {t : Env → Res Bool} {b : Env → Out} (hp : PassesOwn (model X.prog X.w) X.A X.env X.xe) (ht : DT X κ E c t) (hb : DSs X κ E sts b) : DS X κ E (.While c sts [] pos) (mWhile fuel t b) :=
  (ps_while hp ht hb).imp fun Dn σ H ⟨F0, H0, F, ρ, S, k⟩ => by
    refine ⟨fun m σ' H' => ∃ F' ρ', Stt X.K κ F0 H0 F' H' σ' ρ' ∧ OutOk X.mg X.K κ E F0 H0 F' H' Dn (whileL t b m ρ'), ⟨fuel ρ, F, ρ, S, k⟩, ?_⟩
    rintro m σ' H' ⟨F', ρ', S', k'⟩
    cases m with
    | zero => exact k'.elim
    | succ n =>
      unfold whileL at k'
      refine ⟨F0, H0, F', ρ', S', ?_⟩
      cases q : t ρ' with
      | err x => rw [q] at k'; exact err_back S' k'
      | stk => rw [q] at k'; exact k'
      | ok v =>
        rw [q] at k'
        cases v with
        | false => exact fun F2 H2 x2 => k' σ' F2 H2 x2.f (S'.mono x2)
        | true =>
          intro F2 H2 x2
          refine ⟨fun σ3 H3 => ∃ F3 ρ3, Stt X.K κ F0 H0 F3 H3 σ3 ρ3 ∧ OutOk X.mg X.K κ E F0 H0 F3 H3 Dn (whileL t b n ρ3), fun σ3 H3 w => ⟨n, Nat.lt_succ_self n, w⟩, F0, H0, F2, ρ', S'.mono x2, ?_⟩
          cases q2 : b ρ' with
          | nx ρ2 => simp only [q2] at k'; exact fun σ3 F3 H3 x3 S3 => ⟨F3, ρ2, S3, OutOk.mono (H := H') (x2.f.trans x3) k'⟩
          | ct ρ2 => simp only [q2] at k'; exact fun σ3 F3 H3 x3 S3 => ⟨F3, ρ2, S3, OutOk.mono (H := H') (x2.f.trans x3) k'⟩
          | bk ρ2 => simp only [q2] at k'; exact fun σ3 F3 H3 x3 S3 => k' σ3 F3 H3 (x2.f.trans x3) S3
          | rt d => simp only [q2] at k'; exact k'
          | err x => simp only [q2] at k'; exact k'
          | stk => simp only [q2] at k'; exact k'
end
end WD

namespace PySem.AutoSeq1
theorem wd_extend_tuple (l : Addr) (items : Array Value) (n : Nat) (b : Addr) (items2 : Array Value) (n2 : Nat) (dd : Option Addr) (sl : Array (Option Value)) (hs0 : ¬(!items.isEmpty && Builtin.List.listTooLong (items.size + items2.size)) = true) (hs1 : items.size ≤ sizeLine) (hs2 : items.size + items2.size ≤ sizeLine + 1) :
    Meets (Builtin.«list.extend» ⟨[.ref l, .ref b], []⟩) (fun _ R s => s.heap.get? l = some { cls := .type "list", dict := none, data := .seq items n, slots := #[] } ∧ s.heap.get? b = some { cls := .type "tuple", dict := dd, data := .seq items2 n2, slots := sl } ∧ R (.ok (.ret Value.none)) { s with heap := s.heap.update l (Obj.mapSeq fun x => x ++ items2), toks := s.toks }) :=
  .of_wp fun prog w A R s h => by
    obtain ⟨hp, g, d, tk, os⟩ := s; obtain ⟨hl, hb, h⟩ := h; have f1 := idx_int; have f2 := sub_tuple_tuple; have f3 := sub_list_list; have f4 := sub_tuple_list; have f5 := sub_list_tuple;
    have hz' : (items ++ items2).size ≤ sizeLine + 1 := by rw [Array.size_append]; exact hs2
    wp_walk using (wpAny_updateSeq hl rfl (hz := hs1) (_hz' := hz')), wpAny_loadPart' hl, wpAny_loadPart' hb; exact ⟨_, rfl, h⟩
theorem wd_extend_list (l : Addr) (items : Array Value) (n : Nat) (b : Addr) (items2 : Array Value) (n2 : Nat) (sl : Array (Option Value)) (hs0 : ¬(!items.isEmpty && Builtin.List.listTooLong (items.size + items2.size)) = true) (hs1 : items.size ≤ sizeLine) (hs2 : items.size + items2.size ≤ sizeLine + 1) :
    Meets (Builtin.«list.extend» ⟨[.ref l, .ref b], []⟩) (fun _ R s => s.heap.get? l = some { cls := .type "list", dict := none, data := .seq items n, slots := #[] } ∧ s.heap.get? b = some { cls := .type "list", dict := none, data := .seq items2 n2, slots := sl } ∧ R (.ok (.ret Value.none)) { s with heap := s.heap.update l (Obj.mapSeq fun x => x ++ items2), toks := s.toks }) :=
  .of_wp fun prog w A R s h => by
    obtain ⟨hp, g, d, tk, os⟩ := s; obtain ⟨hl, hb, h⟩ := h; have f1 := idx_int; have f2 := sub_tuple_tuple; have f3 := sub_list_list; have f4 := sub_tuple_list; have f5 := sub_list_tuple;
    have hz' : (items ++ items2).size ≤ sizeLine + 1 := by rw [Array.size_append]; exact hs2
    wp_walk using (wpAny_updateSeq hl rfl (hz := hs1) (_hz' := hz')), wpAny_loadPart' hl, wpAny_loadPart' hb; exact ⟨_, rfl, h⟩
theorem wd_add_list (l : Addr) (items : Array Value) (n : Nat) (b : Addr) (items2 : Array Value) (n2 : Nat) (s1 s2 : Array (Option Value)) (hc0 : items.size + items2.size ≤ sizeLine) :
    Meets (Builtin.«list.__add__» ⟨[.ref l, .ref b], []⟩) (fun _ R s => s.heap.get? l = some { cls := .type "list", dict := none, data := .seq items n, slots := s1 } ∧ s.heap.get? b = some { cls := .type "list", dict := none, data := .seq items2 n2, slots := s2 } ∧ R (.ok (.ret (Value.ref s.heap.objs.size))) { s with heap := s.heap.push { cls := Value.type "list", data := Data.seq (items ++ items2) }, toks := s.toks }) :=
  .of_wp fun prog w A R s h => by obtain ⟨hp, g, d, tk, os⟩ := s; obtain ⟨hl, hb, h⟩ := h; have f1 := idx_int; have f2 := sub_tuple_tuple; have f3 := sub_list_list; have f4 := sub_tuple_list; have f5 := sub_list_tuple; wp_walk using wpAny_loadPart' hl, wpAny_loadPart' hb; exact ⟨_, rfl, h⟩
end PySem.AutoSeq1
namespace WD
open PySem PySem.Spec PyProof.Rows L2
open Evl (Ex Ex.refl Ex.trans Ex.new Ex.mut ex_l ex_t fresh_back)

/-! ### rules over any list, any tuple -/
section
variable {X : Cx}
def rExtA (K : Frag) : V → List V → Hp → VK → Prop := fun x vs H Q => ∃ l b xs zs, x = .ref l ∧ vs = [.ref b] ∧ H l = some (.lst xs) ∧ (SqL K H b zs ∨ SqT K H b zs) ∧ xs.length + zs.length ≤ sizeLine ∧ Q .non (upd H l (.lst (xs ++ zs)))
theorem mt_extendA : MtM X "list.extend" (rExtA X.K) := by
  intro pins s σ H x vs v us Q I rx rv h
  obtain ⟨l, b, xs, zs, rfl, rfl, hH, hB, hz, q⟩ := h
  cases rx
  obtain ⟨u, rfl, ru⟩ := rv.one
  cases ru
  obtain ⟨z, its, n, r, hl, e⟩ := I.lstM hH
  have fin : ∀ its2 : List Value, Vals zs its2 → EP X pins σ Q Value.none { s with heap := s.heap.update l (Obj.mapSeq fun x => x ++ its2.toArray), toks := s.toks } := fun its2 r2 =>
    ⟨.non, _, I.lset (its' := its ++ its2) hH e (by simp) (r.append r2) (by rw [List.length_append]; omega), rfl, q⟩
  have hlong : ∀ its2 : List Value, Vals zs its2 → ¬ (!its.toArray.isEmpty && Builtin.List.listTooLong (its.toArray.size + its2.toArray.size)) = true := fun its2 r2 => by
    have hl2 := r2.length
    rw [notLongL (by rw [List.size_toArray, List.size_toArray]; omega), Bool.and_false]
    exact Bool.false_ne_true
  rcases hB with hB | hB
  · obtain ⟨its2, r2, ⟨o, n2, ho, hc, hd, hdat⟩, z2⟩ := I.list hB
    have hl2 := r2.length
    obtain ⟨oc, od, odat, osl⟩ := o
    cases hc; cases hd; cases hdat
    exact call_meets F.slot_list_extend ⟨_, e, rfl⟩ F.entry_list_extend (F.args_list_extend_2 _ _)
      (AutoSeq1.wd_extend_list l its.toArray n b its2.toArray n2 osl (hlong its2 r2) (by rw [List.size_toArray]; omega) (by rw [List.size_toArray, List.size_toArray]; omega)) ⟨e, ho, fin its2 r2⟩
  · obtain ⟨its2, r2, ⟨o, ho, hc, n2, hdat⟩, z2⟩ := I.tuple hB
    have hl2 := r2.length
    obtain ⟨oc, od, odat, osl⟩ := o
    cases hc; cases hdat
    exact call_meets F.slot_list_extend ⟨_, e, rfl⟩ F.entry_list_extend (F.args_list_extend_2 _ _)
      (AutoSeq1.wd_extend_tuple l its.toArray n b its2.toArray n2 od osl (hlong its2 r2) (by rw [List.size_toArray]; omega) (by rw [List.size_toArray, List.size_toArray]; omega)) ⟨e, ho, fin its2 r2⟩
def rCatA (K : Frag) : R2 := fun x y H Q => ∃ l b xs zs, x = .ref l ∧ y = .ref b ∧ SqL K H l xs ∧ SqL K H b zs ∧ xs.length + zs.length ≤ sizeLine ∧ ∀ p, H p = none → Q (.ref p) (upd H p (.lst (xs ++ zs)))
theorem op_catA : OpR X (binaryOp .Add) (rCatA X.K) := by
  intro pins s σ H x y v u Q I rx ry h
  obtain ⟨l, b, xs, zs, rfl, rfl, hH, hB, hz, q⟩ := h
  cases rx
  cases ry
  obtain ⟨its, r, ⟨o, n, ho, hc, hd, hdat⟩, z⟩ := I.list hH
  obtain ⟨its2, r2, ⟨o2, n2, ho2, hc2, hd2, hdat2⟩, z2⟩ := I.list hB
  have hl := r.length
  have hl2 := r2.length
  obtain ⟨oc, od, odat, osl⟩ := o
  cases hc; cases hd; cases hdat
  obtain ⟨oc, od, odat, osl2⟩ := o2
  cases hc2; cases hd2; cases hdat2
  refine PySem.concat_meets ⟨_, ho, rfl⟩ ⟨_, ho2, rfl⟩ noFill_list_add seq_list_add F.slot_list_add F.entry_list_add (F.args_list_add_2 _ _) (AutoSeq1.wd_add_list l its.toArray n b its2.toArray n2 osl osl2 (by rw [List.size_toArray, List.size_toArray]; omega)) ⟨ho, ho2, ?_⟩
  have ea : its.toArray ++ its2.toArray = (its ++ its2).toArray := by simp
  rw [ea]
  exact ⟨.ref _, _, I.lnew (t' := s.toks) (r.append r2) (by rw [List.length_append]; omega), rfl, q _ I.fresh⟩
end

section
variable {X : Cx} {κ κe : Nat → Kd} {E : EX} {a b c e : Expr} {es : List Expr} {pos : Pos} {st : Stmt} {sts : List Stmt}

theorem _root_.L2.Fun.okQ {P : Program} {w : World} {K : Frag} {mg : Mg} {base : Heap} {x qual : Str} {st : Stmt} {f : Addr} {fd : FuncData} {N ps : List Str} {k : Nat} {sp : Sp} (F : Fun K x qual st f fd) (S : FnScope N ps (defScope st)) (len : ∀ vs H Q E, sp vs H Q E → vs.length = ps.length)
    (hbody : ∀ (cdv : Value) (A : Around) (outer : List PySem.Env) (s : Shared) (H : Hp) (vs : List V) (Q : VK) (E : XK), Room k (A.deeper (envOfC qual (defScope st) s.heap.objs.size f cdv)) → sp vs H Q E →
      ∃ t, PSs (cxOf (L2N.CX P w) P w K mg base N qual (defScope st) f cdv A outer s H E) (defBody st) t ∧ t { nx := fun _ H' => Q .non H', rt := Q } (L2.start N vs) H) : FnOk P w K mg base (L2N.CX P w) (k + 1) f fd ps sp := by
  obtain ⟨oc, od, kV, doc, pm, an, cdv, ct, osl, rfl, lk, hcd⟩ := F.ex
  exact fn_of lk hcd S len fun A outer s H vs Q E hr hsp => hbody cdv A outer s H vs Q E hr hsp
/-! ### calls of defs -/
def spM (mg : Mg) (K : Frag) (n : Nat) (m : List D → Res D) : Sp := fun vs H Q E => vs.length = n ∧ ∃ F ds, Ex F H ∧ NF F ∧ RpA K F vs ds ∧ (m ds).sat (fun d => ∀ v F' H', Ext F H F' H' → Rp K F' v d → Q v H') (ErrOk mg K E F H)
/-- a def of the module, its promise by a mirror -/
structure Fn (P : Program) (w : World) (K : Frag) (mg : Mg) (base : Heap) (k : Nat) (x : Str) (ps : List Str) (m : List D → Res D) : Prop where
  ex : ∃ f fd, mg x = some (.ref f) ∧ PySem.W.keepIn K (.ref f) = true ∧ Binds K fd ps [] ∧ FnOk P w K mg base (L2N.CX P w) k f fd ps (spM mg K ps.length m)
def mCall (m : List D → Res D) (ma : Env → Res (List D)) : Env → Res D := fun ρ => (ma ρ).bind m
theorem _root_.L2.PE.implies {X : Cx} {e : Expr} {t t' : TE} (h : PE X e t) (i : ∀ σ H Q, t' σ H Q → t σ H Q) : PE X e t' := h.imp i
theorem de_call {k : Nat} {x : Str} {p : Pos} {ps : List Str} {m : List D → Res D} {ma : Env → Res (List D)} (G : Fn X.prog X.w X.K X.mg X.base k x ps m) (hr : Room k X.A) (hx : ∀ σ, PassesAt (L2N.CX X.prog X.w) X σ (E.err σ)) (hg : Gl X x) (ha : DA X κ E (e :: es) ma) (hlen : (e :: es).length = ps.length)
    (hma : ∀ ρ ds, ma ρ = .ok ds → ds.length = ps.length)
    (hdb : (x == ("__debug__" : Str)) = false := by decide) (he : starEach (e :: es) X.env = (false, eval e X.env) :: starEach es X.env := by rfl) (hpl : (backTo pos (starEach es X.env)).any (·.1) = false := by rfl) :
    DE X κ E (.Call (.Name x p) (e :: es) [] pos) (mCall m ma) := by
  obtain ⟨f, fd, hm, hk, hb, hF⟩ := G.ex
  refine (pe_callS hF hr hg hm hk hb hx ha hdb he hpl).imp fun σ H Q ⟨F0, H0, F, ρ, S, c⟩ => ⟨F0, H0, F, ρ, S, Res.sat_imp (Res.sat_bind c) (fun ds q k vs F' H' x r => ?_) fun _ z => z⟩
  refine ⟨by rw [r.length, hma ρ ds q], F', ds, x.s, x.n S.nf, r, Res.sat_imp k (fun d _ k v F2 H2 x2 r2 => k v F2 H2 (x.trans x2) r2) fun _ z => z.mono x⟩
theorem mCons_len {m : Env → Res D} {ms : Env → Res (List D)} {n : Nat} (h : ∀ ρ ds, ms ρ = .ok ds → ds.length = n) : ∀ ρ ds, mCons m ms ρ = .ok ds → ds.length = n + 1 := fun ρ ds e => by
  unfold mCons at e
  cases q : m ρ with
  | ok d =>
    rw [q] at e
    cases q2 : ms ρ with
    | ok xs =>
      simp only [Res.bind, q2] at e
      cases e
      rw [List.length_cons, h ρ xs q2]
    | err x => simp only [Res.bind, q2] at e; cases e
    | stk => simp only [Res.bind, q2] at e; cases e
  | err x => rw [q] at e; cases e
  | stk => rw [q] at e; cases e
theorem mNil_len : ∀ ρ ds, mNil ρ = .ok ds → ds.length = 0 := fun ρ ds e => by cases e; rfl

/-! ### a def's body -/
def fnOut (o : Out) : Res D :=
  match o with
  | .nx _ => .ok .none
  | .rt d => .ok d
  | .err x => .err x
  | _ => .stk
def mkFn (n : Nat) (body : Env → Out) : List D → Res D := fun ds => fnOut (body (ds.map some ++ List.replicate (n - ds.length) none))
theorem fn_start {K : Frag} {F H : Hp} {vs : List V} {ds : List D} {N : List Str} {np : Nat} (s : Ex F H) (nf : NF F) (r : RpA K F vs ds) (hl : vs.length = np) (hk : ∀ i, i < np → κ i = .im) :
    Stt K κ F H F H (L2.start N vs) (ds.map some ++ List.replicate (N.length - ds.length) none) := by
  have el := r.length
  have known : ∀ i d, (ds.map some ++ List.replicate (N.length - ds.length) none)[i]? = some (some d) → ds[i]? = some d ∧ i < np := fun i d h => by
    by_cases hi : i < ds.length
    · rw [List.getElem?_append_left (by simpa using hi), List.getElem?_map, List.getElem?_eq_getElem hi] at h
      have : ds[i] = d := by simpa using h
      rw [List.getElem?_eq_getElem hi, this]
      exact ⟨rfl, by omega⟩
    · rw [List.getElem?_append_right (by simpa using hi), List.getElem?_replicate] at h
      split at h <;> cases h
  refine ⟨Ex.refl F, Ex.refl H, fun _ h _ => h, s, nf, ?_, fun i d h => ?_, fun i j a di dj u w hn hi hj _ _ ki _ => ?_⟩
  · unfold L2.start
    simp [el]
  · obtain ⟨h1, h2⟩ := known i d h
    obtain ⟨v, g1, g2⟩ := r.get h1
    refine ⟨v, ?_, by rw [hk i h2]; exact g2⟩
    unfold L2.start
    have hi : i < vs.length := by omega
    rw [List.getElem?_append_left (by simpa using hi), List.getElem?_map, g1]
    rfl
  · have := hk i (known i di hi).2
    rw [this] at ki; exact ki
theorem fn_ok {P : Program} {w : World} {K : Frag} {mg : Mg} {base : Heap} {x qual : Str} {st : Stmt} {f : Addr} {fd : FuncData} {N ps : List Str} {k n : Nat} {body : Env → Out} (F : Fun K x qual st f fd) (S : FnScope N ps (defScope st)) (hn : N.length = n)
    (hk : ∀ i, i < ps.length → κ i = .im)
    (hbody : ∀ (cdv : Value) (A : Around) (outer : List PySem.Env) (s : Shared) (H : Hp) (E : XK), Room k (A.deeper (envOfC qual (defScope st) s.heap.objs.size f cdv)) →
      DSs2 (cxOf (L2N.CX P w) P w K mg base N qual (defScope st) f cdv A outer s H E) κ κe (eX K E) (defBody st) body) : FnOk P w K mg base (L2N.CX P w) (k + 1) f fd ps (spM mg K ps.length (mkFn n body)) := by
  subst hn
  refine F.okQ S (fun vs H Q E h => h.1) fun cdv A outer s H vs Q E hr h => ⟨_, hbody cdv A outer s H E hr, ?_⟩
  obtain ⟨hl, F, ds, e, nf, r, c⟩ := h
  refine ⟨F, H, F, _, fn_start e nf r hl hk, ?_⟩
  unfold mkFn at c
  generalize ho : body (ds.map some ++ List.replicate (N.length - ds.length) none) = o at c ⊢
  cases o with
  | nx ρ => exact fun σ' F' H' _ S' => c .non F' H' S'.ext .non
  | bk ρ => exact c.elim
  | ct ρ => exact c.elim
  | rt d => exact c
  | err x => exact fun _ => c
  | stk => exact c

/-! ### what changes an owned list -/
theorem own_at {K : Frag} {F0 H0 F H : Hp} {σ : L2.St} {ρ : Env} (S : Stt K κ F0 H0 F H σ ρ) {i : Nat} {d : D} (hk : (κ i).mutb = true) (h : ρ[i]? = some (some d)) : ∃ a, σ[i]? = some (some (.ref a)) ∧ F a = none ∧ OwnAt K F H a d := by
  obtain ⟨v, h1, h2⟩ := S.slot i d h
  obtain ⟨a, e, _, fa, o, _⟩ := h2.mutb hk
  exact ⟨a, by rw [h1, e], fa, o⟩
def getL (i : Nat) (ρ : Env) : Res (List D) :=
  match (ρ[i]?).join with
  | some (.list ds) => .ok ds
  | _ => .stk
theorem getL_sat {i : Nat} {ρ : Env} {P : List D → Prop} {R : Exn → Prop} (h : (getL i ρ).sat P R) : ∃ ds, ρ[i]? = some (some (.list ds)) ∧ P ds := by
  unfold getL at h
  cases q : (ρ[i]?).join with
  | none => rw [q] at h; exact h.elim
  | some d =>
    rw [q] at h
    cases d <;> first | exact ⟨_, join_some q, h⟩ | exact h.elim
theorem own_list {K : Frag} {F H : Hp} {a : Addr} {ds : List D} (o : OwnAt K F H a (.list ds)) : ∃ vs, H a = some (.lst vs) ∧ RpA K F vs ds := by
  rcases o with ⟨vs, ds', e, g, r⟩ | ⟨vs, ds', e, g, r⟩
  · cases e; exact ⟨vs, g, r⟩
  · cases e
/-- x.append(e) -/
def mApp (i : Nat) (m : Env → Res D) : Env → Out := fun ρ => (getL i ρ).out fun ds => (m ρ).out fun d => if ds.length < sizeLine then .nx (ρ.set i (some (.list (ds ++ [d])))) else .stk
theorem ds_append {i : Nat} {x : Str} {px : Pos} {apos cpos pos : Pos} {m : Env → Res D} (hk : (κ i).mutb = true) (hN : X.N[i]? = some x) (hv : Vis X.env.scope x) (h : DE X κ E e m)
    (hx : PE X (.Call (.Attribute (.Name x px) "append" apos) [e] [] cpos) (tBM X.K "list" rAppend (tVar i) (tCons (rdE X.mg X.K κ E m) tNil)) := by exact pe_bm PySem.F.plainAttrs_list PySem.F.slot_list_append PySem.F.type_list_append mt_append (pe_var (by assumption) (by assumption)) (pa_cons (by assumption) pa_nil))
    (hs : swapsWith (.Call (.Attribute (.Name x px) "append" apos) [e] [] cpos) none pos.line X.env = pure false := by rfl) : DS X κ E (.Expr (.Call (.Attribute (.Name x px) "append" apos) [e] [] cpos) pos) (mApp i m) :=
  (ps_expr hx hs).imp fun Dn σ H ⟨F0, H0, F, ρ, S, k⟩ => by
    obtain ⟨ds, hd, k⟩ := getL_sat (out_sat k)
    obtain ⟨a, hs', fa, o⟩ := own_at S hk hd
    obtain ⟨vs, g, r⟩ := own_list o
    refine ⟨.ref a, hs', .inl ⟨rfl, vs, Evl.sq_of g⟩, F0, H0, F, ρ, S, Res.sat_imp (out_sat k) (fun d _ k v F' H' x rv => ?_) fun x z => err_back S z⟩
    by_cases z : ds.length < sizeLine
    · simp only [if_pos z] at k
      refine ⟨a, vs, v, rfl, rfl, x.h _ _ g, by rw [r.length]; exact z, k _ F' _ x.f ?_⟩
      exact (S.mono x).mut hk hd hs' (.inl ⟨vs ++ [v], ds ++ [d], rfl, upd_same, (r.mono x.f).append (.cons rv .nil)⟩)
    · simp only [if_neg z] at k
      exact k.elim
/-- x.extend(e), e a list or a tuple -/
def seqD : D → Res (List D)
  | .list ds => .ok ds
  | .tuple ds => .ok ds
  | _ => .stk
def mExt (i : Nat) (m : Env → Res D) : Env → Out := fun ρ => (getL i ρ).out fun ds => (m ρ).out fun d => (seqD d).out fun es => if ds.length + es.length ≤ sizeLine then .nx (ρ.set i (some (.list (ds ++ es)))) else .stk
theorem seqD_sat {d : D} {P : List D → Prop} {R : Exn → Prop} (h : (seqD d).sat P R) : ∃ ds, (d = .list ds ∨ d = .tuple ds) ∧ P ds := by
  cases d <;> first | exact ⟨_, .inl rfl, h⟩ | exact ⟨_, .inr rfl, h⟩ | exact h.elim
theorem Rp.seq {K : Frag} {F : Hp} {v : V} {d : D} {ds : List D} (r : Rp K F v d) (h : d = .list ds ∨ d = .tuple ds) : ∃ a vs, v = .ref a ∧ (SqL K F a vs ∨ SqT K F a vs) ∧ RpA K F vs ds := by
  rcases h with rfl | rfl
  · cases r with
    | lst h a => exact ⟨_, _, rfl, .inl h, a⟩
  · cases r with
    | tup h a => exact ⟨_, _, rfl, .inr h, a⟩
theorem ex_lt {K : Frag} {F H : Hp} {a : Addr} {vs : List V} (e : Ex F H) (h : SqL K F a vs ∨ SqT K F a vs) : SqL K H a vs ∨ SqT K H a vs := h.imp (ex_l e) (ex_t e)
theorem ds_extend {i : Nat} {x : Str} {px : Pos} {apos cpos pos : Pos} {m : Env → Res D} (hk : (κ i).mutb = true) (hN : X.N[i]? = some x) (hv : Vis X.env.scope x) (h : DE X κ E e m)
    (hx : PE X (.Call (.Attribute (.Name x px) "extend" apos) [e] [] cpos) (tBM X.K "list" (rExtA X.K) (tVar i) (tCons (rdE X.mg X.K κ E m) tNil)) := by exact pe_bm PySem.F.plainAttrs_list PySem.F.slot_list_extend PySem.F.type_list_extend mt_extendA (pe_var (by assumption) (by assumption)) (pa_cons (by assumption) pa_nil))
    (hs : swapsWith (.Call (.Attribute (.Name x px) "extend" apos) [e] [] cpos) none pos.line X.env = pure false := by rfl) : DS X κ E (.Expr (.Call (.Attribute (.Name x px) "extend" apos) [e] [] cpos) pos) (mExt i m) :=
  (ps_expr hx hs).imp fun Dn σ H ⟨F0, H0, F, ρ, S, k⟩ => by
    obtain ⟨ds, hd, k⟩ := getL_sat (out_sat k)
    obtain ⟨a, hs', fa, o⟩ := own_at S hk hd
    obtain ⟨vs, g, r⟩ := own_list o
    refine ⟨.ref a, hs', .inl ⟨rfl, vs, Evl.sq_of g⟩, F0, H0, F, ρ, S, Res.sat_imp (out_sat k) (fun d _ k v F' H' x rv => ?_) fun x z => err_back S z⟩
    obtain ⟨es, hse, k⟩ := seqD_sat (out_sat k)
    obtain ⟨b, ws, rfl, hb, rs⟩ := rv.seq hse
    by_cases z : ds.length + es.length ≤ sizeLine
    · simp only [if_pos z] at k
      refine ⟨a, b, vs, ws, rfl, rfl, x.h _ _ g, ex_lt x.s hb, by rw [r.length, rs.length]; exact z, k _ F' _ x.f ?_⟩
      exact (S.mono x).mut hk hd hs' (.inl ⟨vs ++ ws, ds ++ es, rfl, upd_same, (r.mono x.f).append rs⟩)
    · simp only [if_neg z] at k
      exact k.elim

/-! ### comprehensions -/
def noErr {α : Type} : Res α → Res α
  | .err _ => .stk
  | r => r
def compL (g : D → Env → Option Env) (t : Env → Res Bool) (m : Env → Res D) (ρ : Env) : List D → Res (List D)
  | [] => .ok []
  | d :: ds =>
    match g d ρ with
    | none => .stk
    | some ρ1 => (noErr (t ρ1)).bind fun b => if b = true then (noErr (m ρ1)).bind fun y => (compL g t m ρ ds).bind fun ys => .ok (y :: ys) else compL g t m ρ ds
def mLc (it : Env → Res (List D)) (g : D → Env → Option Env) (t : Env → Res Bool) (m : Env → Res D) (vs : List Nat) : Env → Res (List D) := fun ρ =>
  (it ρ).bind fun ds => if ds.length ≤ sizeLine then noErr (compL g t m (forget vs ρ) ds) else .stk
theorem wipe_at {σ : L2.St} {i : Nat} : ∀ {vs : List Nat}, i ∈ vs → i < σ.length → (wipe σ vs)[i]? = some none
  | [], h, _ => by simp at h
  | v :: vs, h, hl => by
    show ((wipe σ vs).set v none)[i]? = _
    by_cases q : v = i
    · subst q
      rw [List.getElem?_set_self (by rw [wipe_length]; exact hl)]
    · rw [List.getElem?_set_ne q]
      exact wipe_at (by simpa [Ne.symm q] using h) hl
theorem wipe_eq {σ σ2 : L2.St} {vs is : List Nat} (hl : σ2.length = σ.length) (h : ∀ i, i ∉ is → σ2[i]? = (wipe σ vs)[i]?) (his : ∀ i ∈ is, i ∈ vs) : wipe σ2 vs = wipe σ vs := by
  apply List.ext_getElem?
  intro i
  by_cases hv : i ∈ vs
  · by_cases hi : i < σ.length
    · rw [wipe_at hv (by rw [hl]; exact hi), wipe_at hv hi]
    · rw [List.getElem?_eq_none (by rw [wipe_length, hl]; omega), List.getElem?_eq_none (by rw [wipe_length]; omega)]
  · rw [wipe_out hv]
    exact h i fun z => hv (his i z)
theorem Stt.wipe {K : Frag} {F0 H0 F H : Hp} {σ : L2.St} {ρ : Env} (S : Stt K κ F0 H0 F H σ ρ) (vs : List Nat) : Stt K κ F0 H0 F H (L2.wipe σ vs) (WD.forget vs ρ) := by
  refine ⟨S.ex0, S.h0, S.o0, S.sub, S.nf, by rw [forget_len, wipe_length, S.len], fun j d h => ?_, fun j l a dj dl u w hn' hj hl ej el oj ol => ?_⟩
  · obtain ⟨h1, h2⟩ := forget_get vs ρ j d h
    rw [wipe_out h2]
    exact S.slot j d h1
  · obtain ⟨h1, h2⟩ := forget_get vs ρ j dj hj
    obtain ⟨h3, h4⟩ := forget_get vs ρ l dl hl
    rw [wipe_out h2] at ej
    rw [wipe_out h4] at el
    exact S.sep j l a dj dl u w hn' h1 h3 ej el oj ol
theorem noErr_sat {α : Type} {P : α → Prop} {R R' : Exn → Prop} {r : Res α} (h : (noErr r).sat P R) : r.sat P R' := by
  cases r with
  | ok a => exact h
  | err x => exact h.elim
  | stk => exact h
theorem noErr_ok {α : Type} {r : Res α} {a : α} (h : noErr r = .ok a) : r = .ok a := by
  cases r with
  | ok a => exact h
  | err x => cases h
  | stk => exact h
theorem bind_ok {α β : Type} {r : Res α} {f : α → Res β} {b : β} (h : r.bind f = .ok b) : ∃ a, r = .ok a ∧ f a = .ok b := by
  cases r with
  | ok a => exact ⟨a, rfl, h⟩
  | err x => cases h
  | stk => cases h
def DTs (X : Cx) (κ : Nat → Kd) (E : EX) (ifs : List Expr) (m : Env → Res Bool) : Prop := PTs X ifs (rdT X.mg X.K κ E m)
def mYes : Env → Res Bool := fun _ => .ok true
theorem dts_nil : DTs X κ E [] mYes := ⟨fun pins s σ H Q I ⟨F0, H0, F, ρ, S, k⟩ => pts_nil.run pins s σ H Q I (k F H (Ext.refl S.sub))⟩
theorem dts_one {m : Env → Res Bool} (h : DT X κ E c m) : DTs X κ E [c] m := pts_one h
theorem lc_read {mg : Mg} {K : Frag} {mi : Env → Res (List D)} {is vs : List Nat} {g : D → Env → Option Env} {mt : Env → Res Bool} {me : Env → Res D} (his : ∀ i ∈ is, i ∈ vs) : ∀ σ H Q, rdN mg K κ E (mLc mi g mt me vs) σ H Q →
    tLc (rdIp mg K κ E mi) (rdG K κ is g) (rdT mg K κ EX0 mt) (rdE mg K κ EX0 me) vs σ H Q :=
  fun σ H Q ⟨F0, H0, F, ρ, S, k⟩ => ⟨F0, H0, F, ρ, S, Res.sat_imp (Res.sat_bind k) (fun ds _ k J F1 H1 x1 w Dl hD => by
    by_cases hz : ds.length ≤ sizeLine
    case neg => simp only [if_neg hz] at k; exact k.elim
    simp only [if_pos hz] at k
    have k := noErr_sat (R' := fun _ => False) k
    cases hc : compL g mt me (forget vs ρ) ds with
    | err x => rw [hc] at k; exact k.elim
    | stk => rw [hc] at k; exact k.elim
    | ok out =>
      rw [hc] at k
      have fD : F1 Dl = none := none_of_ex x1.s hD
      have SW := (S.mono x1).wipe vs
      refine ⟨fun i m H2 => m = ds.length - i ∧ i ≤ ds.length ∧ ∃ F2 acc ads rs, Ext F1 H1 F2 H2 ∧ F2 Dl = none ∧ H2 Dl = some (.lst acc) ∧ RpA K F2 acc ads ∧ acc.length ≤ i ∧ compL g mt me (forget vs ρ) (ds.drop i) = .ok rs ∧ ads ++ rs = out,
        ⟨ds.length, rfl, Nat.zero_le _, F1, [], [], out, .newO x1.s hD, fD, upd_same, .nil, Nat.zero_le _, hc, rfl⟩, ?_⟩
      rintro i m H2 ⟨rfl, hi, F2, acc, ads, rs, x2, f2, h2, r2, l2, c2, e2⟩
      obtain ⟨w1, w2⟩ := w i F2 H2 x2 x2.s hi
      by_cases hlt : i < ds.length
      · obtain ⟨go, yl⟩ := w1 hlt
        have ed : ds.drop i = ds[i] :: ds.drop (i + 1) := List.drop_eq_getElem_cons hlt
        refine .inr ⟨go, fun H3 => ∃ F3 acc ads rs, Ext F1 H1 F3 H3 ∧ F3 Dl = none ∧ H3 Dl = some (.lst acc) ∧ RpA K F3 acc ads ∧ acc.length ≤ i + 1 ∧ compL g mt me (forget vs ρ) (ds.drop (i + 1)) = .ok rs ∧ ads ++ rs = out,
          fun H3 ⟨F3, acc, ads, rs, z⟩ => ⟨ds.length - (i + 1), by omega, rfl, hlt, F3, acc, ads, rs, z⟩, fun x H3 y => ?_⟩
        obtain ⟨d, F3, ed2, x3, r3⟩ := yl x H3 y
        have hd : ds[i] = d := by
          have := List.getElem?_eq_getElem hlt
          rw [this] at ed2
          exact Option.some.inj ed2
        rw [ed, hd] at c2
        unfold compL at c2
        cases q : g d (forget vs ρ) with
        | none => rw [q] at c2; cases c2
        | some ρ1 =>
          simp only [q] at c2
          obtain ⟨b, hb, c2⟩ := bind_ok c2
          have hb := noErr_ok hb
          have x13 := x2.trans x3
          refine ⟨F0, H0, F3, forget vs ρ, d, ρ1, SW.mono x13, r3, q, fun σ4 F4 H4 x4 S4 l4 o4 => ⟨wipe_eq (by rw [l4, wipe_length]) o4 his, F0, H0, F4, ρ1, S4, ?_⟩⟩
          rw [hb]
          intro F5 H5 x5
          have x15 := (x13.trans x4).trans x5
          have nD : H2 Dl ≠ none := by rw [h2]; exact fun z => nomatch z
          have x25 := (x3.trans x4).trans x5
          have f5 : F5 Dl = none := x25.o Dl f2 nD
          cases b with
          | false =>
            exact ⟨F5, acc, ads, rs, x15, f5, x25.h _ _ h2, r2.mono x25.f, by omega, c2, e2⟩
          | true =>
            obtain ⟨y, hy, c2⟩ := bind_ok c2
            have hy := noErr_ok hy
            obtain ⟨ys, hys, c2⟩ := bind_ok c2
            cases c2
            refine ⟨F0, H0, F5, ρ1, S4.mono x5, ?_⟩
            rw [hy]
            intro yv F6 H6 x6 r6
            have x26 := x25.trans x6
            have f6 : F6 Dl = none := x26.o Dl f2 nD
            have sub6 : Ex F6 (upd H6 Dl (.lst (acc ++ [yv]))) := fun b u q => by rw [upd_ne (ne_of_none q f6)]; exact x26.s b u q
            refine ⟨acc, x26.h _ _ h2, by omega, F6, acc ++ [yv], ads ++ [y], ys, ⟨(x15.trans x6).f, Ex.mut (x15.trans x6).h hD, (x15.trans x6).o, sub6, (x15.trans x6).n⟩, f6, upd_same, (r2.mono x26.f).append (.cons r6 .nil), by rw [List.length_append, List.length_singleton]; omega, hys, by rw [List.append_assoc]; exact e2⟩
      · have e : i = ds.length := by omega
        have ed : ds.drop i = [] := by rw [e, List.drop_length]
        rw [ed] at c2
        cases c2
        rw [List.append_nil] at e2
        subst e2
        exact .inl ⟨w2 e, k Dl acc F2 H2 (x1.trans x2) (fresh_back x1.h hD) f2 h2 r2⟩) fun _ z => z⟩
theorem dn_lc {elt tg iter : Expr} {ifs : List Expr} {scope : Scope} {own : List (Str × Nat)} {mi : Env → Res (List D)} {is : List Nat} {g : D → Env → Option Env} {mt : Env → Res Bool} {me : Env → Res D} (hc : X.calm = true) (hN : X.N.Nodup) (hi : DIp X κ E tg iter mi) (ok : BlkOk X.N X.env.scope scope own) (his : ∀ i ∈ is, i ∈ own.map (·.2))
    (hg : ∀ (s : Shared) (H : Hp) (C : Addr) (cl : List (Str × Addr)) (fp : List Addr), DG (X.blk s H scope (compEnvC scope cl C X.env) fp) κ tg is g) (ht : ∀ (s : Shared) (H : Hp) (C : Addr) (cl : List (Str × Addr)) (fp : List Addr), DTs (X.blk s H scope (compEnvC scope cl C X.env) fp) κ EX0 ifs mt)
    (he : ∀ (s : Shared) (H : Hp) (C : Addr) (cl : List (Str × Addr)) (fp : List Addr), DE (X.blk s H scope (compEnvC scope cl C X.env) fp) κ EX0 elt me) (hs : ∀ x, foldedSetIterable iter X.env x = pure x := by intro _; rfl) :
    DN X κ E (.ListComp elt [⟨tg, iter, ifs, 0⟩] scope pos) (mLc mi g mt me (own.map (·.2))) :=
  (pe_lc (wi := rdIp X.mg X.K κ E mi) (g := rdG X.K κ is g) (tt := rdT X.mg X.K κ EX0 mt) (te := rdE X.mg X.K κ EX0 me) hc hN hi ok hg ht he hs).imp (lc_read his)
/-- name = [..] -/
theorem ds_setLc {i : Nat} {y : Str} {py spos : Pos} {elt tg iter : Expr} {ifs : List Expr} {scope : Scope} {own : List (Str × Nat)} {mi : Env → Res (List D)} {is : List Nat} {g : D → Env → Option Env} {mt : Env → Res Bool} {me : Env → Res D} (hk : κ i = .im) (his : ∀ i ∈ is, i ∈ own.map (·.2))
    (h : PS X (.Assign [.Name y py] (.ListComp elt [⟨tg, iter, ifs, 0⟩] scope pos) spos) (tAsg (tLc (rdIp X.mg X.K κ E mi) (rdG X.K κ is g) (rdT X.mg X.K κ EX0 mt) (rdE X.mg X.K κ EX0 me) (own.map (·.2))) (gName i))) :
    DS X κ E (.Assign [.Name y py] (.ListComp elt [⟨tg, iter, ifs, 0⟩] scope pos) spos) (mAsg i (mList (mLc mi g mt me (own.map (·.2))))) :=
  h.imp fun Dn σ H ⟨F0, H0, F, ρ, S, k⟩ => by
    refine lc_read (mg := X.mg) (K := X.K) (E := E) his σ H _ ⟨F0, H0, F, ρ, S, ?_⟩
    have k1 := Res.sat_imp (R' := ErrOk X.mg X.K (E.err σ) F H) (out_sat k) (fun d _ k => k) fun x z => err_back S z
    refine Res.sat_imp (Res.sat_bind k1) (fun ds _ k p vs F' H' x hp fp hv r => ?_) fun _ z => z
    have fr : Ext F H (upd F' p (.lst vs)) H' := ⟨x.f.trans (Ex.new fp), x.h, fun a h1 h2 => by
      rw [upd_ne (fun z => h2 (by rw [z]; exact hp))]; exact x.o a h1 h2, fun a u q => by
      by_cases z : a = p
      · subst z; rw [upd_same] at q; cases q; exact hv
      · rw [upd_ne z] at q; exact x.s a u q, fun n => (x.n n).upd (fun _ h => by cases h)⟩
    exact k _ _ H' fr.f ((S.mono fr).set hk (.lst (Evl.sq_of upd_same) (r.mono (Ex.new fp))))
theorem ds_setLcN {i : Nat} {y : Str} {py spos : Pos} {elt tg iter : Expr} {ifs : List Expr} {scope : Scope} {own : List (Str × Nat)} {mi : Env → Res (List D)} {is : List Nat} {g : D → Env → Option Env} {mt : Env → Res Bool} {me : Env → Res D} (hk : κ i = .ow) (his : ∀ i ∈ is, i ∈ own.map (·.2))
    (h : PS X (.Assign [.Name y py] (.ListComp elt [⟨tg, iter, ifs, 0⟩] scope pos) spos) (tAsg (tLc (rdIp X.mg X.K κ E mi) (rdG X.K κ is g) (rdT X.mg X.K κ EX0 mt) (rdE X.mg X.K κ EX0 me) (own.map (·.2))) (gName i))) :
    DS X κ E (.Assign [.Name y py] (.ListComp elt [⟨tg, iter, ifs, 0⟩] scope pos) spos) (mAsgN i (mLc mi g mt me (own.map (·.2)))) :=
  h.imp fun Dn σ H ⟨F0, H0, F, ρ, S, k⟩ => lc_read (mg := X.mg) (K := X.K) (E := E) his σ H _ ⟨F0, H0, F, ρ, S, asgN hk S k⟩
end
end WD

namespace WD
open PySem PySem.Spec PyProof.Rows L2
open Evl (Ex Ex.refl Ex.trans Ex.new Ex.mut ex_l ex_t fresh_back)

/-! ### texts that are well made -/
theorem oks_iff {x : Str} : OkS x ↔ ∀ c ∈ x.cps.toList, c < 1114112 := by
  unfold OkS PyData.strOk
  rw [← Array.all_toList, List.all_eq_true]
  constructor
  · intro h c hc
    have := h c hc
    simpa using this
  · intro h c hc
    have := h c hc
    simpa using this
theorem oks_append {x y : Str} (hx : OkS x) (hy : OkS y) : OkS (x ++ y) := by
  rw [oks_iff] at *
  intro c hc
  have e : (x ++ y).cps.toList = x.cps.toList ++ y.cps.toList := TL.tl_append x y
  rw [e] at hc
  rcases List.mem_append.mp hc with h | h
  · exact hx c h
  · exact hy c h
theorem oks_sub {x y : Str} (hx : OkS x) (h : ∀ c ∈ y.cps.toList, c ∈ x.cps.toList) : OkS y := by
  rw [oks_iff] at *
  exact fun c hc => hx c (h c hc)
theorem oks_cut {x : Str} {lo hi : Option Int} (hx : OkS x) : OkS (cutS x lo hi) := oks_sub hx fun c hc => by
  have hc' : c ∈ ((x.cps.toList.drop (HT.sIx x.length 0 lo)).take (HT.sIx x.length x.length hi - HT.sIx x.length 0 lo)) := by simpa [cutS] using hc
  exact List.mem_of_mem_drop (List.mem_of_mem_take hc')
theorem oks_sign {x : Str} {c : Nat} (hx : OkS x) (h : c ∈ x.cps.toList) : OkS ⟨#[c]⟩ := oks_sub hx fun d hd => by
  have : d = c := by simpa using hd
  rw [this]; exact h

section
variable {X : Cx} {κ κe : Nat → Kd} {E : EX} {a b c e : Expr} {es : List Expr} {pos : Pos} {st : Stmt} {sts : List Stmt}

/-! ### arithmetic -/
def addD : D → D → Res D
  | .int i, .int j => .ok (.int (i + j))
  | .str x, .str y => if x.length + y.length ≤ sizeLine then .ok (.str (x ++ y)) else .stk
  | .list xs, .list ys => if xs.length + ys.length ≤ sizeLine then .ok (.list (xs ++ ys)) else .stk
  | .tuple xs, .tuple ys => if xs.length + ys.length ≤ sizeLine then .ok (.tuple (xs ++ ys)) else .stk
  | _, _ => .stk
theorem post_new {K : Frag} {F H : Hp} {Q : VK} {xs : List V} {ds : List D} (s : Ex F H) (r : RpA K F xs ds) (k : ∀ v F' H', Ext F H F' H' → Rp K F' v (.list ds) → Q v H') : ∀ p, H p = none → Q (.ref p) (upd H p (.lst xs)) :=
  fun p hp => k _ _ _ (.new s hp) (.lst (Evl.sq_of upd_same) (r.mono (Ex.new (none_of_ex s hp))))
theorem post_newT {K : Frag} {F H : Hp} {Q : VK} {xs : List V} {ds : List D} (s : Ex F H) (r : RpA K F xs ds) (k : ∀ v F' H', Ext F H F' H' → Rp K F' v (.tuple ds) → Q v H') : ∀ p, H p = none → Q (.ref p) (upd H p (.tup xs)) :=
  fun p hp => k _ _ _ (.new s hp) (.tup (Evl.st_of upd_same) (r.mono (Ex.new (none_of_ex s hp))))
theorem RpA.nil_iff {K : Frag} {F : Hp} {vs : List V} {ds : List D} (h : RpA K F vs ds) : vs = [] ↔ ds = [] := by
  cases h <;> simp
abbrev rAddA (K : Frag) : R2 := fun x y H Q => rI0 (fun i j => .int (i + j)) x y H Q ∨ (∃ i j, x = .str i ∧ y = .str j ∧ i.length + j.length ≤ sizeLine ∧ Q (.str (i ++ j)) H) ∨ WD.rCatA K x y H Q ∨ L2.rCatA K x y H Q
theorem op_addA : OpR X (binaryOp .Add) (rAddA X.K) := op_add.or (op_add_str.or (WD.op_catA.or L2.op_catA))
theorem op2_add {K : Frag} : Op2 K (rAddA K) addD := fun F H x y dx dy s rx ry Q k => by
  cases dx <;> cases dy <;> try exact k.elim
  · rename_i i j
    rw [rx.int, ry.int]
    exact .inl ⟨i, j, rfl, rfl, k _ F H (Ext.refl s) (.int _)⟩
  · rename_i i j
    obtain ⟨rfl, h1⟩ := rx.str
    obtain ⟨rfl, h2⟩ := ry.str
    by_cases z : i.length + j.length ≤ sizeLine
    · simp only [addD, if_pos z] at k
      exact .inr (.inl ⟨i, j, rfl, rfl, z, k _ F H (Ext.refl s) (.str _ (oks_append h1 h2))⟩)
    · simp only [addD, if_neg z] at k
      exact k.elim
  · rename_i xs ys
    obtain ⟨p, vs, rfl, h1, r1⟩ := rx.list s
    obtain ⟨q, ws, rfl, h2, r2⟩ := ry.list s
    by_cases z : xs.length + ys.length ≤ sizeLine
    · simp only [addD, if_pos z] at k
      exact .inr (.inr (.inl ⟨p, q, vs, ws, rfl, rfl, h1, h2, by rw [r1.length, r2.length]; exact z, post_new s (r1.append r2) k⟩))
    · simp only [addD, if_neg z] at k
      exact k.elim
  · rename_i xs ys
    obtain ⟨p, vs, rfl, h1, r1, w1⟩ := rx.tuple s
    obtain ⟨q, ws, rfl, h2, r2, w2⟩ := ry.tuple s
    by_cases z : xs.length + ys.length ≤ sizeLine
    · simp only [addD, if_pos z] at k
      refine .inr (.inr (.inr ⟨p, q, vs, ws, rfl, rfl, h1, h2, by rw [r1.length, r2.length]; exact z, fun e => ?_, fun e e2 => ?_, fun e e2 => post_newT s (r1.append r2) k⟩))
      · have e' := r1.nil_iff.mp e
        subst e'
        exact k _ F H (Ext.refl s) (by simpa using w2)
      · have e' := r2.nil_iff.mp e2
        subst e'
        exact k _ F H (Ext.refl s) (by simpa using w1)
    · simp only [addD, if_neg z] at k
      exact k.elim
theorem addD_ne : ∀ x y z, addD x y ≠ .err z := fun x y z h => by
  cases x <;> cases y <;> simp only [addD] at h <;> first | cases h | (split at h <;> cases h)
theorem de_add {ma mb : Env → Res D} (ha : DB X κ E a ma) (hb : DB X κ E b mb) : DE X κ E (.BinOp a .Add b pos) (mBin addD ma mb) := de_op op_addA op2_add addD_ne ha hb
def subD : D → D → Res D
  | .int i, .int j => .ok (.int (i - j))
  | _, _ => .stk
theorem de_sub {ma mb : Env → Res D} (ha : DB X κ E a ma) (hb : DB X κ E b mb) : DE X κ E (.BinOp a .Sub b pos) (mBin subD ma mb) :=
  de_op op_sub (fun F H x y dx dy s rx ry Q k => by
    cases dx <;> cases dy <;> try exact k.elim
    rename_i i j
    rw [rx.int, ry.int]
    exact ⟨i, j, rfl, rfl, k _ F H (Ext.refl s) (.int _)⟩) (fun x y z h => by cases x <;> cases y <;> cases h) ha hb
instance (i j : Int) : Decidable (CMul i j) := by unfold CMul; infer_instance
instance (i j : Int) : Decidable (CPow i j) := by unfold CPow; infer_instance
instance (i j : Int) : Decidable (CDiv i j) := by unfold CDiv; infer_instance
theorem op_mul_str : OpR X (binaryOp .Mult) (fun x y H Q => ∃ z k, x = .str z ∧ y = .int k ∧ -(2 ^ 63) ≤ k ∧ k < 2 ^ 63 ∧ z.length * k.toNat ≤ 16777216 ∧ Q (.str ⟨(List.replicate k.toNat z.cps.toList).flatten.toArray⟩) H) := by
  intro pins s σ H x y v u Q I rx ry h
  obtain ⟨z, k, rfl, rfl, h1, h2, hz, q⟩ := h
  obtain ⟨t, rfl⟩ := rx
  obtain ⟨t', rfl⟩ := ry
  have f0 : ∀ m : Nat, (List.replicate m z.cps).foldl (· ++ ·) #[] = (List.replicate m z.cps.toList).flatten.toArray := fun m => by
    have g : ∀ (m : Nat) (acc : Array Nat), (List.replicate m z.cps).foldl (· ++ ·) acc = acc ++ (List.replicate m z.cps.toList).flatten.toArray := fun m => by
      induction m with
      | zero => intro acc; simp
      | succ m ih =>
        intro acc
        rw [List.replicate_succ, List.foldl_cons, ih, List.replicate_succ, List.flatten_cons]
        apply Array.toList_inj.mp
        simp
    rw [g m #[]]
    simp
  refine PySem.P.mul_str ?_ (fun a1 a2 => ?_) (fun a1 a2 => ?_) ?_
  · rw [decide_eq_false (by omega), decide_eq_false (by omega)]; rfl
  · intro hgt
    have hk : 0 < k := by omega
    have h5 : ((z.length : Int)) ≤ 16777216 := by
      have : z.length * 1 ≤ z.length * k.toNat := Nat.mul_le_mul_left _ (by omega)
      omega
    have h6 : (z.length : Int) * k ≤ 16777216 := by
      have e : ((z.length * k.toNat : Nat) : Int) = (z.length : Int) * k := by
        rw [Int.natCast_mul, Int.toNat_of_nonneg (by omega)]
      rw [← e]; omega
    have h7 := Int.lt_iff_add_one_le.mp hgt
    have h8 : (2 ^ 63 - 1) < ((2 ^ 63 - 1) / k + 1) * k := Int.lt_ediv_add_one_mul_self _ hk
    have h9 : ((2 ^ 63 - 1) / k + 1) * k ≤ (z.length : Int) * k := Int.mul_le_mul_of_nonneg_right h7 (by omega)
    omega
  · unfold Builtin.Str.tooLong
    exact decide_eq_false (by rw [sizeLine_eq]; omega)
  · by_cases c1 : k < 1
    · rw [if_pos c1]
      refine ⟨by decide, .str Str.empty, H, I.tok _, ⟨_, rfl⟩, ?_⟩
      have : k.toNat = 0 := by omega
      rw [this] at q
      exact q
    · rw [if_neg c1]
      by_cases c2 : (k == 1 || z.length == 0) = true
      · rw [if_pos c2]
        refine ⟨.str z, H, I, ⟨_, rfl⟩, ?_⟩
        have e : (⟨(List.replicate k.toNat z.cps.toList).flatten.toArray⟩ : Str) = z := by
          apply TL.ext_tl
          show (List.replicate k.toNat z.cps.toList).flatten = z.cps.toList
          rcases Bool.or_eq_true_iff.mp c2 with e | e
          · have : k = 1 := by simpa using e
            subst this
            simp
          · have h0 : z.length = 0 := by simpa using e
            have : z.cps.toList = [] := by
              have : z.cps.toList.length = 0 := by rw [Array.length_toList]; exact h0
              exact List.eq_nil_of_length_eq_zero this
            rw [this]
            simp
        rw [e] at q
        exact q
      · rw [if_neg c2]
        rw [f0]
        refine ⟨?_, .str _, H, I.tok _, ⟨_, rfl⟩, q⟩
        rw [sizeLine_eq]
        show ((List.replicate k.toNat z.cps.toList).flatten.toArray).size ≤ _
        rw [List.size_toArray, List.length_flatten, List.map_replicate, List.sum_replicate_nat, Array.length_toList, Nat.mul_comm]
        exact hz
def repS (x : Str) (k : Nat) : Str := ⟨(List.replicate k x.cps.toList).flatten.toArray⟩
theorem oks_rep {x : Str} {k : Nat} (h : OkS x) : OkS (repS x k) := oks_sub h fun c hc => by
  have hc' : c ∈ (List.replicate k x.cps.toList).flatten := by simpa [repS] using hc
  obtain ⟨l, h1, h2⟩ := List.mem_flatten.mp hc'
  rw [(List.mem_replicate.mp h1).2] at h2
  exact h2
def mulD : D → D → Res D
  | .int i, .int j => if CMul i j then .ok (.int (i * j)) else .stk
  | .str x, .int k => if -(2 ^ 63) ≤ k ∧ k < 2 ^ 63 ∧ x.length * k.toNat ≤ 16777216 then .ok (.str (repS x k.toNat)) else .stk
  | _, _ => .stk
theorem mulD_ne : ∀ x y z, mulD x y ≠ .err z := fun x y z h => by
  cases x <;> cases y <;> simp only [mulD] at h <;> first | cases h | (split at h <;> cases h)
theorem de_mul {ma mb : Env → Res D} (ha : DB X κ E a ma) (hb : DB X κ E b mb) : DE X κ E (.BinOp a .Mult b pos) (mBin mulD ma mb) :=
  de_op (op_mul.or op_mul_str) (fun F H x y dx dy s rx ry Q k => by
    cases dx <;> cases dy <;> try exact k.elim
    · rename_i i j
      rw [rx.int, ry.int]
      by_cases z : CMul i j
      · simp only [mulD, if_pos z] at k
        exact .inl ⟨i, j, rfl, rfl, z, k _ F H (Ext.refl s) (.int _)⟩
      · simp only [mulD, if_neg z] at k
        exact k.elim
    · rename_i i j
      rw [ry.int]
      obtain ⟨rfl, h1⟩ := rx.str
      by_cases z : -(2 ^ 63) ≤ j ∧ j < 2 ^ 63 ∧ i.length * j.toNat ≤ 16777216
      · simp only [mulD, if_pos z] at k
        exact .inr ⟨i, j, rfl, rfl, z.1, z.2.1, z.2.2, k _ F H (Ext.refl s) (.str _ (oks_rep h1))⟩
      · simp only [mulD, if_neg z] at k
        exact k.elim) mulD_ne ha hb
/-- a written list times a number: a new list -/
def mRep (m : Env → Res (List D)) (mb : Env → Res D) : Env → Res (List D) := fun ρ => (m ρ).bind fun ds => (mb ρ).bind fun d => match d with
  | .int k => if -(2 ^ 63) ≤ k ∧ k < 2 ^ 63 ∧ ds.length * k.toNat ≤ sizeLine then .ok (List.replicate k.toNat ds).flatten else .stk
  | _ => .stk
theorem dn_rep {m : Env → Res (List D)} {mb : Env → Res D} (ha : DN X κ E a m) (hb : DE X κ E b mb) : DN X κ E (.BinOp a .Mult b pos) (mRep m mb) :=
  (pe_op op_rep ha hb).imp fun σ H Q ⟨F0, H0, F, ρ, S, c⟩ => ⟨F0, H0, F, ρ, S, Res.sat_imp (Res.sat_bind c) (fun ds _ k p vs F1 H1 x1 hp fp hv r => by
    refine ⟨F0, H0, F1, ρ, S.mono x1, Res.sat_imp (Res.sat_bind k) (fun d _ k v F2 H2 x2 r2 => ?_) fun _ z => z.mono x1⟩
    cases r2 with
    | int j =>
      by_cases z : -(2 ^ 63) ≤ j ∧ j < 2 ^ 63 ∧ ds.length * j.toNat ≤ sizeLine
      · simp only [if_pos z] at k
        have x := x1.trans x2
        exact ⟨p, j, vs, rfl, rfl, x2.h _ _ hv, z.1, z.2.1, by rw [r.length]; exact z.2.2, fun q hq => k q _ F2 _ (x.trans (.newO x.s hq)) (fresh_back x.h hq) (none_of_ex x.s hq) upd_same ((r.mono x2.f).rep _)⟩
      · simp only [if_neg z] at k
        exact k.elim
    | _ => exact k.elim) fun _ z => z⟩
/-- one list behind another: a new list -/
def catD : D → D → Res (List D)
  | .list xs, .list ys => if xs.length + ys.length ≤ sizeLine then .ok (xs ++ ys) else .stk
  | _, _ => .stk
def mCat (ma mb : Env → Res D) : Env → Res (List D) := fun ρ => (ma ρ).bind fun x => (mb ρ).bind fun y => catD x y
theorem cat_step {K : Frag} {mg : Mg} {E1 : XK} {F H F2 H2 : Hp} {Q : VK} {dx dy : D} {v w : V} (x : Ext F H F2 H2) (r1 : Rb K F2 H2 v dx) (r2 : Rb K F2 H2 w dy)
    (k : Res.sat (fun ds => ∀ p vs F' H', Ext F H F' H' → H p = none → F' p = none → H' p = some (.lst vs) → RpA K F' vs ds → Q (.ref p) H') (ErrOk mg K E1 F H) (catD dx dy)) : WD.rCatA K v w H2 Q := by
  cases dx <;> cases dy <;> try exact k.elim
  rename_i xs ys
  obtain ⟨p, vs, rfl, h1, q1⟩ := r1.list x.s
  obtain ⟨q, ws, rfl, h2, q2⟩ := r2.list x.s
  by_cases z : xs.length + ys.length ≤ sizeLine
  · simp only [catD, if_pos z] at k
    exact ⟨p, q, vs, ws, rfl, rfl, h1, h2, by rw [q1.length, q2.length]; exact z, fun l hl => k l _ F2 _ (x.trans (.newO x.s hl)) (fresh_back x.h hl) (none_of_ex x.s hl) upd_same (q1.append q2)⟩
  · simp only [catD, if_neg z] at k
    exact k.elim
theorem dn_cat {ma mb : Env → Res D} (ha : DB X κ E a ma) (hb : DB X κ E b mb) : DN X κ E (.BinOp a .Add b pos) (mCat ma mb) :=
  (pe_op WD.op_catA ha hb).imp fun σ H Q ⟨F0, H0, F, ρ, S, c⟩ => ⟨F0, H0, F, ρ, S, Res.sat_imp (Res.sat_bind c) (fun dx _ k v F1 H1 x1 r1 =>
    ⟨F0, H0, F1, ρ, S.mono x1, Res.sat_imp (Res.sat_bind k) (fun dy _ k w F2 H2 x2 r2 => cat_step (x1.trans x2) (r1.mono x2) r2 k) fun _ z => z.mono x1⟩) fun _ z => z⟩
def modD : D → D → Res D
  | .int i, .int j => if 0 < j then .ok (.int (i % j)) else .stk
  | _, _ => .stk
theorem de_mod {ma mb : Env → Res D} (ha : DB X κ E a ma) (hb : DB X κ E b mb) : DE X κ E (.BinOp a .Mod b pos) (mBin modD ma mb) :=
  de_op op_mod (fun F H x y dx dy s rx ry Q k => by
    cases dx <;> cases dy <;> try exact k.elim
    rename_i i j
    rw [rx.int, ry.int]
    by_cases z : 0 < j
    · simp only [modD, if_pos z] at k
      exact ⟨i, j, rfl, rfl, z, k _ F H (Ext.refl s) (.int _)⟩
    · simp only [modD, if_neg z] at k
      exact k.elim) (fun x y z h => by cases x <;> cases y <;> simp only [modD] at h <;> first | cases h | (split at h <;> cases h)) ha hb
def fdivD : D → D → Res D
  | .int i, .int j => if CDiv i j then .ok (.int (i / j)) else .stk
  | _, _ => .stk
theorem de_fdiv {ma mb : Env → Res D} (ha : DB X κ E a ma) (hb : DB X κ E b mb) : DE X κ E (.BinOp a .FloorDiv b pos) (mBin fdivD ma mb) :=
  de_op op_fdiv (fun F H x y dx dy s rx ry Q k => by
    cases dx <;> cases dy <;> try exact k.elim
    rename_i i j
    rw [rx.int, ry.int]
    by_cases z : CDiv i j
    · simp only [fdivD, if_pos z] at k
      exact ⟨i, j, rfl, rfl, z, k _ F H (Ext.refl s) (.int _)⟩
    · simp only [fdivD, if_neg z] at k
      exact k.elim) (fun x y z h => by cases x <;> cases y <;> simp only [fdivD] at h <;> first | cases h | (split at h <;> cases h)) ha hb
def powD : D → D → Res D
  | .int i, .int j => if CPow i j then .ok (.int (i ^ j.toNat)) else .stk
  | _, _ => .stk
theorem de_pow {ma mb : Env → Res D} (ha : DB X κ E a ma) (hb : DB X κ E b mb) : DE X κ E (.BinOp a .Pow b pos) (mBin powD ma mb) :=
  de_op op_pow (fun F H x y dx dy s rx ry Q k => by
    cases dx <;> cases dy <;> try exact k.elim
    rename_i i j
    rw [rx.int, ry.int]
    by_cases z : CPow i j
    · simp only [powD, if_pos z] at k
      exact ⟨i, j, rfl, rfl, z, k _ F H (Ext.refl s) (.int _)⟩
    · simp only [powD, if_neg z] at k
      exact k.elim) (fun x y z h => by cases x <;> cases y <;> simp only [powD] at h <;> first | cases h | (split at h <;> cases h)) ha hb
def negD : D → Res D
  | .int i => .ok (.int (-i))
  | _ => .stk
def mUn (f : D → Res D) (m : Env → Res D) : Env → Res D := fun ρ => (m ρ).bind f
theorem de_neg {m : Env → Res D} (ha : DE X κ E a m) : DE X κ E (.UnaryOp .USub a pos) (mUn negD m) :=
  (pe_un un_neg ha).imp fun σ H Q ⟨F0, H0, F, ρ, S, c⟩ => ⟨F0, H0, F, ρ, S, Res.sat_imp (Res.sat_bind c) (fun d _ k v F' H' x r => by
    cases r with
    | int i => exact ⟨i, rfl, k _ F' H' x (.int _)⟩
    | _ => exact k.elim) fun _ z => z⟩

/-! ### comparisons -/
def cmpD (p : Int → Int → Bool) : D → D → Res D
  | .int i, .int j => .ok (.bool (p i j))
  | _, _ => .stk
theorem cmpD_ne {p : Int → Int → Bool} : ∀ x y z, cmpD p x y ≠ .err z := fun x y z h => by cases x <;> cases y <;> cases h
theorem cmpD_b {p : Int → Int → Bool} : ∀ x y d, cmpD p x y = .ok d → ∃ b, d = .bool b := fun x y z h => by cases x <;> cases y <;> cases h; exact ⟨_, rfl⟩
theorem op2_cmp {K : Frag} {p : Int → Int → Bool} : Op2 K (rI0 fun i j => .bl (p i j)) (cmpD p) := fun F H x y dx dy s rx ry Q k => by
  cases dx <;> cases dy <;> try exact k.elim
  rename_i i j
  rw [rx.int, ry.int]
  exact ⟨i, j, rfl, rfl, k _ F H (Ext.refl s) (.bl _)⟩
abbrev ltI : Int → Int → Bool := fun i j => decide (i < j)
abbrev leI : Int → Int → Bool := fun i j => decide (i ≤ j)
abbrev gtI : Int → Int → Bool := fun i j => decide (j < i)
abbrev geI : Int → Int → Bool := fun i j => decide (j ≤ i)
section
variable {ma mb : Env → Res D}
theorem de_lt (ha : DB X κ E a ma) (hb : DB X κ E b mb) : DE X κ E (.Compare a [.Lt] [b] pos) (mBin (cmpD ltI) ma mb) := de_cmp op_lt op2_cmp cmpD_ne ha hb (nomark _)
theorem de_le (ha : DB X κ E a ma) (hb : DB X κ E b mb) : DE X κ E (.Compare a [.LtE] [b] pos) (mBin (cmpD leI) ma mb) := de_cmp op_le op2_cmp cmpD_ne ha hb (nomark _)
theorem de_gt (ha : DB X κ E a ma) (hb : DB X κ E b mb) : DE X κ E (.Compare a [.Gt] [b] pos) (mBin (cmpD gtI) ma mb) := de_cmp op_gt op2_cmp cmpD_ne ha hb (nomark _)
theorem de_ge (ha : DB X κ E a ma) (hb : DB X κ E b mb) : DE X κ E (.Compare a [.GtE] [b] pos) (mBin (cmpD geI) ma mb) := de_cmp op_ge op2_cmp cmpD_ne ha hb (nomark _)
theorem dt_lt (ha : DB X κ E a ma) (hb : DB X κ E b mb) : DT X κ E (.Compare a [.Lt] [b] pos) (mTru (mBin (cmpD ltI) ma mb)) := dt_cmp op_lt op2_cmp cmpD_ne cmpD_b ha hb (nomark _)
theorem dt_le (ha : DB X κ E a ma) (hb : DB X κ E b mb) : DT X κ E (.Compare a [.LtE] [b] pos) (mTru (mBin (cmpD leI) ma mb)) := dt_cmp op_le op2_cmp cmpD_ne cmpD_b ha hb (nomark _)
theorem dt_gt (ha : DB X κ E a ma) (hb : DB X κ E b mb) : DT X κ E (.Compare a [.Gt] [b] pos) (mTru (mBin (cmpD gtI) ma mb)) := dt_cmp op_gt op2_cmp cmpD_ne cmpD_b ha hb (nomark _)
theorem dt_ge (ha : DB X κ E a ma) (hb : DB X κ E b mb) : DT X κ E (.Compare a [.GtE] [b] pos) (mTru (mBin (cmpD geI) ma mb)) := dt_cmp op_ge op2_cmp cmpD_ne cmpD_b ha hb (nomark _)
end
/-! == of data -/
mutual
/-- plain data (no dicts), nested at most n deep -/
def plainD : Nat → D → Bool
  | _, .none => true
  | _, .bool _ => true
  | _, .int _ => true
  | _, .str _ => true
  | 0, .list _ => false
  | 0, .tuple _ => false
  | n + 1, .list xs => plainL n xs
  | n + 1, .tuple xs => plainL n xs
  | _, .dict _ => false
def plainL : Nat → List D → Bool
  | _, [] => true
  | n, x :: xs => plainD n x && plainL n xs
end
end
mutual
theorem plain_depth : ∀ (n : Nat) (d : D), plainD n d = true → d.depth ≤ n
  | n, .none, _ => by simp [PyData.depth]
  | n, .bool _, _ => by simp [PyData.depth]
  | n, .int _, _ => by simp [PyData.depth]
  | n, .str _, _ => by simp [PyData.depth]
  | 0, .list _, h => by simp [plainD] at h
  | 0, .tuple _, h => by simp [plainD] at h
  | n + 1, .list xs, h => by
    have := plain_depthL n xs (by simpa [plainD] using h)
    simp [PyData.depth] at *
    omega
  | n + 1, .tuple xs, h => by
    have := plain_depthL n xs (by simpa [plainD] using h)
    simp [PyData.depth] at *
    omega
  | n, .dict _, h => by cases n <;> simp [plainD] at h
theorem plain_depthL : ∀ (n : Nat) (ds : List D), plainL n ds = true → PyData.depthAll ds ≤ n
  | n, [], _ => by simp [PyData.depthAll]
  | n, x :: xs, h => by
    have h' : plainD n x = true ∧ plainL n xs = true := by simpa [plainL] using h
    have h1 := plain_depth n x h'.1
    have h2 := plain_depthL n xs h'.2
    simp [PyData.depthAll]
    omega
end
end WD

namespace WD
open PySem PySem.Spec PyProof.Rows L2
open Evl (Ex Ex.refl Ex.trans Ex.new Ex.mut ex_l ex_t fresh_back)

/-! ### == and in -/
mutual
theorem Rp.dp {K : Frag} {F : Hp} : ∀ (n : Nat) (d : D) (v : V), Rp K F v d → plainD n d = true → Dp K F v d ∧ PyData.canLay0 d = true
  | n, .none, _, h, _ => by cases h; exact ⟨.non, by simp [PyData.canLay0]⟩
  | n, .bool _, _, h, _ => by cases h; exact ⟨.bl _, by simp [PyData.canLay0]⟩
  | n, .int _, _, h, _ => by cases h; exact ⟨.int _, by simp [PyData.canLay0]⟩
  | n, .str _, _, h, _ => by
    cases h with
    | str x hx => exact ⟨.str _, by simpa [PyData.canLay0] using hx⟩
  | 0, .list _, _, _, p => by simp [plainD] at p
  | 0, .tuple _, _, _, p => by simp [plainD] at p
  | n + 1, .list xs, _, h, p => by
    cases h with
    | lst h a =>
      have := Rp.dpA n xs _ a (by simpa [plainD] using p)
      exact ⟨.lst h this.1, by simpa [PyData.canLay0] using this.2⟩
  | n + 1, .tuple xs, _, h, p => by
    cases h with
    | tup h a =>
      have := Rp.dpA n xs _ a (by simpa [plainD] using p)
      exact ⟨.tup h this.1, by simpa [PyData.canLay0] using this.2⟩
  | n, .dict _, _, _, p => by cases n <;> simp [plainD] at p
theorem Rp.dpA {K : Frag} {F : Hp} : ∀ (n : Nat) (ds : List D) (vs : List V), RpA K F vs ds → plainL n ds = true → DpAll K F vs ds ∧ PyData.canLayAll0 ds = true
  | n, [], _, h, _ => by cases h; exact ⟨.nil, by simp [PyData.canLayAll0]⟩
  | n, d :: ds, _, h, p => by
    cases h with
    | cons h1 h2 =>
      have p' : plainD n d = true ∧ plainL n ds = true := by simpa [plainL] using p
      have a := Rp.dp n d _ h1 p'.1
      have b := Rp.dpA n ds _ h2 p'.2
      exact ⟨.cons a.1 b.1, by simp [PyData.canLayAll0, a.2, b.2]⟩
end
theorem Rb.dp {K : Frag} {F H : Hp} {v : V} {d : D} {n : Nat} (s : Ex F H) (r : Rb K F H v d) (hn : n ≤ 64) (p : plainD n d = true) : Dp K H v d ∧ SeqAt.shaped d = true := by
  have a := Rp.dp n d v (r.whole s) p
  refine ⟨a.1, ?_⟩
  unfold SeqAt.shaped
  rw [a.2]
  have := plain_depth n d p
  rw [Bool.true_and]
  exact decide_eq_true (by omega)
/-- deep enough for every datum here -/
abbrev deep : Nat := 40
def eqD (x y : D) : Res D := if plainD deep x = true ∧ plainD deep y = true then .ok (.bool (PyData.eqv x y)) else .stk
def neD (x y : D) : Res D := if plainD deep x = true ∧ plainD deep y = true then .ok (.bool (!PyData.eqv x y)) else .stk
theorem eqD_ne : ∀ x y z, eqD x y ≠ .err z := fun x y z h => by unfold eqD at h; split at h <;> cases h
theorem neD_ne : ∀ x y z, neD x y ≠ .err z := fun x y z h => by unfold neD at h; split at h <;> cases h
theorem eqD_b : ∀ x y d, eqD x y = .ok d → ∃ b, d = .bool b := fun x y d h => by unfold eqD at h; split at h <;> cases h; exact ⟨_, rfl⟩
theorem neD_b : ∀ x y d, neD x y = .ok d → ∃ b, d = .bool b := fun x y d h => by unfold neD at h; split at h <;> cases h; exact ⟨_, rfl⟩
theorem op2_eq {K : Frag} : Op2 K (rEqD K) eqD := fun F H x y dx dy s rx ry Q k => by
  unfold eqD at k
  split at k
  · rename_i h
    have a := rx.dp s (by decide) h.1
    have b := ry.dp s (by decide) h.2
    exact ⟨dx, dy, a.1, b.1, a.2, b.2, k _ F H (Ext.refl s) (.bl _)⟩
  · exact k.elim
theorem op2_ne {K : Frag} : Op2 K (rNeD K) neD := fun F H x y dx dy s rx ry Q k => by
  unfold neD at k
  split at k
  · rename_i h
    have a := rx.dp s (by decide) h.1
    have b := ry.dp s (by decide) h.2
    exact ⟨dx, dy, a.1, b.1, a.2, b.2, k _ F H (Ext.refl s) (.bl _)⟩
  · exact k.elim
section
variable {X : Cx} {κ κe : Nat → Kd} {E : EX} {a b c e : Expr} {es : List Expr} {pos : Pos} {st : Stmt} {sts : List Stmt} {ma mb mc : Env → Res D}
theorem de_eq {k : Nat} (hr : Room k X.A) (ha : DB X κ E a ma) (hb : DB X κ E b mb) : DE X κ E (.Compare a [.Eq] [b] pos) (mBin eqD ma mb) := de_cmp (op_eqD hr.units) op2_eq eqD_ne ha hb (nomark _)
theorem de_ne {k : Nat} (hr : Room k X.A) (ha : DB X κ E a ma) (hb : DB X κ E b mb) : DE X κ E (.Compare a [.NotEq] [b] pos) (mBin neD ma mb) := de_cmp (op_neD hr.units) op2_ne neD_ne ha hb (nomark _)
theorem dt_eq {k : Nat} (hr : Room k X.A) (ha : DB X κ E a ma) (hb : DB X κ E b mb) : DT X κ E (.Compare a [.Eq] [b] pos) (mTru (mBin eqD ma mb)) := dt_cmp (op_eqD hr.units) op2_eq eqD_ne eqD_b ha hb (nomark _)
theorem dt_ne {k : Nat} (hr : Room k X.A) (ha : DB X κ E a ma) (hb : DB X κ E b mb) : DT X κ E (.Compare a [.NotEq] [b] pos) (mTru (mBin neD ma mb)) := dt_cmp (op_neD hr.units) op2_ne neD_ne neD_b ha hb (nomark _)

/-! is None -/
def isNoneD : D → Bool
  | .none => true
  | _ => false
def mIsN (m : Env → Res D) : Env → Res D := fun ρ => (m ρ).bind fun d => .ok (.bool (isNoneD d))
def mNotN (m : Env → Res D) : Env → Res D := fun ρ => (m ρ).bind fun d => .ok (.bool (!isNoneD d))
theorem Rb.isNone {K : Frag} {F H : Hp} {v : V} {d : D} (s : Ex F H) (r : Rb K F H v d) : decide (v = .non) = isNoneD d := by
  have w := r.whole s
  cases w <;> first | rfl | (exact decide_eq_false fun z => nomatch z)
theorem de_isN {j pos'} (ha : DB X κ E a ma) : DE X κ E (.Compare a [.Is] [.Constant .none j pos'] pos) (mIsN ma) :=
  (pe_cmp (pc_isN ha) rfl).imp fun σ H Q ⟨F0, H0, F, ρ, S, c⟩ => ⟨F0, H0, F, ρ, S, Res.sat_imp (Res.sat_bind c) (fun d _ k v F' H' x r => by
    show Q (V.bl (decide (v = V.non))) H'
    rw [r.isNone x.s]
    exact k _ F' H' x (.bl _)) fun _ z => z⟩
theorem de_notN {j pos'} (ha : DB X κ E a ma) : DE X κ E (.Compare a [.IsNot] [.Constant .none j pos'] pos) (mNotN ma) :=
  (pe_cmp (pc_notN ha) rfl).imp fun σ H Q ⟨F0, H0, F, ρ, S, c⟩ => ⟨F0, H0, F, ρ, S, Res.sat_imp (Res.sat_bind c) (fun d _ k v F' H' x r => by
    show Q (V.bl (!decide (v = V.non))) H'
    rw [r.isNone x.s]
    exact k _ F' H' x (.bl _)) fun _ z => z⟩
/-- a value that is a bool, as a test: by its value's truth -/
theorem dt_val (h : DE X κ E e ma) (hb : ∀ ρ d, ma ρ = .ok d → ∃ b, d = .bool b) (he : ∀ whole, isTrue e X.env whole = (do let v ← whole; standAt e.pos; holding [v] (truthy v)) := by intro _; rfl) : DT X κ E e (mTru ma) :=
  (pt_val h he).imp fun σ H Q ⟨F0, H0, F, ρ, S, c⟩ => ⟨F0, H0, F, ρ, S, Res.sat_imp (bool_of c fun d hd => hb ρ d hd) (fun d _ k v F' H' x r => by
    obtain ⟨b, rfl, k⟩ := k
    cases r
    exact ⟨b, rfl, k F' H' x⟩) fun _ z => z⟩
theorem isN_b : ∀ (ρ : Env) (d : D), mIsN ma ρ = .ok d → ∃ b, d = .bool b := fun ρ d h => by
  obtain ⟨x, _, h⟩ := bind_ok h
  cases h; exact ⟨_, rfl⟩
theorem notN_b : ∀ (ρ : Env) (d : D), mNotN ma ρ = .ok d → ∃ b, d = .bool b := fun ρ d h => by
  obtain ⟨x, _, h⟩ := bind_ok h
  cases h; exact ⟨_, rfl⟩
/-- (as a test) -/
theorem dt_isN {j pos'} (ha : DB X κ E a ma) : DT X κ E (.Compare a [.Is] [.Constant .none j pos'] pos) (mTru (mIsN ma)) :=
  (pt_cmp (pc_isN ha) rfl).imp fun σ H Q ⟨F0, H0, F, ρ, S, c⟩ => ⟨F0, H0, F, ρ, S, Res.sat_imp (Res.sat_bind (m := ma ρ) (f := fun d => (Res.ok (PyData.bool (isNoneD d)))|>.bind truD) (by
    have c' : Res.sat _ _ ((mIsN ma ρ).bind truD) := c
    unfold mIsN at c'
    cases q : ma ρ <;> rw [q] at c' <;> exact c')) (fun d _ k v F' H' x r => ⟨_, rfl, by
      show Q (decide (v = V.non)) H'
      rw [r.isNone x.s]; exact k F' H' x⟩) fun _ z => z⟩
theorem dt_notN {j pos'} (ha : DB X κ E a ma) : DT X κ E (.Compare a [.IsNot] [.Constant .none j pos'] pos) (mTru (mNotN ma)) :=
  (pt_cmp (pc_notN ha) rfl).imp fun σ H Q ⟨F0, H0, F, ρ, S, c⟩ => ⟨F0, H0, F, ρ, S, Res.sat_imp (Res.sat_bind (m := ma ρ) (f := fun d => (Res.ok (PyData.bool (!isNoneD d)))|>.bind truD) (by
    have c' : Res.sat _ _ ((mNotN ma ρ).bind truD) := c
    unfold mNotN at c'
    cases q : ma ρ <;> rw [q] at c' <;> exact c')) (fun d _ k v F' H' x r => ⟨_, rfl, by
      show Q (!decide (v = V.non)) H'
      rw [r.isNone x.s]; exact k F' H' x⟩) fun _ z => z⟩

/-! in -/
def flatD : D → Bool
  | .none => true
  | .bool _ => true
  | .int _ => true
  | .str _ => true
  | _ => false
def vOf : D → V
  | .none => .non
  | .bool b => .bl b
  | .int i => .int i
  | .str x => .str x
  | _ => .non
theorem flat_v {K : Frag} {F : Hp} {v : V} {d : D} (r : Rp K F v d) (h : flatD d = true) : v = vOf d ∧ flatV v = true := by
  cases r <;> first | exact ⟨rfl, rfl⟩ | cases h
theorem flat_vs {K : Frag} {F : Hp} : ∀ {vs : List V} {ds : List D}, RpA K F vs ds → ds.all flatD = true → vs = ds.map vOf ∧ vs.all flatV = true
  | _, _, .nil, _ => ⟨rfl, rfl⟩
  | _, _, .cons r a, h => by
    rw [List.all_cons, Bool.and_eq_true] at h
    have h1 := flat_v r h.1
    have h2 := flat_vs a h.2
    exact ⟨by rw [List.map_cons, ← h1.1, ← h2.1], by rw [List.all_cons, h1.2, h2.2]; rfl⟩
/-- one text in another -/
def inS (x y : Str) : Bool := !(Builtin.Str.occurrences y x 0 y.length 1).isEmpty
def inD (x y : D) : Res D :=
  match x, y with
  | .str x, .str y => .ok (.bool (inS x y))
  | x, .list ys => if flatD x = true ∧ ys.all flatD = true then .ok (.bool (inV (vOf x) (ys.map vOf))) else .stk
  | x, .tuple ys => if flatD x = true ∧ ys.all flatD = true then .ok (.bool (inV (vOf x) (ys.map vOf))) else .stk
  | _, _ => .stk
def notInD (x y : D) : Res D := (inD x y).bind fun d => match d with
  | .bool b => .ok (.bool (!b))
  | _ => .stk
theorem inD_ne : ∀ x y z, inD x y ≠ .err z := fun x y z h => by
  unfold inD at h
  split at h <;> first | cases h | (split at h <;> cases h)
theorem inD_b : ∀ x y d, inD x y = .ok d → ∃ b, d = .bool b := fun x y z h => by
  unfold inD at h
  split at h <;> first | (cases h; exact ⟨_, rfl⟩) | (split at h <;> cases h; exact ⟨_, rfl⟩) | cases h
theorem notInD_ne : ∀ x y z, notInD x y ≠ .err z := fun x y z h => by
  unfold notInD at h
  cases q : inD x y with
  | ok d =>
    rw [q] at h
    obtain ⟨b, rfl⟩ := inD_b x y d q
    cases h
  | err w => exact inD_ne x y w q
  | stk => rw [q] at h; cases h
theorem notInD_b : ∀ x y d, notInD x y = .ok d → ∃ b, d = .bool b := fun x y d h => by
  unfold notInD at h
  obtain ⟨e, q, h⟩ := bind_ok h
  obtain ⟨b, rfl⟩ := inD_b x y e q
  cases h; exact ⟨_, rfl⟩
abbrev rInA (K : Frag) : R2 := fun x y H Q => (∃ i j, x = .str i ∧ y = .str j ∧ Q (.bl (!(Builtin.Str.occurrences j i 0 j.length 1).isEmpty)) H) ∨ rIn K false x y H Q
abbrev rNotInA (K : Frag) : R2 := fun x y H Q => (∃ i j, x = .str i ∧ y = .str j ∧ Q (.bl (!(!(Builtin.Str.occurrences j i 0 j.length 1).isEmpty))) H) ∨ rIn K true x y H Q
theorem in_seq {K : Frag} {F H : Hp} {x y : V} {dx dy : D} {ys : List D} (s : Ex F H) (rx : Rb K F H x dx) (ry : Rb K F H y dy) (hy : dy = .list ys ∨ dy = .tuple ys) (hf : flatD dx = true ∧ ys.all flatD = true) :
    ∃ p xs, y = .ref p ∧ (SqL K H p xs ∨ SqT K H p xs) ∧ flatV x = true ∧ xs.all flatV = true ∧ inV x xs = inV (vOf dx) (ys.map vOf) := by
  have hx := flat_v (rx.whole s) hf.1
  rcases hy with rfl | rfl
  · obtain ⟨p, vs, rfl, h1, r1⟩ := ry.list s
    have hv := flat_vs r1 hf.2
    exact ⟨p, vs, rfl, .inl h1, hx.2, hv.2, by rw [hx.1, hv.1]⟩
  · obtain ⟨p, vs, rfl, h1, r1, _⟩ := ry.tuple s
    have hv := flat_vs r1 hf.2
    exact ⟨p, vs, rfl, .inr h1, hx.2, hv.2, by rw [hx.1, hv.1]⟩
theorem op2_in {K : Frag} : Op2 K (rInA K) inD := fun F H x y dx dy s rx ry Q k => by
  unfold inD at k
  split at k
  · obtain ⟨rfl, _⟩ := rx.str
    obtain ⟨rfl, _⟩ := ry.str
    exact .inl ⟨_, _, rfl, rfl, k _ F H (Ext.refl s) (.bl _)⟩
  · split at k
    · rename_i hf
      obtain ⟨p, xs, rfl, h1, h2, h3, h4⟩ := in_seq s rx ry (.inl rfl) hf
      refine .inr ⟨p, xs, rfl, h1, h2, h3, ?_⟩
      rw [if_neg Bool.false_ne_true, h4]
      exact k _ F H (Ext.refl s) (.bl _)
    · exact k.elim
  · split at k
    · rename_i hf
      obtain ⟨p, xs, rfl, h1, h2, h3, h4⟩ := in_seq s rx ry (.inr rfl) hf
      refine .inr ⟨p, xs, rfl, h1, h2, h3, ?_⟩
      rw [if_neg Bool.false_ne_true, h4]
      exact k _ F H (Ext.refl s) (.bl _)
    · exact k.elim
  · exact k.elim
theorem op2_notIn {K : Frag} : Op2 K (rNotInA K) notInD := fun F H x y dx dy s rx ry Q k => by
  unfold notInD inD at k
  split at k
  · obtain ⟨rfl, _⟩ := rx.str
    obtain ⟨rfl, _⟩ := ry.str
    exact .inl ⟨_, _, rfl, rfl, k _ F H (Ext.refl s) (.bl _)⟩
  · split at k
    · rename_i hf
      obtain ⟨p, xs, rfl, h1, h2, h3, h4⟩ := in_seq s rx ry (.inl rfl) hf
      refine .inr ⟨p, xs, rfl, h1, h2, h3, ?_⟩
      rw [if_pos rfl, h4]
      exact k _ F H (Ext.refl s) (.bl _)
    · exact k.elim
  · split at k
    · rename_i hf
      obtain ⟨p, xs, rfl, h1, h2, h3, h4⟩ := in_seq s rx ry (.inr rfl) hf
      refine .inr ⟨p, xs, rfl, h1, h2, h3, ?_⟩
      rw [if_pos rfl, h4]
      exact k _ F H (Ext.refl s) (.bl _)
    · exact k.elim
  · exact k.elim
theorem op_inA : OpR X (compareOp .In) (rInA X.K) := op_in_str.or op_in_seq
theorem op_notInA : OpR X (compareOp .NotIn) (rNotInA X.K) := L2.op_notIn_str.or op_notIn_seq
theorem de_in (ha : DB X κ E a ma) (hb : DB X κ E b mb) (hm : behindInMarks .In b = false := by rfl) : DE X κ E (.Compare a [.In] [b] pos) (mBin inD ma mb) := de_cmp op_inA op2_in inD_ne ha hb hm
theorem de_notIn (ha : DB X κ E a ma) (hb : DB X κ E b mb) (hm : behindInMarks .NotIn b = false := by rfl) : DE X κ E (.Compare a [.NotIn] [b] pos) (mBin notInD ma mb) := de_cmp op_notInA op2_notIn notInD_ne ha hb hm
theorem dt_in (ha : DB X κ E a ma) (hb : DB X κ E b mb) (hm : behindInMarks .In b = false := by rfl) : DT X κ E (.Compare a [.In] [b] pos) (mTru (mBin inD ma mb)) := dt_cmp op_inA op2_in inD_ne inD_b ha hb hm
theorem dt_notIn (ha : DB X κ E a ma) (hb : DB X κ E b mb) (hm : behindInMarks .NotIn b = false := by rfl) : DT X κ E (.Compare a [.NotIn] [b] pos) (mTru (mBin notInD ma mb)) := dt_cmp op_notInA op2_notIn notInD_ne notInD_b ha hb hm

/-! a < b <= c .. : two comparisons of whole numbers -/
def mChain (p q : Int → Int → Bool) (ma mb mc : Env → Res D) : Env → Res D := fun ρ => (ma ρ).bind fun x => (mb ρ).bind fun y => (cmpD p x y).bind fun d => (boolD d).bind fun b =>
  if b = true then (mc ρ).bind fun z => cmpD q y z else .ok (.bool false)
theorem cmpD_sat {p : Int → Int → Bool} {x y : D} {P : D → Prop} {R : Exn → Prop} (h : (cmpD p x y).sat P R) : ∃ i j, x = .int i ∧ y = .int j ∧ P (.bool (p i j)) := by
  cases x <;> cases y <;> first | exact ⟨_, _, rfl, rfl, h⟩ | exact h.elim
theorem chain_read {p q : Int → Int → Bool} {mg : Mg} {K : Frag} : ∀ σ H Q, rdE mg K κ E (mChain p q ma mb mc) σ H Q → tChain (rI0 fun i j => .bl (p i j)) (rI0 fun i j => .bl (q i j)) (rdE mg K κ E ma) (rdE mg K κ E mb) (rdE mg K κ E mc) σ H Q :=
  fun σ H Q ⟨F0, H0, F, ρ, S, c⟩ => ⟨F0, H0, F, ρ, S, Res.sat_imp (Res.sat_bind c) (fun x _ k v1 F1 H1 x1 r1 =>
    ⟨F0, H0, F1, ρ, S.mono x1, Res.sat_imp (Res.sat_bind k) (fun y _ k v2 F2 H2 x2 r2 => by
      obtain ⟨i, j, rfl, rfl, k⟩ := cmpD_sat (Res.sat_bind k)
      cases r1
      cases r2
      refine ⟨i, j, rfl, rfl, p i j, rfl, ?_⟩
      cases hp : p i j with
      | false =>
        rw [hp] at k
        first | exact k _ F2 H2 (x1.trans x2) (.bl _) | (rw [if_neg Bool.false_ne_true]; exact k _ F2 H2 (x1.trans x2) (.bl _))
      | true =>
        rw [hp] at k
        try rw [if_pos rfl]
        refine ⟨F0, H0, F2, ρ, (S.mono x1).mono x2, Res.sat_imp (Res.sat_bind k) (fun z _ k v3 F3 H3 x3 r3 => ?_) fun _ z => z.mono (x1.trans x2)⟩
        obtain ⟨j', l, e, rfl, k⟩ := cmpD_sat k
        cases e
        cases r3
        exact ⟨j, l, rfl, rfl, k _ F3 H3 ((x1.trans x2).trans x3) (.bl _)⟩) fun _ z => z.mono x1⟩) fun _ z => z⟩

theorem de_chain {op op' : CmpOp} {p q : Int → Int → Bool} (h1 : OpR X (compareOp op) (rI0 fun i j => .bl (p i j))) (h2 : OpR X (compareOp op') (rI0 fun i j => .bl (q i j))) (ha : DE X κ E a ma) (hb : DE X κ E b mb) (hc : DE X κ E c mc)
    (hp : PE X (.Compare a [op, op'] [b, c] pos) (tChain (rI0 fun i j => .bl (p i j)) (rI0 fun i j => .bl (q i j)) (rdE X.mg X.K κ E ma) (rdE X.mg X.K κ E mb) (rdE X.mg X.K κ E mc))) : DE X κ E (.Compare a [op, op'] [b, c] pos) (mChain p q ma mb mc) :=
  hp.imp (chain_read)
theorem mChain_b {p q : Int → Int → Bool} : ∀ (ρ : Env) (d : D), mChain p q ma mb mc ρ = .ok d → ∃ b, d = .bool b := fun ρ d h => by
  unfold mChain at h
  cases h1 : ma ρ with
  | ok x =>
    rw [h1] at h
    cases h2 : mb ρ with
    | ok y =>
      simp only [Res.bind, h2] at h
      cases x <;> cases y <;> simp only [cmpD, boolD] at h <;> try cases h
      rename_i i j
      cases hp : p i j with
      | false => rw [hp] at h; cases h; exact ⟨_, rfl⟩
      | true =>
        rw [hp] at h
        simp only [if_true] at h
        cases h3 : mc ρ with
        | ok z => rw [h3] at h; cases z <;> simp only [cmpD] at h <;> cases h; exact ⟨_, rfl⟩
        | err x => rw [h3] at h; cases h
        | stk => rw [h3] at h; cases h
    | err x => simp only [Res.bind, h2] at h; cases h
    | stk => simp only [Res.bind, h2] at h; cases h
  | err x => rw [h1] at h; cases h
  | stk => rw [h1] at h; cases h
theorem dt_chain {op op' : CmpOp} {p q : Int → Int → Bool} (h1 : OpR X (compareOp op) (rI0 fun i j => .bl (p i j))) (h2 : OpR X (compareOp op') (rI0 fun i j => .bl (q i j))) (ha : DE X κ E a ma) (hb : DE X κ E b mb) (hc : DE X κ E c mc)
    (hp : PT X (.Compare a [op, op'] [b, c] pos) (tTest (tChain (rI0 fun i j => .bl (p i j)) (rI0 fun i j => .bl (q i j)) (rdE X.mg X.K κ E ma) (rdE X.mg X.K κ E mb) (rdE X.mg X.K κ E mc)))) : DT X κ E (.Compare a [op, op'] [b, c] pos) (mTru (mChain p q ma mb mc)) :=
  hp.imp fun σ H Q ⟨F0, H0, F, ρ, S, c⟩ => chain_read σ H _ ⟨F0, H0, F, ρ, S, Res.sat_imp (bool_of c fun d hd => mChain_b ρ d hd) (fun d _ ⟨b, e, k⟩ v F' H' x r => by
    subst e
    cases r
    exact ⟨b, rfl, k F' H' x⟩) fun _ z => z⟩
end
end WD

namespace WD
open PySem PySem.Spec PyProof.Rows L2
open Evl (Ex Ex.refl Ex.trans Ex.new Ex.mut ex_l ex_t fresh_back)
section
variable {X : Cx} {κ κe : Nat → Kd} {E : EX} {a b c e : Expr} {es : List Expr} {pos : Pos} {st : Stmt} {sts : List Stmt} {ma mb mc : Env → Res D}

/-! ### built-in calls of one borrowed value -/
def Op1 (K : Frag) (r : List V → Hp → VK → Prop) (f : D → Res D) : Prop := ∀ F H x dx, Ex F H → Rb K F H x dx → ∀ Q : VK, Post K F H Q (f dx) → r [x] H Q
theorem op1_read {r : List V → Hp → VK → Prop} {f : D → Res D} {mg : Mg} {K : Frag} (hf : Op1 K r f) (ne : ∀ x z, f x ≠ .err z) : ∀ σ H Q, rdE mg K κ E (mUn f ma) σ H Q → tCB r (tCons (rdB mg K κ E ma) tNil) σ H Q :=
  fun σ H Q ⟨F0, H0, F, ρ, S, c⟩ => ⟨F0, H0, F, ρ, S, Res.sat_imp (Res.sat_bind c) (fun d _ k v F' H' x r => hf F' H' v d x.s r Q (by
    have c3 := sat_post (E1 := E.err σ) (mg := mg) (H := H) (F := F) (K := K) (Q := Q) (ne d) k
    exact Res.sat_imp c3 (fun d _ k v F2 H2 e' rp => k v F2 H2 (x.trans e') rp) fun _ z => z)) fun _ z => z⟩
theorem de_callB {x : Str} {p : Pos} {id : String} {r : List V → Hp → VK → Prop} {f : D → Res D} (hc : CallR X (.builtin id) r) (hf : Op1 X.K r f) (ne : ∀ x z, f x ≠ .err z) (hv : bootBuiltins x = some (.builtin id)) (hg : Gl X x) (hm : X.mg x = none) (ha : DB X κ E e ma) (hn : x ≠ "__name__" := by decide) (hdb : (x == ("__debug__" : Str)) = false := by decide)
    (he : starEach [e] X.env = (false, eval e X.env) :: starEach [] X.env := by rfl) (hpl : (backTo pos (starEach [] X.env)).any (·.1) = false := by rfl) : DE X κ E (.Call (.Name x p) [e] [] pos) (mUn f ma) :=
  (pe_callB hc hg hm hv (pa_cons ha pa_nil he) hn hdb he hpl).imp (op1_read hf ne)
theorem de_callTy {x : Str} {p : Pos} {T : String} {r : List V → Hp → VK → Prop} {f : D → Res D} (hc : CallR X (.type T) r) (hf : Op1 X.K r f) (ne : ∀ x z, f x ≠ .err z) (hv : bootBuiltins x = some (.type T)) (hg : Gl X x) (hm : X.mg x = none) (ha : DB X κ E e ma) (hn : x ≠ "__name__" := by decide) (hdb : (x == ("__debug__" : Str)) = false := by decide)
    (he : starEach [e] X.env = (false, eval e X.env) :: starEach [] X.env := by rfl) (hpl : (backTo pos (starEach [] X.env)).any (·.1) = false := by rfl) : DE X κ E (.Call (.Name x p) [e] [] pos) (mUn f ma) :=
  (pe_callTy hc hg hm hv (pa_cons ha pa_nil he) hn hdb he hpl).imp (op1_read hf ne)

def lenD : D → Res D
  | .list xs => .ok (.int xs.length)
  | .tuple xs => .ok (.int xs.length)
  | .dict xs => .ok (.int xs.length)
  | .str x => if x.length ≤ sizeLine then .ok (.int x.length) else .stk
  | _ => .stk
theorem lenD_ne : ∀ x z, lenD x ≠ .err z := fun x z h => by cases x <;> simp only [lenD] at h <;> first | cases h | (split at h <;> cases h)
theorem RpK.length {K : Frag} {F : Hp} : ∀ {vs : List (Key × V)} {ds : List (D × D)}, RpK K F vs ds → vs.length = ds.length
  | _, _, .nil => rfl
  | _, _, .cons _ _ a => by rw [List.length_cons, List.length_cons, RpK.length a]
abbrev rLenA (K : Frag) : List V → Hp → VK → Prop := fun xs H Q => (∃ x n, xs = [x] ∧ LenV K x H n ∧ Q (.int n) H) ∨ (∃ a kvs, xs = [V.ref a] ∧ Rd H a (.dK kvs) ∧ Q (.int kvs.length) H)
theorem call_lenR : CallR X (.builtin "len") (fun xs H Q => ∃ a kvs, xs = [V.ref a] ∧ Rd H a (.dK kvs) ∧ Q (.int kvs.length) H) := fun pins s σ H xs us Q I r ⟨a, kvs, e, ha, q⟩ => by
  subst e
  obtain ⟨u, rfl, ru⟩ := vals1 r
  cases ru
  exact d_len I ha fun t s' I' => ⟨.int kvs.length, H, I', ⟨t, rfl⟩, q⟩
theorem call_lenA : CallR X (.builtin "len") (rLenA X.K) := call_len.or call_lenR
theorem op1_len {K : Frag} : Op1 K (rLenA K) lenD := fun F H x dx s rx Q k => by
  have w := rx.whole s
  cases w with
  | str y hy =>
    simp only [lenD] at k
    split at k
    · rename_i z
      exact .inl ⟨_, _, rfl, ⟨z, rfl⟩, k _ F H (Ext.refl s) (.int _)⟩
    · exact k.elim
  | @lst a xs ds h r => exact .inl ⟨_, ds.length, rfl, .inl ⟨xs, h, r.length.symm⟩, k _ F H (Ext.refl s) (.int _)⟩
  | @tup a xs ds h r => exact .inl ⟨_, ds.length, rfl, .inr ⟨xs, h, r.length.symm⟩, k _ F H (Ext.refl s) (.int _)⟩
  | @dct a kvs ds h r => exact .inr ⟨a, kvs, rfl, h, by rw [r.length]; exact k _ F H (Ext.refl s) (.int _)⟩
  | _ => exact k.elim
theorem de_len {p : Pos} (hg : Gl X "len") (hm : X.mg "len" = none) (ha : DB X κ E e ma) (he : starEach [e] X.env = (false, eval e X.env) :: starEach [] X.env := by rfl) (hpl : (backTo pos (starEach [] X.env)).any (·.1) = false := by rfl) : DE X κ E (.Call (.Name "len" p) [e] [] pos) (mUn lenD ma) :=
  de_callB call_lenA op1_len lenD_ne PySem.boot_len hg hm ha (by decide) (by decide) he hpl
/-- list(x), a new list -/
def mSeq1 (m : Env → Res D) : Env → Res (List D) := fun ρ => (m ρ).bind seqD
theorem dn_list {p : Pos} (hg : Gl X "list") (hm : X.mg "list" = none) (ha : DB X κ E e ma) (hv : bootBuiltins "list" = some (.type "list") := by decide +kernel) (he : starEach [e] X.env = (false, eval e X.env) :: starEach [] X.env := by rfl) (hpl : (backTo pos (starEach [] X.env)).any (·.1) = false := by rfl) : DN X κ E (.Call (.Name "list" p) [e] [] pos) (mSeq1 ma) :=
  (pe_callTy call_list_of hg hm hv (pa_cons ha pa_nil he) (by decide) (by decide) he hpl).imp fun σ H Q ⟨F0, H0, F, ρ, S, c⟩ => ⟨F0, H0, F, ρ, S, Res.sat_imp (Res.sat_bind c) (fun d _ k v F' H' x r => by
    obtain ⟨ds, hd, k⟩ := seqD_sat k
    rcases hd with rfl | rfl
    · obtain ⟨p, vs, rfl, h1, r1⟩ := r.list x.s
      exact ⟨p, vs, rfl, .inl h1, fun l hl => k l vs F' _ (x.trans (.newO x.s hl)) (fresh_back x.h hl) (none_of_ex x.s hl) upd_same r1⟩
    · obtain ⟨p, vs, rfl, h1, r1, _⟩ := r.tuple x.s
      exact ⟨p, vs, rfl, .inr h1, fun l hl => k l vs F' _ (x.trans (.newO x.s hl)) (fresh_back x.h hl) (none_of_ex x.s hl) upd_same r1⟩) fun _ z => z⟩
def tupleD : D → Res D
  | .list xs => .ok (.tuple xs)
  | .tuple xs => .ok (.tuple xs)
  | _ => .stk
theorem de_tuple {p : Pos} (hg : Gl X "tuple") (hm : X.mg "tuple" = none) (ha : DB X κ E e ma) (hv : bootBuiltins "tuple" = some (.type "tuple") := by decide +kernel) (he : starEach [e] X.env = (false, eval e X.env) :: starEach [] X.env := by rfl) (hpl : (backTo pos (starEach [] X.env)).any (·.1) = false := by rfl) : DE X κ E (.Call (.Name "tuple" p) [e] [] pos) (mUn tupleD ma) :=
  de_callTy call_tuple_of (fun F H x dx s rx Q k => by
    cases dx with
    | list ds =>
      obtain ⟨p, vs, rfl, h1, r1⟩ := rx.list s
      exact ⟨p, vs, rfl, .inl ⟨h1, post_newT s r1 k⟩⟩
    | tuple ds =>
      obtain ⟨p, vs, rfl, h1, r1, w⟩ := rx.tuple s
      exact ⟨p, vs, rfl, .inr ⟨h1, k _ F H (Ext.refl s) w⟩⟩
    | _ => exact k.elim) (fun x z h => by cases x <;> cases h) hv hg hm ha (by decide) (by decide) he hpl
theorem oks_ofNat : ∀ (n : Nat), OkS (Str.ofString (toString ((n : Nat) : Int))) := fun n => by
  rw [oks_iff]
  intro c hc
  have e : TL.tl (Str.ofString (toString ((n : Nat) : Int))) = TL.numL n := TL.tl_num n
  have hc' : c ∈ TL.numL n := by rw [← e]; exact hc
  have := TL.numL_free (n := n) (s := c)
  by_cases h : c < 48 ∨ 57 < c
  · exact absurd hc' (this h)
  · omega
theorem oks_toString (i : Int) : OkS (toString i : Str) := by
  have e : TL.tl (Str.ofString (toString i)) = (toString i).toList.map Char.toNat := TL.tl_ofString _
  show OkS (Str.ofString (toString i))
  rw [oks_iff]
  intro c hc
  have hc' : c ∈ (toString i).toList.map Char.toNat := by rw [← e]; exact hc
  obtain ⟨ch, _, rfl⟩ := List.mem_map.mp hc'
  have := ch.valid
  have : ch.toNat < 0x110000 := by
    have h1 := ch.valid
    unfold Char.toNat
    rcases h1 with h1 | h1 <;> omega
  exact this
def strD : D → Res D
  | .int i => if i.natAbs.log2 < 1920 then .ok (.str (toString i)) else .stk
  | _ => .stk
theorem de_str1 {p : Pos} (hg : Gl X "str") (hm : X.mg "str" = none) (ha : DB X κ E e ma) (hv : bootBuiltins "str" = some (.type "str") := by decide +kernel) (he : starEach [e] X.env = (false, eval e X.env) :: starEach [] X.env := by rfl) (hpl : (backTo pos (starEach [] X.env)).any (·.1) = false := by rfl) : DE X κ E (.Call (.Name "str" p) [e] [] pos) (mUn strD ma) :=
  de_callTy call_str_int (fun F H x dx s rx Q k => by
    cases dx with
    | int i =>
      rw [rx.int]
      simp only [strD] at k
      split at k
      · rename_i h
        exact ⟨i, rfl, h, k _ F H (Ext.refl s) (.str _ (oks_toString i))⟩
      · exact k.elim
    | _ => exact k.elim) (fun x z h => by cases x <;> simp only [strD] at h <;> first | cases h | (split at h <;> cases h)) hv hg hm ha (by decide) (by decide) he hpl
def intD : D → Res D
  | .int i => .ok (.int i)
  | .bool k => .ok (.int (if k then 1 else 0))
  | .str x => match PySem.intText? x with
    | some n => if x.length ≤ 640 then .ok (.int n) else .stk
    | none => .stk
  | _ => .stk
theorem de_int1 {p : Pos} (hg : Gl X "int") (hm : X.mg "int" = none) (ha : DB X κ E e ma) (hv : bootBuiltins "int" = some (.type "int") := by decide +kernel) (he : starEach [e] X.env = (false, eval e X.env) :: starEach [] X.env := by rfl) (hpl : (backTo pos (starEach [] X.env)).any (·.1) = false := by rfl) : DE X κ E (.Call (.Name "int" p) [e] [] pos) (mUn intD ma) :=
  de_callTy (call_int1.or call_int_str) (fun F H x dx s rx Q k => by
    cases dx with
    | int i => rw [rx.int]; exact .inl (.inl ⟨i, rfl, k _ F H (Ext.refl s) (.int _)⟩)
    | bool i => rw [rx.bool]; exact .inl (.inr ⟨i, rfl, k _ F H (Ext.refl s) (.int _)⟩)
    | str y =>
      obtain ⟨rfl, _⟩ := rx.str
      simp only [intD] at k
      split at k
      · rename_i n hn
        split at k
        · rename_i hl
          exact .inr ⟨y, n, rfl, hn, hl, k _ F H (Ext.refl s) (.int _)⟩
        · exact k.elim
      · exact k.elim
    | _ => exact k.elim) (fun x z h => by
      cases x <;> simp only [intD] at h <;> first | cases h | (split at h <;> first | cases h | (split at h <;> cases h))) hv hg hm ha (by decide) (by decide) he hpl
def blsOf : List D → Option (List Bool)
  | [] => some []
  | .bool b :: ds => (blsOf ds).map (b :: ·)
  | _ :: _ => none
theorem bls_vs {K : Frag} {F : Hp} : ∀ {vs : List V} {ds : List D} {bs : List Bool}, RpA K F vs ds → blsOf ds = some bs → vs = bs.map V.bl
  | _, _, _, .nil, h => by cases h; rfl
  | _, _, bs, .cons (d := d) (ds := ds) r a, h => by
    cases r with
    | bl b =>
      simp only [blsOf] at h
      cases q : blsOf ds with
      | none => rw [q] at h; cases h
      | some cs =>
        rw [q] at h
        cases h
        rw [List.map_cons, bls_vs a q]
    | _ => cases h
def allD : D → Res D
  | .list ds => (ofO (blsOf ds)).bind fun bs => .ok (.bool (bs.all id))
  | _ => .stk
def anyD : D → Res D
  | .list ds => (ofO (blsOf ds)).bind fun bs => .ok (.bool (bs.any id))
  | _ => .stk
theorem ofO_ne {α : Type} {o : Option α} {z : Exn} : ofO o ≠ .err z := by cases o <;> exact fun h => nomatch h
theorem de_all {p : Pos} (hc : X.calm = true) (hg : Gl X "all") (hm : X.mg "all" = none) (ha : DB X κ E e ma) (hv : bootBuiltins "all" = some (.builtin "all") := by decide +kernel) (he : starEach [e] X.env = (false, eval e X.env) :: starEach [] X.env := by rfl) (hpl : (backTo pos (starEach [] X.env)).any (·.1) = false := by rfl) : DE X κ E (.Call (.Name "all" p) [e] [] pos) (mUn allD ma) :=
  de_callB (cr_all hc) (fun F H x dx s rx Q k => by
    cases dx with
    | list ds =>
      obtain ⟨p, vs, rfl, h1, r1⟩ := rx.list s
      obtain ⟨bs, hb, k⟩ := ofO_sat (Res.sat_bind k)
      have e := bls_vs r1 hb
      subst e
      exact ⟨p, bs, rfl, h1, k _ F H (Ext.refl s) (.bl _)⟩
    | _ => exact k.elim) (fun x z h => by
      cases x <;> first | cases h | skip
      rename_i ds
      simp only [allD] at h
      cases q : blsOf ds <;> rw [q] at h <;> cases h) hv hg hm ha (by decide) (by decide) he hpl
theorem de_any {p : Pos} (hc : X.calm = true) (hg : Gl X "any") (hm : X.mg "any" = none) (ha : DB X κ E e ma) (hv : bootBuiltins "any" = some (.builtin "any") := by decide +kernel) (he : starEach [e] X.env = (false, eval e X.env) :: starEach [] X.env := by rfl) (hpl : (backTo pos (starEach [] X.env)).any (·.1) = false := by rfl) : DE X κ E (.Call (.Name "any" p) [e] [] pos) (mUn anyD ma) :=
  de_callB (cr_any hc) (fun F H x dx s rx Q k => by
    cases dx with
    | list ds =>
      obtain ⟨p, vs, rfl, h1, r1⟩ := rx.list s
      obtain ⟨bs, hb, k⟩ := ofO_sat (Res.sat_bind k)
      have e := bls_vs r1 hb
      subst e
      exact ⟨p, bs, rfl, h1, k _ F H (Ext.refl s) (.bl _)⟩
    | _ => exact k.elim) (fun x z h => by
      cases x <;> first | cases h | skip
      rename_i ds
      simp only [anyD] at h
      cases q : blsOf ds <;> rw [q] at h <;> cases h) hv hg hm ha (by decide) (by decide) he hpl
def intsOf : List D → Option (List Int)
  | [] => some []
  | .int b :: ds => (intsOf ds).map (b :: ·)
  | _ :: _ => none
theorem ints_vs {K : Frag} {F : Hp} : ∀ {vs : List V} {ds : List D} {bs : List Int}, RpA K F vs ds → intsOf ds = some bs → vs = bs.map V.int
  | _, _, _, .nil, h => by cases h; rfl
  | _, _, bs, .cons (d := d) (ds := ds) r a, h => by
    cases r with
    | int b =>
      simp only [intsOf] at h
      cases q : intsOf ds with
      | none => rw [q] at h; cases h
      | some cs =>
        rw [q] at h
        cases h
        rw [List.map_cons, ints_vs a q]
    | _ => cases h
def sumD : D → Res D
  | .list ds => (ofO (intsOf ds)).bind fun bs => .ok (.int bs.sum)
  | _ => .stk
theorem de_sum {p : Pos} (hc : X.calm = true) (hg : Gl X "sum") (hm : X.mg "sum" = none) (ha : DB X κ E e ma) (hv : bootBuiltins "sum" = some (.builtin "sum") := by decide +kernel) (he : starEach [e] X.env = (false, eval e X.env) :: starEach [] X.env := by rfl) (hpl : (backTo pos (starEach [] X.env)).any (·.1) = false := by rfl) : DE X κ E (.Call (.Name "sum" p) [e] [] pos) (mUn sumD ma) :=
  de_callB (cr_sum hc) (fun F H x dx s rx Q k => by
    cases dx with
    | list ds =>
      obtain ⟨p, vs, rfl, h1, r1⟩ := rx.list s
      obtain ⟨bs, hb, k⟩ := ofO_sat (Res.sat_bind k)
      have e := ints_vs r1 hb
      subst e
      exact ⟨p, bs, rfl, h1, k _ F H (Ext.refl s) (.int _)⟩
    | _ => exact k.elim) (fun x z h => by
      cases x <;> first | cases h | skip
      rename_i ds
      simp only [sumD] at h
      cases q : intsOf ds <;> rw [q] at h <;> cases h) hv hg hm ha (by decide) (by decide) he hpl
/-! two whole numbers: max, min -/
def maxD (x y : D) : Res D := match x, y with
  | .int i, .int j => .ok (.int (if j > i then j else i))
  | _, _ => .stk
def minD (x y : D) : Res D := match x, y with
  | .int i, .int j => .ok (.int (if j < i then j else i))
  | _, _ => .stk
theorem call2_read {r : List V → Hp → VK → Prop} {f : D → D → Res D} {mg : Mg} {K : Frag} (hf : Op2 K (fun x y H Q => r [x, y] H Q) f) (ne : ∀ x y z, f x y ≠ .err z) : ∀ σ H Q, rdE mg K κ E (mBin f ma mb) σ H Q → tCB r (tCons (rdB mg K κ E ma) (tCons (rdB mg K κ E mb) tNil)) σ H Q :=
  fun σ H Q h => op2_read hf ne σ H Q h
theorem de_max {p : Pos} (hc : X.calm = true) (hg : Gl X "max") (hm : X.mg "max" = none) (ha : DB X κ E a ma) (hb : DB X κ E b mb) (hv : bootBuiltins "max" = some (.builtin "max") := by decide +kernel) (he : starEach [a, b] X.env = (false, eval a X.env) :: starEach [b] X.env := by rfl) (he2 : starEach [b] X.env = (false, eval b X.env) :: starEach [] X.env := by rfl) (hpl : (backTo pos (starEach [b] X.env)).any (·.1) = false := by rfl) : DE X κ E (.Call (.Name "max" p) [a, b] [] pos) (mBin maxD ma mb) :=
  (pe_callB (call_max2 hc) hg hm hv (pa_cons ha (pa_cons hb pa_nil he2) he) (by decide) (by decide) he hpl).imp (call2_read (fun F H x y dx dy s rx ry Q k => by
    cases dx <;> cases dy <;> try exact k.elim
    rw [rx.int, ry.int]
    exact ⟨_, _, rfl, k _ F H (Ext.refl s) (.int _)⟩) (fun x y z h => by cases x <;> cases y <;> cases h))
theorem de_min {p : Pos} (hc : X.calm = true) (hg : Gl X "min") (hm : X.mg "min" = none) (ha : DB X κ E a ma) (hb : DB X κ E b mb) (hv : bootBuiltins "min" = some (.builtin "min") := by decide +kernel) (he : starEach [a, b] X.env = (false, eval a X.env) :: starEach [b] X.env := by rfl) (he2 : starEach [b] X.env = (false, eval b X.env) :: starEach [] X.env := by rfl) (hpl : (backTo pos (starEach [b] X.env)).any (·.1) = false := by rfl) : DE X κ E (.Call (.Name "min" p) [a, b] [] pos) (mBin minD ma mb) :=
  (pe_callB (call_min2 hc) hg hm hv (pa_cons ha (pa_cons hb pa_nil he2) he) (by decide) (by decide) he hpl).imp (call2_read (fun F H x y dx dy s rx ry Q k => by
    cases dx <;> cases dy <;> try exact k.elim
    rw [rx.int, ry.int]
    exact ⟨_, _, rfl, k _ F H (Ext.refl s) (.int _)⟩) (fun x y z h => by cases x <;> cases y <;> cases h))
/-! isinstance(x, T), T a built-in class -/
def tyN : D → String
  | .none => "NoneType" | .bool _ => "bool" | .int _ => "int" | .str _ => "str" | .list _ => "list" | .tuple _ => "tuple" | .dict _ => "dict"
theorem Rp.ty {K : Frag} {H : Hp} {v : V} {d : D} (r : Rp K H v d) : TyX K H v (.type (tyN d)) := by
  cases r with
  | non => exact .base .non
  | bl b => exact .base (.bl b)
  | int i => exact .base (.int i)
  | str x _ => exact .base (.str x)
  | lst h _ =>
    rcases h with (h | ⟨o, h⟩) | ⟨o, its, n, h1, h2, _⟩
    · exact .base (.lst h)
    · exact .base (.frz h)
    · exact .kList h1 h2
  | tup h _ =>
    rcases h with (h | ⟨o, h⟩) | ⟨o, its, n, h1, h2, _⟩
    · exact .base (.tup h)
    · exact .fTuple h
    · exact .kTuple h1 h2
  | dct h _ =>
    rcases h with h | ⟨o, h⟩
    · exact .base (.dK h)
    · exact .fDict h
def isiD (T : String) (d : D) : Res D := (ofO (kitB (tyN d) T)).bind fun b => .ok (.bool b)
theorem isi_ne {T : String} {d : D} {z : Exn} : isiD T d ≠ .err z := by
  unfold isiD
  cases kitB (tyN d) T <;> exact fun h => nomatch h
theorem isi_b {T : String} : ∀ (ρ : Env) (d : D), mUn (isiD T) ma ρ = .ok d → ∃ b, d = .bool b := fun ρ d h => by
  obtain ⟨x, _, h⟩ := bind_ok h
  obtain ⟨b, _, h⟩ := bind_ok h
  cases h; exact ⟨_, rfl⟩
theorem de_isi {p q : Pos} {T : Str} {T' : String} (hg : Gl X "isinstance") (hm : X.mg "isinstance" = none) (hg2 : Gl X T) (hm2 : X.mg T = none) (hv2 : bootBuiltins T = some (.type T')) (ha : DB X κ E e ma) (hv : bootBuiltins "isinstance" = some (.builtin "isinstance") := by decide +kernel) (hn : T ≠ "__name__" := by decide) (hd : (T == ("__debug__" : Str)) = false := by decide)
    (he : starEach [e, .Name T q] X.env = (false, eval e X.env) :: starEach [.Name T q] X.env := by rfl) (he2 : starEach [.Name T q] X.env = (false, eval (.Name T q) X.env) :: starEach [] X.env := by rfl) (hpl : (backTo pos (starEach [.Name T q] X.env)).any (·.1) = false := by rfl) :
    DE X κ E (.Call (.Name "isinstance" p) [e, .Name T q] [] pos) (mUn (isiD T') ma) :=
  (pe_callB call_isi hg hm hv (pa_cons ha (pa_cons (pe_bltn (v := .ty T') hg2 hm2 hv2 rfl hn hd) pa_nil he2) he) (by decide) (by decide) he hpl).imp fun σ H Q ⟨F0, H0, F, ρ, S, c⟩ => ⟨F0, H0, F, ρ, S, Res.sat_imp (Res.sat_bind c) (fun d _ k v F' H' x r => by
    obtain ⟨b, hb, k⟩ := ofO_sat (Res.sat_bind k)
    exact ⟨v, .ty T', _, _, b, rfl, .ty T', (r.whole x.s).ty, kit_ty hb, k _ F' H' x (.bl _)⟩) fun _ z => z⟩

/-! ### subscripts -/
def atD (d i : D) : Res D :=
  match d, i with
  | .list xs, .int i => ofO (atI xs i)
  | .tuple xs, .int i => ofO (atI xs i)
  | .str x, .int i => if x.length ≤ sizeLine then (ofO (atI x.cps.toList i)).bind fun c => .ok (.str ⟨#[c]⟩) else .stk
  | _, _ => .stk
theorem bind_ne {α β : Type} {r : Res α} {f : α → Res β} {z : Exn} (h : r.bind f = .err z) (hr : r ≠ .err z) (hf : ∀ a, f a ≠ .err z) : False := by
  cases r with
  | ok a => exact hf a h
  | err x =>
    have e : x = z := by cases h; rfl
    exact hr (by rw [e])
  | stk => cases h
theorem atD_ne : ∀ x y z, atD x y ≠ .err z := fun x y z h => by
  unfold atD at h
  split at h
  · exact ofO_ne h
  · exact ofO_ne h
  · split at h
    · exact bind_ne h ofO_ne fun _ h => nomatch h
    · cases h
  · cases h
theorem atI_rp {K : Frag} {F : Hp} {vs : List V} {ds : List D} {i : Int} {d : D} (r : RpA K F vs ds) (h : atI ds i = some d) : ∃ v, atI vs i = some v ∧ Rp K F v d := by
  unfold atI at h ⊢
  rw [r.length]
  cases q : ixN ds.length i with
  | none => rw [q] at h; cases h
  | some j =>
    rw [q] at h
    exact r.get h
theorem atI_mem {α : Type} {xs : List α} {i : Int} {x : α} (h : atI xs i = some x) : x ∈ xs := by
  unfold atI at h
  cases q : ixN xs.length i with
  | none => rw [q] at h; cases h
  | some j => rw [q] at h; exact List.mem_of_getElem? h
theorem op2_at {K : Frag} : Op2 K (rIx K) atD := fun F H x y dx dy s rx ry Q k => by
  unfold atD at k
  split at k
  · obtain ⟨p, vs, rfl, h1, r1⟩ := rx.list s
    obtain ⟨d, hd, k⟩ := ofO_sat k
    obtain ⟨v, hv, rv⟩ := atI_rp r1 hd
    rw [ry.int]
    exact .inl ⟨p, vs, _, v, rfl, rfl, h1, hv, k v F H (Ext.refl s) rv⟩
  · obtain ⟨p, vs, rfl, h1, r1, _⟩ := rx.tuple s
    obtain ⟨d, hd, k⟩ := ofO_sat k
    obtain ⟨v, hv, rv⟩ := atI_rp r1 hd
    rw [ry.int]
    exact .inr (.inl ⟨p, vs, _, v, rfl, rfl, h1, hv, k v F H (Ext.refl s) rv⟩)
  · obtain ⟨rfl, hx⟩ := rx.str
    rw [ry.int]
    split at k
    · rename_i z
      obtain ⟨c, hc, k⟩ := ofO_sat (Res.sat_bind k)
      exact .inr (.inr ⟨_, _, c, rfl, rfl, z, hc, k _ F H (Ext.refl s) (.str _ (oks_sign hx (atI_mem hc)))⟩)
    · exact k.elim
  · exact k.elim
theorem de_at (ha : DB X κ E a ma) (hb : DB X κ E b mb) (hs : PlainIx b := by exact fun _ _ => rfl) : DE X κ E (.Subscript a b pos) (mBin atD ma mb) :=
  (pe_ix ix_seq ha hb hs).imp (op2_read op2_at atD_ne)
/-! slices -/
def rdO (mg : Mg) (K : Frag) (κ : Nat → Kd) (E : EX) (m : Env → Res (Option Int)) : TO := fun σ H Q => ∃ F0 H0 F ρ, Stt K κ F0 H0 F H σ ρ ∧ (m ρ).sat (fun o => ∀ F' H', Ext F H F' H' → Q o H') (ErrOk mg K (E.err σ) F H)
def DO (X : Cx) (κ : Nat → Kd) (E : EX) (e : Option Expr) (m : Env → Res (Option Int)) : Prop := PO X e (rdO X.mg X.K κ E m)
theorem _root_.L2.PO.imp {X : Cx} {e : Option Expr} {t t' : TO} (h : PO X e t) (i : ∀ σ H Q, t' σ H Q → t σ H Q) : PO X e t' := by
  constructor
  intro pins s σ H Q I hw
  exact h.run pins s σ H Q I (i σ H Q hw)
def mNone : Env → Res (Option Int) := fun _ => .ok none
def mSome (m : Env → Res D) : Env → Res (Option Int) := fun ρ => (m ρ).bind fun d => match d with
  | .int i => .ok (some i)
  | _ => .stk
theorem do_none : DO X κ E none mNone := po_none.imp fun σ H Q ⟨F0, H0, F, ρ, S, c⟩ => c F H (Ext.refl S.sub)
theorem do_some (h : DE X κ E e ma) : DO X κ E (some e) (mSome ma) := (po_some h).imp fun σ H Q ⟨F0, H0, F, ρ, S, c⟩ => ⟨F0, H0, F, ρ, S, Res.sat_imp (Res.sat_bind c) (fun d _ k v F' H' x r => by
  cases r with
  | int i => exact ⟨i, rfl, k F' H' x⟩
  | _ => exact k.elim) fun _ z => z⟩
def cutL {α : Type} (xs : List α) (lo hi : Option Int) : List α := (xs.drop (HT.sIx xs.length 0 lo)).take (HT.sIx xs.length xs.length hi - HT.sIx xs.length 0 lo)
theorem RpA.cut {K : Frag} {F : Hp} {vs : List V} {ds : List D} (r : RpA K F vs ds) (lo hi : Option Int) : RpA K F (cutV vs lo hi) (cutL ds lo hi) := by
  unfold cutV cutL
  rw [r.length]
  exact (r.drop _).take _
def cutD (d : D) (lo hi : Option Int) : Res D :=
  match d with
  | .list xs => .ok (.list (cutL xs lo hi))
  | .tuple xs => .ok (.tuple (cutL xs lo hi))
  | .str x => if x.length ≤ sizeLine then .ok (.str (cutS x lo hi)) else .stk
  | _ => .stk
def mCut (ma : Env → Res D) (ml mh : Env → Res (Option Int)) : Env → Res D := fun ρ => (ma ρ).bind fun d => (ml ρ).bind fun lo => (mh ρ).bind fun hi => cutD d lo hi
theorem cut_whole {α : Type} {xs : List α} {lo hi : Option Int} (h : HT.sIx xs.length 0 lo = 0 ∧ HT.sIx xs.length xs.length hi = xs.length) : cutL xs lo hi = xs := by
  unfold cutL
  rw [h.1, h.2]
  simp
theorem de_cut {lo hi : Option Expr} {p2 : Pos} {ml mh : Env → Res (Option Int)} (ha : DB X κ E a ma) (hl : DO X κ E lo ml) (hh : DO X κ E hi mh) : DE X κ E (.Subscript a (.Slice lo hi none p2) pos) (mCut ma ml mh) :=
  (pe_slice (sl_list.or (sl_tupA.or sl_str)) ha hl hh).imp fun σ H Q ⟨F0, H0, F, ρ, S, c⟩ => ⟨F0, H0, F, ρ, S, Res.sat_imp (Res.sat_bind c) (fun d _ k v F1 H1 x1 r1 =>
    ⟨F0, H0, F1, ρ, S.mono x1, Res.sat_imp (Res.sat_bind k) (fun lo _ k F2 H2 x2 =>
      ⟨F0, H0, F2, ρ, (S.mono x1).mono x2, Res.sat_imp (Res.sat_bind k) (fun hi _ k F3 H3 x3 => by
        have x := (x1.trans x2).trans x3
        have r3 := (r1.mono x2).mono x3
        unfold cutD at k
        split at k
        · obtain ⟨p, vs, rfl, h1, r⟩ := r3.list x.s
          exact .inl ⟨p, vs, rfl, h1, post_new x.s (r.cut lo hi) fun v F' H' x4 rp => k v F' H' (x.trans x4) rp⟩
        · obtain ⟨p, vs, rfl, h1, r, w⟩ := r3.tuple x.s
          refine .inr (.inl ⟨p, vs, rfl, h1, fun z => ?_, fun z => post_newT x.s (r.cut lo hi) fun v F' H' x4 rp => k v F' H' (x.trans x4) rp⟩)
          rw [r.length] at z
          rw [cut_whole z] at k
          exact k _ F3 H3 x w
        · obtain ⟨rfl, hx⟩ := r3.str
          split at k
          · rename_i z
            exact .inr (.inr ⟨_, rfl, z, k _ F3 H3 x (.str _ (oks_cut hx))⟩)
          · exact k.elim
        · exact k.elim) fun _ z => z.mono (x1.trans x2)⟩) fun _ z => z.mono x1⟩) fun _ z => z⟩

/-! ### methods of texts -/
def strM (f : Str → List D → Res D) : D → List D → Res D := fun d ds => match d with
  | .str x => f x ds
  | _ => .stk
def mMt (f : Str → List D → Res D) (mo : Env → Res D) (ms : Env → Res (List D)) : Env → Res D := fun ρ => (mo ρ).bind fun d => match d with
  | .str x => (ms ρ).bind (f x)
  | _ => .stk
def OpS (K : Frag) (r : V → List V → Hp → VK → Prop) (f : Str → List D → Res D) : Prop := ∀ F H x vs ds, Ex F H → OkS x → RpA K F vs ds → ∀ Q : VK, Post K F H Q (f x ds) → r (.str x) vs H Q
theorem strm_read {r : V → List V → Hp → VK → Prop} {f : Str → List D → Res D} {mo : Env → Res D} {ms : Env → Res (List D)} {mg : Mg} {K : Frag} (hf : OpS K r f) (ne : ∀ x y z, f x y ≠ .err z) : ∀ σ H Q, rdE mg K κ E (mMt f mo ms) σ H Q → tBM K "str" r (rdE mg K κ E mo) (rdA mg K κ E ms) σ H Q :=
  fun σ H Q ⟨F0, H0, F, ρ, S, c⟩ => ⟨F0, H0, F, ρ, S, Res.sat_imp (Res.sat_bind c) (fun d hd k v F1 H1 x1 r1 => by
    cases r1 with
    | str x hx =>
      refine ⟨rfl, F0, H0, F1, ρ, S.mono x1, Res.sat_imp (Res.sat_bind k) (fun ds _ k vs F2 H2 x2 r2 => ?_) fun _ z => z.mono x1⟩
      have c3 := sat_post (E1 := E.err σ) (mg := mg) (H := H) (F := F) (K := K) (Q := Q) (ne x ds) k
      exact hf F2 H2 x vs ds x2.s hx r2 Q (Res.sat_imp c3 (fun d _ k v F3 H3 e' rp => k v F3 H3 ((x1.trans x2).trans e') rp) fun _ z => z)
    | _ => exact k.elim) fun _ z => z⟩
/-- one method: its rule, its function of data -/
theorem de_m {o : Expr} {name : Str} {apos cpos : Pos} {id : String} {r : V → List V → Hp → VK → Prop} {f : Str → List D → Res D} {mo : Env → Res D} {ms : Env → Res (List D)} (slot : Slot "str" name id) (hty : typeOf (.builtin id) = pure (.type "method_descriptor")) (hm : MtR X id r) (hf : OpS X.K r f) (ne : ∀ x y z, f x y ≠ .err z)
    (ho : DE X κ E o mo) (ha : DA X κ E (e :: es) ms) (hbase : attributeBase o name X.env (eval o X.env) = eval o X.env := by rfl)
    (hfew : ((backTo cpos (starEach (e :: es) X.env)).all (fun x => !x.1) && (backToKw cpos (keywordEach [] X.env)).all (fun x => x.1.isSome)
      && decide ((e :: es).length + ([] : List Keyword).length + (if ([] : List Keyword).isEmpty then 0 else 1) < 30)) = true := by rfl)
    (hline : (apos.endLine == cpos.line) = true := by rfl) (hs : starEach (e :: es) X.env = (false, eval e X.env) :: starEach es X.env := by rfl) (hplain : (backTo cpos (starEach es X.env)).any (·.1) = false := by rfl) :
    DE X κ E (.Call (.Attribute o name apos) (e :: es) [] cpos) (mMt f mo ms) :=
  (pe_bm PySem.F.plainAttrs_str slot hty hm ho ha hbase hfew hline hs hplain).imp (strm_read hf ne)
/-- .. of one text -/
def s1D (g : Str → Str → Res D) : Str → List D → Res D := fun x ds => match ds with
  | [.str y] => g x y
  | _ => .stk
theorem s1_ne {g : Str → Str → Res D} (h : ∀ x y z, g x y ≠ .err z) : ∀ x y z, s1D g x y ≠ .err z := fun x y z e => by
  unfold s1D at e
  split at e
  · exact h _ _ _ e
  · cases e
theorem ops_1 {K : Frag} {r : V → List V → Hp → VK → Prop} {g : Str → Str → Res D} (h : ∀ F H x y, Ex F H → OkS x → OkS y → ∀ Q : VK, Post K F H Q (g x y) → r (.str x) [.str y] H Q) : OpS K r (s1D g) := fun F H x vs ds s hx rs Q k => by
  unfold s1D at k
  split at k
  · cases rs with
    | cons r1 rs =>
      cases rs
      cases r1 with
      | str _ hy => exact h F H x _ s hx hy Q k
  · exact k.elim
def startsD (x y : Str) : Res D := .ok (.bool (Txt.startswith x y))
def endsD (x y : Str) : Res D := .ok (.bool (Txt.endswith x y))
def findD (x y : Str) : Res D := .ok (.int (Txt.find x y))
def lstripD (x y : Str) : Res D := if x.length ≤ sizeLine then .ok (.str (Txt.lstripChars x y)) else .stk
theorem stripped_sub {goes : Nat → Bool} {l r : Bool} {x : Str} (hx : OkS x) : OkS (Txt.stripBy goes l r x) := by
  unfold Txt.stripBy
  split
  · exact hx
  · refine oks_sub hx fun c hc => ?_
    have e : ∀ i j, (Builtin.Str.strSub x i j).cps.toList = (x.cps.toList.drop i).take (j - i) := fun i j => TL.tl_strSub x i j
    unfold PySem.stripped at hc
    rw [e] at hc
    exact List.mem_of_mem_drop (List.mem_of_mem_take hc)
end
section
variable {X : Cx} {κ κe : Nat → Kd} {E : EX} {o e : Expr} {es : List Expr} {apos cpos pos : Pos} {mo : Env → Res D} {ms : Env → Res (List D)}
theorem ops_starts {K : Frag} : OpS K (fun x xs H Q => ∃ a b, x = .str a ∧ xs = [.str b] ∧ Q (.bl (Txt.startswith a b)) H) (s1D startsD) := ops_1 fun F H x y s hx hy Q k => ⟨x, y, rfl, rfl, k _ F H (Ext.refl s) (.bl _)⟩
theorem ops_ends {K : Frag} : OpS K (fun x xs H Q => ∃ a b, x = .str a ∧ xs = [.str b] ∧ Q (.bl (Txt.endswith a b)) H) (s1D endsD) := ops_1 fun F H x y s hx hy Q k => ⟨x, y, rfl, rfl, k _ F H (Ext.refl s) (.bl _)⟩
theorem ops_find {K : Frag} : OpS K (fun x xs H Q => ∃ a b, x = .str a ∧ xs = [.str b] ∧ Q (.int (Txt.find a b)) H) (s1D findD) := ops_1 fun F H x y s hx hy Q k => ⟨x, y, rfl, rfl, k _ F H (Ext.refl s) (.int _)⟩
theorem ops_lstrip {K : Frag} : OpS K (fun x xs H Q => ∃ a b, x = .str a ∧ xs = [.str b] ∧ a.length ≤ sizeLine ∧ Q (.str (Txt.lstripChars a b)) H) (s1D lstripD) := ops_1 fun F H x y s hx hy Q k => by
  unfold lstripD at k
  split at k
  · rename_i h
    exact ⟨x, y, rfl, rfl, h, k _ F H (Ext.refl s) (.str _ (stripped_sub hx))⟩
  · exact k.elim
theorem starts_ne : ∀ x y z, s1D startsD x y ≠ .err z := s1_ne fun _ _ _ h => nomatch h
theorem ends_ne : ∀ x y z, s1D endsD x y ≠ .err z := s1_ne fun _ _ _ h => nomatch h
theorem find_ne : ∀ x y z, s1D findD x y ≠ .err z := s1_ne fun _ _ _ h => nomatch h
theorem lstrip_ne : ∀ x y z, s1D lstripD x y ≠ .err z := s1_ne fun _ _ _ h => by unfold lstripD at h; split at h <;> cases h
end
end WD

namespace WD
open PySem PySem.Spec PyProof.Rows L2
open Evl (Ex Ex.refl Ex.trans Ex.new Ex.mut ex_l ex_t fresh_back)
section
variable {X : Cx} {κ κe : Nat → Kd} {E : EX} {a b c e tg : Expr} {es : List Expr} {pos : Pos} {ma mb mc : Env → Res D} {ms : Env → Res (List D)}
/-! ### what is walked -/
def signsD (x : Str) : List D := x.cps.toList.map fun c => .str ⟨#[c]⟩
def itD : D → Res (List D)
  | .list ds => .ok ds
  | .tuple ds => .ok ds
  | .str x => .ok (signsD x)
  | _ => .stk
def mIt (m : Env → Res D) : Env → Res (List D) := fun ρ => (m ρ).bind itD
theorem walkd_of {K : Frag} {J : It} {n : Nat} {G : Hp → Prop} {Y : Nat → Hp → V → Hp → Prop} {P : Hp → Hp → Prop} {ds : List D} (w : Walk J n G Y) (hn : n = ds.length) (hG : ∀ F2 H2, P F2 H2 → Ex F2 H2 → G H2)
    (hY : ∀ i F2 H2 x H3, P F2 H2 → Ex F2 H2 → i < ds.length → Y i H2 x H3 → ∃ d F3, ds[i]? = some d ∧ Ext F2 H2 F3 H3 ∧ Rp K F3 x d) : WalkD K P J ds := fun i F2 H2 p s hi => by
  subst hn
  exact ⟨fun hlt => ⟨w.goes i H2 hlt (hG F2 H2 p s), fun x H3 y => hY i F2 H2 x H3 p s hlt (w.yields i H2 x H3 hlt (hG F2 H2 p s) y)⟩, fun e => by subst e; exact w.stops H2 (hG F2 H2 p s)⟩
theorem walkd_at {K : Frag} {J : It} {G : Hp → Prop} {P : Hp → Hp → Prop} {vs : List V} {ds : List D} {F : Hp} (w : Walk J vs.length G (YAt vs)) (r : RpA K F vs ds) (hG : ∀ F2 H2, P F2 H2 → Ex F2 H2 → G H2) (hF : ∀ F2 H2, P F2 H2 → Ex F F2) : WalkD K P J ds :=
  walkd_of w r.length hG fun i F2 H2 x H3 p s hi y => by
    obtain ⟨rfl, hx⟩ := y
    obtain ⟨d, hd, rd⟩ := r.getV hx
    exact ⟨d, F2, hd, Ext.refl s, rd.mono (hF F2 _ p)⟩
theorem walkd_str {K : Frag} {P : Hp → Hp → Prop} {x : Str} (hx : OkS x) : WalkD K P (Its x) (signsD x) :=
  walkd_of walk_str (by simp [signsD]) (fun _ _ _ _ => trivial) fun i F2 H2 v H3 p s hi y => by
    obtain ⟨rfl, c, hc, rfl⟩ := y
    have hc' : x.cps.toList[i]? = some c := by rw [Array.getElem?_toList]; exact hc
    refine ⟨.str ⟨#[c]⟩, F2, ?_, Ext.refl s, .str _ (oks_sign hx (List.mem_of_getElem? hc'))⟩
    unfold signsD
    rw [List.getElem?_map, hc']
    rfl
theorem di_seq (h : DE X κ E e ma) : DI X κ E tg e (mIt ma) := ⟨fun pins s σ H R I ⟨F0, H0, F, ρ, S, k⟩ => by
  have k := Res.sat_bind k
  cases hd : ma ρ with
  | err x =>
    refine (pi_list h).run pins s σ H R I ⟨F0, H0, F, ρ, S, ?_⟩
    rw [hd] at k ⊢
    exact k
  | stk => rw [hd] at k; exact k.elim
  | ok d =>
    rw [hd] at k
    cases d with
    | list ds =>
      refine (pi_list h).run pins s σ H R I ⟨F0, H0, F, ρ, S, ?_⟩
      rw [hd]
      intro v F' H' x r
      cases r with
      | @lst a vs _ h1 h2 => exact ⟨a, rfl, ⟨vs, ex_l x.s h1⟩, k _ F' H' x (walkd_at walk_list h2 (fun F2 H2 p s => ex_l (p.trans s) h1) fun F2 H2 p => p)⟩
    | tuple ds =>
      refine (pi_tup h).run pins s σ H R I ⟨F0, H0, F, ρ, S, ?_⟩
      rw [hd]
      intro v F' H' x r
      cases r with
      | @tup a vs _ h1 h2 => exact ⟨a, rfl, ⟨vs, ex_t x.s h1⟩, k _ F' H' x (walkd_at walk_tup h2 (fun F2 H2 p s => ex_t (p.trans s) h1) fun F2 H2 p => p)⟩
    | str y =>
      refine (pi_str h).run pins s σ H R I ⟨F0, H0, F, ρ, S, ?_⟩
      rw [hd]
      intro v F' H' x r
      cases r with
      | str _ hy => exact ⟨y, rfl, k _ F' H' x (walkd_str hy)⟩
    | _ => exact k.elim⟩
theorem dip_seq (h : DB X κ E e ma) : DIp X κ E tg e (mIt ma) := ⟨fun pins s σ H R I ⟨F0, H0, F, ρ, S, k⟩ => by
  have k := Res.sat_bind k
  cases hd : ma ρ with
  | err x =>
    refine (pi_list h).run pins s σ H R I ⟨F0, H0, F, ρ, S, ?_⟩
    rw [hd] at k ⊢
    exact k
  | stk => rw [hd] at k; exact k.elim
  | ok d =>
    rw [hd] at k
    cases d with
    | list ds =>
      refine (pi_list h).run pins s σ H R I ⟨F0, H0, F, ρ, S, ?_⟩
      rw [hd]
      intro v F' H' x r
      obtain ⟨a, vs, rfl, h1, h2⟩ := r.list x.s
      exact ⟨a, rfl, ⟨vs, h1⟩, k _ F' H' x (walkd_at walk_list h2 (fun F2 H2 p s => ex_l p.h h1) fun F2 H2 p => p.f)⟩
    | tuple ds =>
      refine (pi_tup h).run pins s σ H R I ⟨F0, H0, F, ρ, S, ?_⟩
      rw [hd]
      intro v F' H' x r
      obtain ⟨a, vs, rfl, h1, h2, _⟩ := r.tuple x.s
      exact ⟨a, rfl, ⟨vs, h1⟩, k _ F' H' x (walkd_at walk_tup h2 (fun F2 H2 p s => ex_t p.h h1) fun F2 H2 p => p.f)⟩
    | str y =>
      refine (pi_str h).run pins s σ H R I ⟨F0, H0, F, ρ, S, ?_⟩
      rw [hd]
      intro v F' H' x r
      obtain ⟨rfl, hy⟩ := r.str
      exact ⟨y, rfl, k _ F' H' x (walkd_str hy)⟩
    | _ => exact k.elim⟩
/-! range -/
def rngD (lo : Int) (n : Nat) : List D := (List.range n).map fun (i : Nat) => .int (lo + (i : Int))
theorem walkd_rng {K : Frag} {P : Hp → Hp → Prop} {lo : Int} {n : Nat} : WalkD K P (Itr lo n) (rngD lo n) :=
  walkd_of walk_range (by simp [rngD]) (fun _ _ _ _ => trivial) fun i F2 H2 v H3 p s hi y => by
    obtain ⟨rfl, rfl⟩ := y
    have hi' : i < n := by simpa [rngD] using hi
    refine ⟨.int (lo + (i : Int)), F2, ?_, Ext.refl s, .int _⟩
    unfold rngD
    rw [List.getElem?_map, List.getElem?_range hi']
    rfl
def rng1D : List D → Res (List D)
  | [.int j] => if -(2 ^ 62) ≤ j ∧ j < 2 ^ 62 then .ok (rngD 0 j.toNat) else .stk
  | _ => .stk
def rng2D : List D → Res (List D)
  | [.int i, .int j] => if -(2 ^ 62) ≤ i ∧ i < 2 ^ 62 ∧ -(2 ^ 62) ≤ j ∧ j < 2 ^ 62 then .ok (rngD i (j - i).toNat) else .stk
  | _ => .stk
def mBindA (f : List D → Res (List D)) (m : Env → Res (List D)) : Env → Res (List D) := fun ρ => (m ρ).bind f
theorem di_range1 {p : Pos} (hg : Gl X "range") (hm : X.mg "range" = none) (ha : DA X κ E [a] ms) (hs : starEach [a] X.env = [(false, eval a X.env)] := by rfl) : DI X κ E tg (.Call (.Name "range" p) [a] [] pos) (mBindA rng1D ms) :=
  (pi_range1 hg hm ha hs).imp fun σ H R ⟨F0, H0, F, ρ, S, c⟩ => ⟨F0, H0, F, ρ, S, Res.sat_imp (Res.sat_bind c) (fun ds _ k vs F' H' x r => by
    unfold rng1D at k
    split at k
    · split at k
      · rename_i h
        cases r with
        | cons r1 r2 =>
          cases r1
          cases r2
          exact ⟨_, rfl, h.1, h.2, k _ F' H' x walkd_rng⟩
      · exact k.elim
    · exact k.elim) fun _ z => z⟩
theorem di_range2 {p : Pos} (hg : Gl X "range") (hm : X.mg "range" = none) (ha : DA X κ E [a, b] ms) (hs : starEach [a, b] X.env = [(false, eval a X.env), (false, eval b X.env)] := by rfl) (hs2 : starEach [b] X.env = [(false, eval b X.env)] := by rfl) : DI X κ E tg (.Call (.Name "range" p) [a, b] [] pos) (mBindA rng2D ms) :=
  (pi_range2 hg hm ha hs hs2).imp fun σ H R ⟨F0, H0, F, ρ, S, c⟩ => ⟨F0, H0, F, ρ, S, Res.sat_imp (Res.sat_bind c) (fun ds _ k vs F' H' x r => by
    unfold rng2D at k
    split at k
    · split at k
      · rename_i h
        cases r with
        | cons r1 r2 =>
          cases r1
          cases r2 with
          | cons r2 r3 =>
            cases r2
            cases r3
            exact ⟨_, _, rfl, h, k _ F' H' x walkd_rng⟩
      · exact k.elim
    · exact k.elim) fun _ z => z⟩
/-! pairs: enumerate of a list, zip of two lists -/
theorem walkd_pair {K : Frag} {J : It} {n : Nat} {G : Hp → Prop} {P : Hp → Hp → Prop} {fx fy : Nat → Option V} {ds : List D} (w : Walk J n G (YPair fx fy)) (hn : n = ds.length) (hG : ∀ F2 H2, P F2 H2 → Ex F2 H2 → G H2)
    (hv : ∀ i F2 H2 x y, P F2 H2 → i < ds.length → fx i = some x → fy i = some y → ∃ dx dy, ds[i]? = some (.tuple [dx, dy]) ∧ Rp K F2 x dx ∧ Rp K F2 y dy) : WalkD K P J ds :=
  walkd_of w hn hG fun i F2 H2 v H3 p s hi yy => by
    obtain ⟨T, x, y, rfl, hT, rfl, h1, h2⟩ := yy
    obtain ⟨dx, dy, hd, r1, r2⟩ := hv i F2 H2 x y p hi h1 h2
    have e := Ex.new (o := .tup [x, y]) (none_of_ex s hT)
    exact ⟨_, upd F2 T (.tup [x, y]), hd, .new s hT, .tup (Evl.st_of upd_same) (.cons (r1.mono e) (.cons (r2.mono e) .nil))⟩
def enumD (ds : List D) : List D := ds.zipIdx.map fun p => .tuple [.int (p.2 : Int), p.1]
def enum1D : List D → Res (List D)
  | [.list ds] => .ok (enumD ds)
  | _ => .stk
theorem di_enum {p tpos : Pos} {elts : List Expr} {kk : Nat} (hg : Gl X "enumerate") (hm : X.mg "enumerate" = none) (ha : DA X κ E [a] ms) (hs : starEach [a] X.env = [(false, eval a X.env)] := by rfl) : DI X κ E (.Tuple elts kk tpos) (.Call (.Name "enumerate" p) [a] [] pos) (mBindA enum1D ms) :=
  (pi_enum hg hm ha hs).imp fun σ H R ⟨F0, H0, F, ρ, S, c⟩ => ⟨F0, H0, F, ρ, S, Res.sat_imp (Res.sat_bind c) (fun ds _ k vs F' H' x r => by
    unfold enum1D at k
    split at k
    · rename_i ds
      cases r with
      | cons r1 r2 =>
        cases r2
        cases r1 with
        | @lst a vs _ h1 h2 =>
          refine ⟨a, vs, rfl, ex_l x.s h1, k _ F' H' x (walkd_pair walk_enum (by simp [enumD, h2.length]) (fun F2 H2 p s => ex_l (p.trans s) h1) fun i F2 H2 x y p hi e1 e2 => ?_)⟩
          cases e1
          obtain ⟨d, hd, rd⟩ := h2.getV e2
          refine ⟨.int (i : Int), d, ?_, .int _, rd.mono p⟩
          unfold enumD
          rw [List.getElem?_map, List.getElem?_zipIdx, hd]
          simp
    · exact k.elim) fun _ z => z⟩
def zipD : List D → List D → List D
  | x :: xs, y :: ys => .tuple [x, y] :: zipD xs ys
  | _, _ => []
theorem zipD_get : ∀ (xs ys : List D) (i : Nat) (x y : D), xs[i]? = some x → ys[i]? = some y → (zipD xs ys)[i]? = some (.tuple [x, y])
  | [], _, _, _, _, h, _ => by simp at h
  | _ :: _, [], _, _, _, _, h => by simp at h
  | a :: xs, b :: ys, 0, x, y, h1, h2 => by
    simp at h1 h2
    subst h1 h2
    rfl
  | a :: xs, b :: ys, i + 1, x, y, h1, h2 => by
    simp at h1 h2
    simpa [zipD] using zipD_get xs ys i x y h1 h2
theorem zipD_len : ∀ (xs ys : List D), (zipD xs ys).length = min xs.length ys.length
  | [], _ => by simp [zipD]
  | _ :: _, [] => by simp [zipD]
  | a :: xs, b :: ys => by
    rw [zipD, List.length_cons, zipD_len xs ys, List.length_cons, List.length_cons]
    omega
def zip1D : List D → Res (List D)
  | [.list xs, .list ys] => .ok (zipD xs ys)
  | _ => .stk
theorem di_zip {p tpos : Pos} {elts : List Expr} {kk : Nat}
    (h : PI X (.Tuple elts kk tpos) (.Call (.Name "zip" p) [a, b] [] pos) (iZip X.K (rdA X.mg X.K κ E ms))) : DI X κ E (.Tuple elts kk tpos) (.Call (.Name "zip" p) [a, b] [] pos) (mBindA zip1D ms) :=
  h.imp fun σ H R ⟨F0, H0, F, ρ, S, c⟩ => ⟨F0, H0, F, ρ, S, Res.sat_imp (Res.sat_bind c) (fun ds _ k vs F' H' x r => by
    unfold zip1D at k
    split at k
    · rename_i xs ys
      cases r with
      | cons r1 r2 =>
        cases r2 with
        | cons r2 r3 =>
          cases r3
          cases r1 with
          | @lst a vs _ h1 h2 =>
            cases r2 with
            | @lst b ws _ h3 h4 =>
              refine ⟨a, b, vs, ws, rfl, ex_l x.s h1, ex_l x.s h3, k _ F' H' x (walkd_pair (walk_zip rfl) (by rw [zipD_len, h2.length, h4.length]) (fun F2 H2 p s => ⟨ex_l (p.trans s) h1, ex_l (p.trans s) h3⟩) fun i F2 H2 x y p hi e1 e2 => ?_)⟩
              obtain ⟨d, hd, rd⟩ := h2.getV e1
              obtain ⟨d', hd', rd'⟩ := h4.getV e2
              exact ⟨d, d', zipD_get _ _ _ _ _ hd hd', rd.mono p, rd'.mono p⟩
    · exact k.elim) fun _ z => z⟩

/-! ### join, split -/
def strsOf : List D → Option (List Str)
  | [] => some []
  | .str b :: ds => (strsOf ds).map (b :: ·)
  | _ :: _ => none
theorem strs_vs {K : Frag} {F : Hp} : ∀ {vs : List V} {ds : List D} {bs : List Str}, RpA K F vs ds → strsOf ds = some bs → vs = bs.map V.str ∧ ∀ x ∈ bs, OkS x
  | _, _, _, .nil, h => by cases h; exact ⟨rfl, by simp⟩
  | _, _, bs, .cons (d := d) (ds := ds) r a, h => by
    cases r with
    | str b hb =>
      simp only [strsOf] at h
      cases q : strsOf ds with
      | none => rw [q] at h; cases h
      | some cs =>
        rw [q] at h
        cases h
        have := strs_vs a q
        refine ⟨by rw [List.map_cons, this.1], fun x hx => ?_⟩
        rcases List.mem_cons.mp hx with rfl | hx
        · exact hb
        · exact this.2 x hx
    | _ => cases h
theorem joinL_mem {S : List Nat} : ∀ {ps : List (List Nat)} {c : Nat}, c ∈ TL.joinL S ps → c ∈ S ∨ ∃ p ∈ ps, c ∈ p
  | [], c, h => by simp [TL.joinL] at h
  | [p], c, h => by
    have : c ∈ p := by simpa [TL.joinL] using h
    exact .inr ⟨p, by simp, this⟩
  | p :: q :: r, c, h => by
    have h' : c ∈ p ∨ c ∈ S ∨ c ∈ TL.joinL S (q :: r) := by simpa [TL.joinL] using h
    rcases h' with h' | h' | h'
    · exact .inr ⟨p, by simp, h'⟩
    · exact .inl h'
    · rcases joinL_mem h' with h2 | ⟨p2, h2, h3⟩
      · exact .inl h2
      · exact .inr ⟨p2, by simp [List.mem_cons.mp h2], h3⟩
theorem oks_join {a : Str} {ys : List Str} (ha : OkS a) (h : ∀ x ∈ ys, OkS x) : OkS (Txt.join a ys) := by
  rw [oks_iff]
  intro c hc
  have e : TL.tl (Txt.join a ys) = TL.joinL (TL.tl a) (ys.map TL.tl) := by rw [TL.join_eq, TL.tl_join]
  have hc' : c ∈ TL.joinL (TL.tl a) (ys.map TL.tl) := by rw [← e]; exact hc
  rcases joinL_mem hc' with h1 | ⟨p, h1, h2⟩
  · exact (oks_iff.mp ha) c h1
  · obtain ⟨y, hy, rfl⟩ := List.mem_map.mp h1
    exact (oks_iff.mp (h y hy)) c h2
def joinD (a : Str) (ds : List D) : Res D := match ds with
  | [d] => (seqD d).bind fun es => (ofO (strsOf es)).bind fun ys => if (ys.map (·.length)).sum + ys.length * a.length ≤ 16777216 then .ok (.str (Txt.join a ys)) else .stk
  | _ => .stk
theorem seqD_ne : ∀ x z, seqD x ≠ .err z := fun x z h => by cases x <;> cases h
theorem join_ne : ∀ x y z, joinD x y ≠ .err z := fun x y z h => by
  unfold joinD at h
  split at h
  · exact bind_ne h (seqD_ne _ _) fun _ h => bind_ne h ofO_ne fun _ h => by split at h <;> cases h
  · cases h
theorem ops_join {K : Frag} : OpS K (fun x xs H Q => ∃ a p, ∃ ys : List Str, x = .str a ∧ xs = [.ref p] ∧ (SqL K H p (ys.map V.str) ∨ SqT K H p (ys.map V.str)) ∧
    (ys.map (·.length)).sum + ys.length * a.length ≤ 16777216 ∧ Q (.str (Txt.join a ys)) H) joinD := fun F H x vs ds s hx rs Q k => by
  unfold joinD at k
  split at k
  · obtain ⟨es, hd, k⟩ := seqD_sat (Res.sat_bind k)
    obtain ⟨ys, hy, k⟩ := ofO_sat (Res.sat_bind k)
    split at k
    · rename_i hz
      cases rs with
      | cons r1 rs =>
        cases rs
        obtain ⟨p, ws, rfl, h1, r2⟩ := r1.seq hd
        obtain ⟨rfl, ho⟩ := strs_vs r2 hy
        exact ⟨x, p, ys, rfl, rfl, ex_lt s h1, hz, k _ F H (Ext.refl s) (.str _ (oks_join hx ho))⟩
    · exact k.elim
  · exact k.elim
/-! f-strings -/
def fmtD : D → Res D
  | .str y => if y.length ≤ sizeLine then .ok (.str y) else .stk
  | .int i => if i.natAbs.log2 < 1920 then .ok (.str (toString i)) else .stk
  | _ => .stk
theorem de_fmt (h : DE X κ E e ma) : DE X κ E (.FormattedValue e (-1) none pos) (mUn fmtD ma) :=
  (pe_fmt h).imp fun σ H Q ⟨F0, H0, F, ρ, S, c⟩ => ⟨F0, H0, F, ρ, S, Res.sat_imp (Res.sat_bind c) (fun d _ k v F' H' x r => by
    cases r with
    | str y hy =>
      simp only [fmtD] at k
      split at k
      · rename_i z
        exact .inl ⟨_, rfl, z, k _ F' H' x (.str _ hy)⟩
      · exact k.elim
    | int i =>
      simp only [fmtD] at k
      split at k
      · rename_i z
        exact .inr ⟨_, rfl, z, k _ F' H' x (.str _ (oks_toString i))⟩
      · exact k.elim
    | _ => exact k.elim) fun _ z => z⟩
inductive DJ (X : Cx) (κ : Nat → Kd) (E : EX) : List Expr → List (Env → Res D) → Prop where
  | nil : DJ X κ E [] []
  | cons {e : Expr} {m : Env → Res D} {es : List Expr} {ms : List (Env → Res D)} (h : DE X κ E e m) (r : DJ X κ E es ms) : DJ X κ E (e :: es) (m :: ms)
def joinsD (ρ : Env) : List (Env → Res D) → Str → Res D
  | [], acc => .ok (.str acc)
  | m :: ms, acc => (m ρ).bind fun d => match d with
    | .str y => if (acc ++ y).length ≤ sizeLine then joinsD ρ ms (acc ++ y) else .stk
    | _ => .stk
def mJs (ms : List (Env → Res D)) : Env → Res D := fun ρ => joinsD ρ ms Str.empty
theorem DJ.pj {es : List Expr} {ms : List (Env → Res D)} (h : DJ X κ E es ms) : PJ X es (ms.map fun m => rdE X.mg X.K κ E m) := by
  induction h with
  | nil => exact .nil
  | cons h _ ih => exact .cons h ih
theorem js_read {mg : Mg} {K : Frag} {σ : L2.St} {Q : VK} : ∀ (ms : List (Env → Res D)) (acc : Str) (H F0 H0 F : Hp) (ρ : Env), OkS acc → Stt K κ F0 H0 F H σ ρ →
    (joinsD ρ ms acc).sat (fun d => ∀ v F' H', Ext F H F' H' → Rp K F' v d → Q v H') (ErrOk mg K (E.err σ) F H) → tJs (ms.map fun m => rdE mg K κ E m) acc σ H (fun out H1 => Q (.str out) H1)
  | [], acc, H, F0, H0, F, ρ, ho, S, c => c _ F H (Ext.refl S.sub) (.str _ ho)
  | m :: ms, acc, H, F0, H0, F, ρ, ho, S, c => ⟨F0, H0, F, ρ, S, Res.sat_imp (Res.sat_bind c) (fun d _ k v F1 H1 x r => by
      cases r with
      | str y hy =>
        simp only at k
        split at k
        · rename_i z
          exact ⟨y, rfl, z, js_read ms (acc ++ y) H1 F0 H0 F1 ρ (oks_append ho hy) (S.mono x) (Res.sat_imp k (fun d _ k v F2 H2 x2 r2 => k v F2 H2 (x.trans x2) r2) fun _ z => z.mono x)⟩
        · exact k.elim
      | _ => exact k.elim) fun _ z => z⟩
theorem de_joined {v1 v2 : Expr} {rest : List Expr} {ms : List (Env → Res D)} (h : DJ X κ E (v1 :: v2 :: rest) ms) : DE X κ E (.JoinedStr (v1 :: v2 :: rest) pos) (mJs ms) :=
  (pe_joined h.pj).imp fun σ H Q ⟨F0, H0, F, ρ, S, c⟩ => js_read ms Str.empty H F0 H0 F ρ (by decide +kernel) S c
theorem de_joined1 (h : DE X κ E e ma) : DE X κ E (.JoinedStr [e] pos) ma := pe_joined1 h
end
end WD

namespace WD
open PySem PySem.Spec PyProof.Rows L2
open Evl (Ex Ex.refl Ex.trans Ex.new Ex.mut ex_l ex_t fresh_back)
/-! ### short words for printed terms -/
def kdL (os : List Nat) : Nat → Kd := fun i => if os.contains i then .ow else .im
section
variable {X : Cx} {κ κe : Nat → Kd} {E : EX} {a b c e tg : Expr} {es : List Expr} {pos : Pos} {ma mb mc : Env → Res D} {ms : Env → Res (List D)}
theorem dv (i : Nat) {x : Str} (hk : κ i = .im := by rfl) (hN : X.N[i]? = some x := by rfl) (hv : Vis X.env.scope x := by first | exact Or.inl rfl | exact Or.inr (Or.inl rfl) | exact Or.inr (Or.inr rfl)) (hd : (x == ("__debug__" : Str)) = false := by decide) (hcd : (x == ("__classdict__" : Str)) = false := by decide) : DE X κ E (.Name x pos) (mVar i) := de_var hk hN hv hd hcd
theorem bv (i : Nat) {x : Str} (hp : (κ i).plain = true := by rfl) (hN : X.N[i]? = some x := by rfl) (hv : Vis X.env.scope x := by first | exact Or.inl rfl | exact Or.inr (Or.inl rfl) | exact Or.inr (Or.inr rfl)) (hd : (x == ("__debug__" : Str)) = false := by decide) (hcd : (x == ("__classdict__" : Str)) = false := by decide) : DB X κ E (.Name x pos) (mVar i) := db_var hp hN hv hd hcd
theorem gn (i : Nat) {x : Str} (hN : X.N.Nodup) (hk : κ i = .im := by rfl) (hi : X.N[i]? = some x := by rfl) (hx : Loc X.env.scope x := by first | exact Or.inl rfl | exact Or.inr rfl) (hf : X.fn x = true ∨ X.env.scope.names.lookup x = some .local := by first | exact .inl rfl | exact .inr rfl | assumption) : DG X κ (.Name x pos) [i] (gSet i) := dg_name hk hN hi hx hf
/-- what a call's exceptions come to, in a def's body -/
theorem pcx {P : Program} {w : World} {K : PySem.W.Frag} {mg : Str → Option Value} {base : Heap} {N : List Str} {qual : Str} {scope : Scope} {f : Addr} {cd : Value} {A : Around} {outer : List PySem.Env} {s : Shared} {H : Hp} {E : XK} :
    ∀ σ, PassesAt (L2N.CX P w) (cxOf (L2N.CX P w) P w K mg base N qual scope f cd A outer s H E) σ ((eX K E).err σ) := fun σ pins H s e s' I h => L2N.passes_call (L2N.takes_of rfl rfl rfl rfl) (fun _ _ _ _ h => h) pins σ H s e s' I h
theorem passL0 {X : Cx} : ∀ σ, PassesAt (L2N.CX X.prog X.w) X σ (EX0.err σ) := fun σ pins H s e s' I h => by obtain ⟨_, _, _, _, _, _, _, _, _, _, _, _, z⟩ := h; exact z.elim
theorem pown {CX : CXT} {P : Program} {w : World} {K : PySem.W.Frag} {mg : Str → Option Value} {base : Heap} {N : List Str} {qual : Str} {scope : Scope} {f : Addr} {cd : Value} {A : Around} {outer : List PySem.Env} {s : Shared} {H : Hp} {E : XK} :
    PassesOwn (model P w) (A.deeper (envOfC qual scope s.heap.objs.size f cd)) (envOfC qual scope s.heap.objs.size f cd) (cxOf CX P w K mg base N qual scope f cd A outer s H E).xe := PassesOwn.leaving
theorem sg_out {α : Type} {r : Res α} {f : α → Out} (h : ∀ a, (∀ ρ', f a ≠ .bk ρ') ∧ ∀ ρ', f a ≠ .ct ρ') : (∀ ρ', r.out f ≠ .bk ρ') ∧ ∀ ρ', r.out f ≠ .ct ρ' := by
  cases r with
  | ok a => exact h a
  | err x => exact ⟨fun _ h => (nomatch h), fun _ h => (nomatch h)⟩
  | stk => exact ⟨fun _ h => (nomatch h), fun _ h => (nomatch h)⟩
theorem sg_nx {ρ : WD.Env} : (∀ ρ', Out.nx ρ ≠ .bk ρ') ∧ ∀ ρ', Out.nx ρ ≠ .ct ρ' := ⟨fun _ h => (nomatch h), fun _ h => (nomatch h)⟩
theorem sg_rt {d : D} : (∀ ρ', Out.rt d ≠ .bk ρ') ∧ ∀ ρ', Out.rt d ≠ .ct ρ' := ⟨fun _ h => (nomatch h), fun _ h => (nomatch h)⟩
theorem sg_stk : (∀ ρ', Out.stk ≠ .bk ρ') ∧ ∀ ρ', Out.stk ≠ .ct ρ' := ⟨fun _ h => (nomatch h), fun _ h => (nomatch h)⟩
theorem sg_err {x : Exn} : (∀ ρ', Out.err x ≠ .bk ρ') ∧ ∀ ρ', Out.err x ≠ .ct ρ' := ⟨fun _ h => (nomatch h), fun _ h => (nomatch h)⟩
theorem sg_next : Straight mNext := fun _ => sg_nx
theorem sg_asg {i : Nat} {m : WD.Env → Res D} : Straight (mAsg i m) := fun ρ => sg_out fun _ => sg_nx
theorem sg_asgN {i : Nat} {m : WD.Env → Res (List D)} : Straight (mAsgN i m) := fun ρ => sg_out fun _ => sg_nx
theorem sg_asgG {g : D → WD.Env → Option WD.Env} {m : WD.Env → Res D} : Straight (mAsgG g m) := fun ρ => sg_out fun _ => sg_out fun _ => sg_nx
theorem sg_expr {m : WD.Env → Res D} : Straight (mExpr m) := fun ρ => sg_out fun _ => sg_nx
theorem sg_ret {m : WD.Env → Res D} : Straight (mRet m) := fun ρ => sg_out fun _ => sg_rt
theorem sg_app {i : Nat} {m : WD.Env → Res D} : Straight (mApp i m) := fun ρ => sg_out fun _ => sg_out fun _ => by split; exact sg_nx; exact sg_stk
theorem sg_ext {i : Nat} {m : WD.Env → Res D} : Straight (mExt i m) := fun ρ => sg_out fun _ => sg_out fun _ => sg_out fun _ => by split; exact sg_nx; exact sg_stk
theorem sg_if {t : WD.Env → Res Bool} {m n : WD.Env → Out} (h1 : Straight m) (h2 : Straight n) : Straight (mIfS t m n) := fun ρ => sg_out fun b => by
  by_cases h : b = true
  · simp only [if_pos h]; exact h1 ρ
  · simp only [if_neg h]; exact h2 ρ
theorem sg_seq {m n : WD.Env → Out} (h1 : Straight m) (h2 : Straight n) : Straight (mSeq m n) := fun ρ => by
  unfold mSeq
  have a := h1 ρ
  cases q : m ρ with
  | nx ρ' => exact h2 ρ'
  | bk ρ' => exact absurd q (a.1 ρ')
  | ct ρ' => exact absurd q (a.2 ρ')
  | rt d => exact sg_rt
  | err x => exact sg_err
  | stk => exact sg_stk
theorem sg_forL {g : D → WD.Env → Option WD.Env} {b : WD.Env → Out} : ∀ (ds : List D) (ρ : WD.Env), (∀ ρ', forL g b ds ρ ≠ .bk ρ') ∧ ∀ ρ', forL g b ds ρ ≠ .ct ρ'
  | [], ρ => sg_nx
  | d :: ds, ρ => by
    unfold forL
    cases g d ρ with
    | none => exact sg_stk
    | some ρ1 =>
      simp only
      cases b ρ1 with
      | nx ρ2 => exact sg_forL ds ρ2
      | ct ρ2 => exact sg_forL ds ρ2
      | bk ρ2 => exact sg_nx
      | rt d => exact sg_rt
      | err x => exact sg_err
      | stk => exact sg_stk
theorem sg_for {it : WD.Env → Res (List D)} {g : D → WD.Env → Option WD.Env} {b : WD.Env → Out} : Straight (mFor it g b) := fun ρ => sg_out fun ds => sg_forL ds ρ
theorem sg_whileL {c : WD.Env → Res Bool} {b : WD.Env → Out} : ∀ (n : Nat) (ρ : WD.Env), (∀ ρ', whileL c b n ρ ≠ .bk ρ') ∧ ∀ ρ', whileL c b n ρ ≠ .ct ρ'
  | 0, ρ => sg_stk
  | n + 1, ρ => by
    unfold whileL
    cases c ρ with
    | err x => exact sg_err
    | stk => exact sg_stk
    | ok v =>
      cases v with
      | false => exact sg_nx
      | true =>
        simp only
        cases b ρ with
        | nx ρ2 => exact sg_whileL n ρ2
        | ct ρ2 => exact sg_whileL n ρ2
        | bk ρ2 => exact sg_nx
        | rt d => exact sg_rt
        | err x => exact sg_err
        | stk => exact sg_stk
theorem sg_while {fu : WD.Env → Nat} {c : WD.Env → Res Bool} {b : WD.Env → Out} : Straight (mWhile fu c b) := fun ρ => sg_whileL _ ρ
end
end WD
namespace WD
open PySem L2
theorem no_cx {P : Program} {w : World} {H : Hp} {s : Shared} {e : Value} {s' : Shared} (h : L2N.CX P w [] H s (fun _ _ _ => False) e s') : False := by
  obtain ⟨_, _, _, _, _, _, _, _, _, _, _, _, z⟩ := h
  exact z
/-- the law's own promise -/
def spLaw (K : PySem.W.Frag) : Sp := fun vs H Q _ => ∃ (a : Addr) (ns : List Int), vs = [.ref a] ∧ SqL K H a (ns.map V.int) ∧ ns.length ≤ 63 ∧ ∀ H', Q (.bl true) H'
theorem ints_rp {K : PySem.W.Frag} {H : Hp} : ∀ ns : List Int, RpA K H (ns.map V.int) (ns.map PyData.int)
  | [] => .nil
  | n :: ns => .cons (.int n) (ints_rp ns)
theorem law_spM {K : PySem.W.Frag} {mg : Mg} {m : List D → Res D} (hm : ∀ ns : List Int, ns.length ≤ 63 → m [.list (ns.map PyData.int)] = .ok (.bool true)) {vs : List V} {H : Hp} {Q : VK} {E : XK} (h : spLaw K vs H Q E) : spM mg K 1 m vs H Q E := by
  obtain ⟨a, ns, rfl, hS, hl, q⟩ := h
  obtain ⟨F, hF⟩ : ∃ F : Hp, F = fun b => match H b with | some (.dK _) => none | u => u := ⟨_, rfl⟩
  have e1 : Evl.Ex F H := fun b u e => by
    rw [hF] at e
    dsimp only at e
    split at e
    · cases e
    · exact e
  have keep : ∀ b u, H b = some u → (∀ kvs, u ≠ .dK kvs) → F b = some u := fun b u e n => by
    rw [hF]
    dsimp only
    split
    · rename_i kvs q
      rw [q] at e; cases e
      exact absurd rfl (n kvs)
    · exact e
  have nf : NF F := fun b kvs e => by
    have q := e1 b _ e
    rw [hF] at e
    dsimp only at e
    rw [q] at e
    cases e
  have hS' : SqL K F a (ns.map V.int) := by
    rcases hS with (h | ⟨o, h⟩) | h
    · exact .inl (.inl (keep _ _ h fun _ z => nomatch z))
    · exact .inl (.inr ⟨o, keep _ _ h fun _ z => nomatch z⟩)
    · exact .inr h
  refine ⟨rfl, F, [.list (ns.map PyData.int)], e1, nf, .cons (.lst hS' (ints_rp ns)) .nil, ?_⟩
  rw [hm ns hl]
  intro v F' H' x r
  cases r
  exact q H'
end WD

/-! enumerate over a tuple, over a text -/
namespace WD
open PySem PySem.Spec PyProof.Rows L2
open Evl (Ex Ex.refl Ex.trans Ex.new Ex.mut ex_l ex_t fresh_back)
/-- pairs of a count and what g gives -/
def ItP (n : Nat) (k0 : Int) (g : Nat → Option V) (G : Hp → Prop) : It :=
  ⟨fun i H => G H ∧ i < n, fun i H v H' => ∃ T x, v = .ref T ∧ H T = none ∧ H' = upd H T (.tup [.int (k0 + (i : Nat)), x]) ∧ g i = some x, fun i H => G H ∧ i = n⟩
/-- what an inner iterator has to be -/
structure Inner (P : Program) (w : World) (K : PySem.W.Frag) (e it : Addr) (n : Nat) (k0 : Int) (g : Nat → Option V) (G : Hp → Prop) (inn : Nat → Heap → Prop) : Prop where
  ne : e ≠ it
  obj : ∀ i h, inn i h → ∃ o, h.get? it = some o ∧ ∀ v, o.data ≠ .cell v
  keep : ∀ i (h h' : Heap), inn i h → (∀ o, h.get? it = some o → h'.get? it = some o) → inn i h'
  draw : ∀ (X : Cx), X.prog = P → X.w = w → X.K = K → X.calm = true → ∀ (i : Nat) (pins : List (Addr × Obj)) (s : Shared) (σ : L2.St) (H : Hp) (c : Int) (old : Value), Inv X pins σ H s → G H → inn i s.heap → IsEnum s.heap e it c old →
    ∃ fp Pv S, Draws P w X.A.in1 it fp n Pv S ∧ S i s.heap ∧ e ∉ fp ∧ (∀ j x, Pv j x → ∃ v, g j = some v ∧ RelV v x) ∧ ∀ j h, S j h → inn j h
theorem turn_enumP {P : Program} {w : World} {K : PySem.W.Frag} {elts : List Expr} {kk : Nat} {tpos : Pos} {e it : Addr} {n : Nat} {k0 : Int} {g : Nat → Option V} {G : Hp → Prop} {inn : Nat → Heap → Prop} (N : Inner P w K e it n k0 g G inn) :
    Turn P w K (.Tuple elts kk tpos) (ItP n k0 g G) [e, it] e (fun i h => (∃ old, IsEnum h e it (k0 + (i : Nat)) old) ∧ inn i h) where
  mem := by simp
  obj := fun i h st b hb => by
    obtain ⟨⟨old, he⟩, hi⟩ := st
    have e' : b = e ∨ b = it := by simpa using hb
    rcases e' with z | z
    · rw [z]; exact ⟨_, he, fun v q => nomatch q⟩
    · rw [z]; exact N.obj i h hi
  keep := fun i h h' st k => let ⟨⟨old, he⟩, hi⟩ := st; ⟨⟨old, k e (by simp) _ he⟩, N.keep i h h' hi fun o q => k it (by simp) o q⟩
  item := by
    intro X hP hw hK hc i pins s σ H E I hf st hg
    obtain ⟨⟨old, he⟩, hit⟩ := st
    obtain ⟨hG, hi⟩ := hg
    obtain ⟨fp, Pv, S, D, hS, hef, hpv, hinn⟩ := N.draw X hP hw hK hc i pins s σ H _ old I hG hit he
    subst hP hw hK
    have hel : e < s.heap.objs.size := Heap.lt_size he
    have hil : it < s.heap.objs.size := by obtain ⟨o, q, _⟩ := N.obj i _ hit; exact Heap.lt_size q
    refine wpAny_pyNext_enum_itemC D he hS hi N.ne hef fun x h' tk hP ho hs' hT hsz hk => ?_
    obtain ⟨v, hv, rv⟩ := hpv i x hP
    refine ⟨_, rfl, wpAny_letOwnedTupleGo_enum (s := { s with heap := h', toks := tk + 1 }) ho fun h'' he' sb => ?_⟩
    have hT2 : h''.get? s.heap.objs.size = some { cls := .type "tuple", data := .seq #[.int (k0 + (i : Nat)) tk, x] } := (sb.2 _ (Nat.ne_of_gt hel)).trans hT
    have new : ObjOk X.prog X.w (upd H s.heap.objs.size (.tup [.int (k0 + (i : Nat)), v])) h'' s.heap.objs.size (.tup [.int (k0 + (i : Nat)), v]) :=
      ⟨by show 2 ≤ sizeLine; decide, [.int (k0 + (i : Nat)) tk, x], .cons ⟨_, rfl⟩ (.cons rv .nil), ⟨_, hT2, rfl, _, rfl⟩⟩
    have I1 : Inv X pins σ (upd H s.heap.objs.size (.tup [.int (k0 + (i : Nat)), v])) { s with heap := h'', toks := tk + 1 } :=
      I.turnedNew (ch := [e, it]) (fun b ob hb q => (sb.2 b (fun z => hb (by simp [z]))).trans (hk b ob (fun z => hb (by simp [z])) (fun z => hb (by simp [z])) q)) hf (Nat.le_refl _) new
    have e1 : k0 + ((i + 1 : Nat) : Int) = k0 + (i : Int) + 1 := by omega
    refine ⟨.ref s.heap.objs.size, _, I1, rfl, ⟨_, v, rfl, I.hok.fresh (Nat.le_refl _), rfl, hv⟩, ⟨⟨x, by rw [e1]; exact he'⟩, N.keep _ _ _ (hinn _ _ hs') fun o q => (sb.2 it (Ne.symm N.ne)).trans q⟩, fun b hb => ?_⟩
    have hb' : b < s.heap.objs.size := by
      have e' : b = e ∨ b = it := by simpa using hb
      rcases e' with z | z
      · rw [z]; exact hel
      · rw [z]; exact hil
    rw [upd_ne (Nat.ne_of_lt hb')]
    exact (hf b hb).1
  done := by
    intro X hP hw hK hc i pins s σ H E I hf st hg
    obtain ⟨⟨old, he⟩, hit⟩ := st
    obtain ⟨hG, rfl⟩ := hg
    obtain ⟨fp, Pv, S, D, hS, hef, hpv, hinn⟩ := N.draw X hP hw hK hc i pins s σ H _ old I hG hit he
    subst hP hw hK
    obtain ⟨f0, f1, f2, f3, f4, f5⟩ := hf it (by simp)
    exact wpAny_pyNext_enum_endD D he hS fun h' eb => ⟨rfl, I.turned (t' := s.toks) (fun b o hb q => eb b o hb q) f0 f1 f3 f4 f5⟩
  self := fun A i s Q E st h => let ⟨⟨_, he⟩, _⟩ := st; wpAny_pyIter_enum he h
theorem inner_tuple {P : Program} {w : World} {K : PySem.W.Frag} {e it a : Addr} {xs : List V} {k0 : Int} (ne : e ≠ it) : Inner P w K e it xs.length k0 (fun i => xs[i]?) (fun H => SqT K H a xs) (fun i h => h.IsTupleIter it a i) where
  ne := ne
  obj := fun i h st => by
    obtain ⟨o, ho, hc, hd⟩ := st
    exact ⟨o, ho, fun v q => by rw [hd] at q; cases q⟩
  keep := fun i h h' st k => st.at fun o q => k o q
  draw := by
    intro X hP hw hK hc i pins s σ H c old I hG hit he
    subst hP hw hK
    obtain ⟨its, rv, p, hz⟩ := I.tuple hG
    obtain ⟨o, ho, hcls, n, hd⟩ := id p
    have ne1 : a ≠ it := fun z => by
      obtain ⟨o2, ho2, hc2, hd2⟩ := hit
      rw [z] at ho
      rw [ho] at ho2; cases ho2
      rw [hc2] at hcls; simp at hcls
    have ne2 : e ≠ a := fun z => by
      rw [← z] at ho
      have := he.symm.trans ho
      cases this
      simp at hcls
    have hn : its.toArray.size = xs.length := by simpa using rv.length.symm
    have hA : X.A.in1.handled = none := I.ok.hd hc
    have D := Draws.tuple (prog := X.prog) (w := X.w) hA it a ne1 its.toArray
    rw [hn] at D
    refine ⟨_, _, _, D, ⟨hit, ⟨o, ho, hcls, n, hd⟩⟩, by simp [ne, ne2], fun j x hx => ?_, fun j h st => st.1⟩
    have hx : its[j]? = some x := by simpa using hx
    have hj : j < xs.length := by
      rw [← hn]
      have := (List.getElem?_eq_some_iff.mp hx).1
      simpa using this
    obtain ⟨u, hu, ru⟩ := rv.get (List.getElem?_eq_getElem hj)
    rw [hx] at hu; cases hu
    exact ⟨_, List.getElem?_eq_getElem hj, ru⟩
theorem inner_text {P : Program} {w : World} {K : PySem.W.Frag} {e it : Addr} {x : Str} {t : Tok} {k0 : Int} (ne : e ≠ it) : Inner P w K e it x.cps.size k0 (fun i => (x.cps[i]?).map fun c => V.str ⟨#[c]⟩) (fun _ => True) (fun i h => h.IsStrIter it (strIterType x) x t i) where
  ne := ne
  obj := fun i h st => by
    obtain ⟨o, ho, hc, hd⟩ := st
    exact ⟨o, ho, fun v q => by rw [hd] at q; cases q⟩
  keep := fun i h h' st k => let ⟨o, ho, r⟩ := st; ⟨o, k o ho, r⟩
  draw := by
    intro X hP hw hK hc i pins s σ H c old I hG hit he
    subst hP hw hK
    have hA : X.A.in1.handled = none := I.ok.hd hc
    exact ⟨_, _, _, Draws.text (prog := X.prog) (w := X.w) hA it x t, hit, by simp [ne], fun j y ⟨c, u, hc, hy⟩ => ⟨.str ⟨#[c]⟩, by rw [hc]; rfl, hy ▸ ⟨u, rfl⟩⟩, fun j h st => st⟩
/-- enumerate of what begins, one argument -/
theorem meets_enum1 {v : Value} {o : Obj} {H : Heap → Prop} (B : Begins v o H) :
    Meets (Builtin.«enumerate.__new__» ⟨[.type "enumerate", v], []⟩) (fun _ R s => H s.heap ∧
      R (.ok (.ret (.ref (s.heap.push o).objs.size))) { s with heap := (s.heap.push o).push { cls := .type "enumerate", data := .fields #[.none, .bool false, .ref s.heap.objs.size, rawInt 0, .none, .none] } }) :=
  .of_wp fun prog w A R s h => by
    obtain ⟨hp, g, d, tk, os⟩ := s
    obtain ⟨h1, h⟩ := h
    have hsub := sub_enumerate
    have q1 : ∀ {A' : Around} {E : Value → Shared → Prop} {Q : Value → Shared → Prop}, Q (.ref hp.objs.size) ⟨hp.push o, g, d, tk, os⟩ → wpAny (model prog w) A' (pyIter v) Q E ⟨hp, g, d, tk, os⟩ :=
      fun q => B.iter prog w _ _ ⟨hp, g, d, tk, os⟩ _ h1 q
    wp_walk using q1
    refine wpAny_stack_any fun st => wpAny_pure ?_
    split
    · rename_i c _ _ _ _ _
      cases (c == Value.type "enumerate") <;> (wp_walk using q1; exact ⟨_, rfl, h⟩)
    · wp_walk using q1
      exact ⟨_, rfl, h⟩
theorem call_enum1 {prog : Program} {w : World} {A : Around} {E : Value → Shared → Prop} {s : Shared} {v : Value} {o : Obj} {H : Heap → Prop} {Q : Value → Shared → Prop} (B : Begins v o H) (h1 : H s.heap)
    (h : ∀ h', IsEnum h' (s.heap.objs.size + 1) s.heap.objs.size 0 .none → h'.get? s.heap.objs.size = some o →
      (∀ b o, s.heap.get? b = some o → h'.get? b = some o) → Q (.ref (s.heap.objs.size + 1)) { s with heap := h' }) :
    wpAny (model prog w) A (call (.type "enumerate") [v]) Q E s := by
  refine callType_new F.called_enumerate (by decide) (F.typeCall_enumerate_1 _) (F.newCall_enumerate_1 _) (fun obj => F.args_object_init_2 obj _) F.entry_enumerate_new (meets_enum1 B) ⟨h1, ?_⟩
  have hz : (s.heap.push o).objs.size = s.heap.objs.size + 1 := Heap.size_push ..
  show _ ∧ _
  rw [hz]
  have he : IsEnum ((s.heap.push o).push { cls := .type "enumerate", data := .fields #[.none, .bool false, .ref s.heap.objs.size, rawInt 0, .none, .none] }) (s.heap.objs.size + 1) s.heap.objs.size 0 .none := by
    have := Heap.get?_push_size (s.heap.push o) (o := { cls := .type "enumerate", data := .fields #[.none, .bool false, .ref s.heap.objs.size, rawInt 0, .none, .none] }) rfl
    rw [hz] at this
    exact this
  exact ⟨⟨_, he, rfl⟩, h _ he (Heap.get?_push_of_some _ (Heap.get?_push_size _ B.free)) fun b o x => Heap.get?_push_of_some _ (Heap.get?_push_of_some _ x)⟩
/-- enumerate of one: a list as before, a tuple, a text -/
def iEnumX (K : PySem.W.Frag) (ta : TA) : TI := fun σ H R => ta σ H fun vs H1 => (∃ a xs, vs = [.ref a] ∧ SqL K H1 a xs ∧ R (Ite K a) H1) ∨ (∃ a xs, vs = [.ref a] ∧ SqT K H1 a xs ∧ R (ItP xs.length 0 (fun i => xs[i]?) fun H => SqT K H a xs) H1) ∨
  ∃ x, vs = [.str x] ∧ R (ItP x.cps.size 0 (fun i => (x.cps[i]?).map fun c => V.str ⟨#[c]⟩) fun _ => True) H1
theorem pi_enumX {X : Cx} {e : Expr} {ta : TA} {p pos tpos : Pos} {elts : List Expr} {kk : Nat} (hg : Gl X "enumerate") (hm : X.mg "enumerate" = none) (ha : PA X [e] ta) (hs : starEach [e] X.env = [(false, eval e X.env)] := by rfl) :
    PI X (.Tuple elts kk tpos) (.Call (.Name "enumerate" p) [e] [] pos) (iEnumX X.K ta) := by
  refine ⟨fun pins s σ H R I h => ?_⟩
  refine Call_ (ld_blt I hg hm boot_enumerate (PyProof.Rows.callWith_type1 (thn (ha.run pos pins s σ H _ I h) fun us s1 ⟨vs, H1, I1, r1, q1⟩ => ?_) hs rfl))
  have fp : ∀ {h' : Heap}, Inv X pins σ H1 { s1 with heap := h' } → ∀ b ∈ [s1.heap.objs.size + 1, s1.heap.objs.size], FpOk X pins H1 b := fun I2 b hb => by
    have e' : b = s1.heap.objs.size + 1 ∨ b = s1.heap.objs.size := by simpa using hb
    have hle : s1.heap.objs.size ≤ b := by
      rcases e' with z | z
      · rw [z]; exact Nat.le_add_right _ _
      · rw [z]; exact Nat.le_refl _
    exact I1.fpOk hle (I1.hok.fresh hle)
  rcases q1 with ⟨a, xs, ex, hq, q⟩ | ⟨a, xs, ex, hq, q⟩ | ⟨x, ex, q⟩
  · subst ex
    cases r1 with
    | cons r rr =>
      cases rr
      cases r
      obtain ⟨its, rv, p', hz⟩ := I1.list hq
      refine call_enumerate_list p'.isList fun h' he hit hsz hk => wpAny_pyIter_enum he ?_
      have I2 : Inv X pins σ H1 { s1 with heap := h' } := I1.kept (t' := s1.toks) hk
      exact ⟨s1.heap.objs.size + 1, [s1.heap.objs.size + 1, s1.heap.objs.size], _, _, H1, rfl, I2, turn_enum a (s1.heap.objs.size + 1) s1.heap.objs.size, ⟨⟨.none, he⟩, hit, Nat.succ_ne_self _⟩, fp I2, q⟩
  · subst ex
    cases r1 with
    | cons r rr =>
      cases rr
      cases r
      obtain ⟨its, rv, p', hz⟩ := I1.tuple hq
      refine call_enum1 (begins_tuple a its.toArray) p' fun h' he hit hk => wpAny_pyIter_enum he ?_
      have I2 : Inv X pins σ H1 { s1 with heap := h' } := I1.kept (t' := s1.toks) hk
      exact ⟨s1.heap.objs.size + 1, [s1.heap.objs.size + 1, s1.heap.objs.size], _, _, H1, rfl, I2, turn_enumP (inner_tuple (Nat.succ_ne_self _)), ⟨⟨.none, he⟩, ⟨_, hit, rfl, rfl⟩⟩, fp I2, q⟩
  · subst ex
    cases r1 with
    | cons r rr =>
      cases rr
      obtain ⟨t, rfl⟩ := r
      refine call_enum1 (begins_text x t) trivial fun h' he hit hk => wpAny_pyIter_enum he ?_
      have I2 : Inv X pins σ H1 { s1 with heap := h' } := I1.kept (t' := s1.toks) hk
      exact ⟨s1.heap.objs.size + 1, [s1.heap.objs.size + 1, s1.heap.objs.size], _, _, H1, rfl, I2, turn_enumP (inner_text (Nat.succ_ne_self _)), ⟨⟨.none, he⟩, ⟨_, hit, rfl, rfl⟩⟩, fp I2, q⟩
theorem walk_enumP {n : Nat} {k0 : Int} {g : Nat → Option V} {G : Hp → Prop} : Walk (ItP n k0 g G) n G (YPair (fun i => some (.int (k0 + (i : Nat)))) g) := by
  refine ⟨fun i _ hi q => ⟨q, hi⟩, fun _ q => ⟨q, rfl⟩, fun i H v H' _ q y => ?_⟩
  obtain ⟨T, x, h1, h2, h3, h4⟩ := y
  exact ⟨T, .int (k0 + (i : Nat)), x, h1, h2, h3, rfl, h4⟩
end WD

namespace WD
open PySem PySem.Spec PyProof.Rows L2
open Evl (Ex Ex.refl Ex.trans Ex.new Ex.mut ex_l ex_t fresh_back)
def enumXD : List D → Res (List D)
  | [.list ds] => .ok (enumD ds)
  | [.tuple ds] => .ok (enumD ds)
  | [.str x] => .ok (enumD (signsD x))
  | _ => .stk
theorem enumD_len (ds : List D) : (enumD ds).length = ds.length := by simp [enumD]
theorem enumD_get {ds : List D} {i : Nat} {d : D} (h : ds[i]? = some d) : (enumD ds)[i]? = some (.tuple [.int (i : Int), d]) := by
  unfold enumD
  rw [List.getElem?_map, List.getElem?_zipIdx, h]
  simp
section
variable {X : Cx} {κ κe : Nat → Kd} {E : EX} {a b c e tg o : Expr} {es : List Expr} {pos : Pos} {st : Stmt} {ma mb mc : Env → Res D} {ms : Env → Res (List D)}
theorem di_enumX {p tpos : Pos} {elts : List Expr} {kk : Nat} (hg : Gl X "enumerate") (hm : X.mg "enumerate" = none) (ha : DA X κ E [a] ms) (hs : starEach [a] X.env = [(false, eval a X.env)] := by rfl) : DI X κ E (.Tuple elts kk tpos) (.Call (.Name "enumerate" p) [a] [] pos) (mBindA enumXD ms) :=
  (pi_enumX hg hm ha hs).imp fun σ H R ⟨F0, H0, F, ρ, S, c⟩ => ⟨F0, H0, F, ρ, S, Res.sat_imp (Res.sat_bind c) (fun ds _ k vs F' H' x r => by
    unfold enumXD at k
    split at k
    · rename_i ds
      cases r with
      | cons r1 r2 =>
        cases r2
        cases r1 with
        | @lst a vs _ h1 h2 =>
          refine .inl ⟨a, vs, rfl, ex_l x.s h1, k _ F' H' x (walkd_pair walk_enum (by rw [enumD_len, h2.length]) (fun F2 H2 p s => ex_l (p.trans s) h1) fun i F2 H2 x y p hi e1 e2 => ?_)⟩
          cases e1
          obtain ⟨d, hd, rd⟩ := h2.getV e2
          exact ⟨.int (i : Int), d, enumD_get hd, .int _, rd.mono p⟩
    · rename_i ds
      cases r with
      | cons r1 r2 =>
        cases r2
        cases r1 with
        | @tup a vs _ h1 h2 =>
          refine .inr (.inl ⟨a, vs, rfl, ex_t x.s h1, k _ F' H' x (walkd_pair walk_enumP (by rw [enumD_len, h2.length]) (fun F2 H2 p s => ex_t (p.trans s) h1) fun i F2 H2 x y p hi e1 e2 => ?_)⟩)
          cases e1
          obtain ⟨d, hd, rd⟩ := h2.getV e2
          refine ⟨.int (i : Int), d, enumD_get hd, ?_, rd.mono p⟩
          rw [Int.zero_add]
          exact .int _
    · rename_i x0 _
      cases r with
      | cons r1 r2 =>
        cases r2
        cases r1 with
        | str _ hx =>
          refine .inr (.inr ⟨x0, rfl, k _ F' H' x (walkd_pair walk_enumP (by rw [enumD_len]; simp [signsD]) (fun F2 H2 p s => trivial) fun i F2 H2 x y p hi e1 e2 => ?_)⟩)
          cases e1
          obtain ⟨c, hc, rfl⟩ := Option.map_eq_some_iff.mp e2
          refine ⟨.int (i : Int), .str ⟨#[c]⟩, enumD_get (by simp [signsD, hc]), ?_, .str _ ?_⟩
          · rw [Int.zero_add]
            exact .int _
          · have hx : (x0.cps.all fun c => decide (c < 0x110000)) = true := hx
            rw [Array.all_eq_true] at hx
            obtain ⟨hi, hc⟩ := Array.getElem?_eq_some_iff.mp hc
            have := hx i hi
            rw [hc] at this
            show ((#[c] : Array Nat).all fun c => decide (c < 0x110000)) = true
            simpa using this
    · exact k.elim) fun _ z => z⟩

/-! ### split -/
theorem joinL_has {S : List Nat} : ∀ {ps : List (List Nat)} {p : List Nat} {c : Nat}, p ∈ ps → c ∈ p → c ∈ TL.joinL S ps
  | [], _, _, h, _ => by simp at h
  | [q], p, c, h, hc => by
    rw [List.mem_singleton.mp h] at hc
    simpa [TL.joinL] using hc
  | q :: r :: ps, p, c, h, hc => by
    have e : TL.joinL S (q :: r :: ps) = q ++ (S ++ TL.joinL S (r :: ps)) := by simp [TL.joinL]
    rw [e]
    rcases List.mem_cons.mp h with rfl | h
    · exact List.mem_append_left _ hc
    · exact List.mem_append_right _ (List.mem_append_right _ (joinL_has h hc))
theorem oks_split {x y p : Str} (hx : OkS x) (hp : p ∈ Txt.split x y) : OkS p := by
  have hj : Txt.join y (Txt.split x y) = x := by rw [TL.join_eq]; exact PySem.StrLaws.join_split x y
  have hx' : ∀ c ∈ TL.tl x, c < 0x110000 := fun c hc => by
    have hx : (x.cps.all fun c => decide (c < 0x110000)) = true := hx
    rw [← Array.all_toList, List.all_eq_true] at hx
    simpa using hx c hc
  have hall : ∀ c ∈ TL.tl p, c < 0x110000 := fun c hc => hx' c (by
    rw [← hj, TL.join_eq, TL.tl_join]
    exact joinL_has (List.mem_map.mpr ⟨p, hp, rfl⟩) hc)
  show (p.cps.all fun c => decide (c < 0x110000)) = true
  rw [← Array.all_toList, List.all_eq_true]
  intro c hc
  simpa using hall c hc
theorem strs_rp {K : Frag} {F : Hp} : ∀ {ys : List Str}, (∀ y ∈ ys, OkS y) → RpA K F (ys.map V.str) (ys.map PyData.str)
  | [], _ => .nil
  | y :: ys, h => .cons (.str y (h y (by simp))) (strs_rp fun z hz => h z (by simp [hz]))
def splitD (x y : Str) : Res D := if (y.length == 0) = false ∧ x.length + 2 ≤ sizeLine then .ok (.list ((Txt.split x y).map PyData.str)) else .stk
theorem ops_split {K : Frag} : OpS K (fun x xs H Q => ∃ a b, x = .str a ∧ xs = [.str b] ∧ (b.length == 0) = false ∧ a.length + 2 ≤ sizeLine ∧ rNewStrs (Txt.split a b) H Q) (s1D splitD) := ops_1 fun F H x y s hx hy Q k => by
  unfold splitD at k
  split at k
  · rename_i h
    exact ⟨x, y, rfl, rfl, h.1, h.2, post_new s (strs_rp fun p hp => oks_split hx hp) k⟩
  · exact k.elim
theorem split_ne : ∀ x y z, s1D splitD x y ≠ .err z := s1_ne fun _ _ _ h => by unfold splitD at h; split at h <;> cases h

/-! ### stuck: what must not happen -/
theorem sg_raise : Straight mStk := fun _ => sg_stk

/-! ### arguments that are lent -/
def kdB (os bs : List Nat) : Nat → Kd := fun i => if os.contains i then .ow else if bs.contains i then .bw else .im
inductive ArgR (K : Frag) (F H : Hp) : List Kd → List V → List D → Prop
  | nil : ArgR K F H [] [] []
  | im {v : V} {d : D} {ks : List Kd} {vs : List V} {ds : List D} : Rp K F v d → ArgR K F H ks vs ds → ArgR K F H (.im :: ks) (v :: vs) (d :: ds)
  | bw {v : V} {d : D} {ks : List Kd} {vs : List V} {ds : List D} : Rb K F H v d → ArgR K F H ks vs ds → ArgR K F H (.bw :: ks) (v :: vs) (d :: ds)
theorem ArgR.length {K : Frag} {F H : Hp} {ks : List Kd} {vs : List V} {ds : List D} (r : ArgR K F H ks vs ds) : vs.length = ks.length ∧ ds.length = ks.length := by
  induction r with
  | nil => exact ⟨rfl, rfl⟩
  | im _ _ ih => simp [ih.1, ih.2]
  | bw _ _ ih => simp [ih.1, ih.2]
theorem ArgR.get {K : Frag} {F H : Hp} {ks : List Kd} {vs : List V} {ds : List D} (r : ArgR K F H ks vs ds) : ∀ {i : Nat} {d : D}, ds[i]? = some d → ∃ v k, vs[i]? = some v ∧ ks[i]? = some k ∧ ((k = .im ∧ Rp K F v d) ∨ (k = .bw ∧ Rb K F H v d)) := by
  induction r with
  | nil => intro i d h; simp at h
  | im h _ ih =>
    intro i d hd
    cases i with
    | zero => simp at hd; subst hd; exact ⟨_, _, rfl, rfl, .inl ⟨rfl, h⟩⟩
    | succ i => simpa using ih (by simpa using hd)
  | bw h _ ih =>
    intro i d hd
    cases i with
    | zero => simp at hd; subst hd; exact ⟨_, _, rfl, rfl, .inr ⟨rfl, h⟩⟩
    | succ i => simpa using ih (by simpa using hd)
def spMb (mg : Mg) (K : Frag) (ks : List Kd) (m : List D → Res D) : Sp := fun vs H Q E => vs.length = ks.length ∧ ∃ F ds, Ex F H ∧ NF F ∧ ArgR K F H ks vs ds ∧ (m ds).sat (fun d => ∀ v F' H', Ext F H F' H' → Rp K F' v d → Q v H') (ErrOk mg K E F H)
structure FnB (P : Program) (w : World) (K : Frag) (mg : Mg) (base : Heap) (k : Nat) (x : Str) (ps : List Str) (ks : List Kd) (m : List D → Res D) : Prop where
  ex : ∃ f fd, mg x = some (.ref f) ∧ PySem.W.keepIn K (.ref f) = true ∧ Binds K fd ps [] ∧ FnOk P w K mg base (L2N.CX P w) k f fd ps (spMb mg K ks m)
def rdAB (mg : Mg) (K : Frag) (κ : Nat → Kd) (E : EX) (ks : List Kd) (m : Env → Res (List D)) : TA := fun σ H Q => ∃ F0 H0 F ρ, Stt K κ F0 H0 F H σ ρ ∧ (m ρ).sat (fun ds => ∀ vs F' H', Ext F H F' H' → ArgR K F' H' ks vs ds → Q vs H') (ErrOk mg K (E.err σ) F H)
def DAB (X : Cx) (κ : Nat → Kd) (E : EX) (es : List Expr) (ks : List Kd) (m : Env → Res (List D)) : Prop := PA X es (rdAB X.mg X.K κ E ks m)
theorem dab_nil : DAB X κ E [] [] mNil := pa_nil.imp fun σ H Q ⟨F0, H0, F, ρ, S, c⟩ => c [] F H (Ext.refl S.sub) .nil
theorem dab_im {ks : List Kd} {m : Env → Res D} {ms : Env → Res (List D)} (h : DE X κ E e m) (hs : DAB X κ E es ks ms) (hst : starEach (e :: es) X.env = (false, eval e X.env) :: starEach es X.env := by rfl) : DAB X κ E (e :: es) (.im :: ks) (mCons m ms) :=
  (pa_cons h hs hst).imp fun σ H Q ⟨F0, H0, F, ρ, S, c⟩ => ⟨F0, H0, F, ρ, S, Res.sat_imp (Res.sat_bind c) (fun d _ k v F' H' e r =>
    ⟨F0, H0, F', ρ, S.mono e, Res.sat_imp (Res.sat_bind k) (fun ds _ k vs F2 H2 e2 rs => k (v :: vs) F2 H2 (e.trans e2) (.im (r.mono e2.f) rs)) fun x z => z.mono e⟩) fun _ z => z⟩
theorem dab_bw {ks : List Kd} {m : Env → Res D} {ms : Env → Res (List D)} (h : DB X κ E e m) (hs : DAB X κ E es ks ms) (hst : starEach (e :: es) X.env = (false, eval e X.env) :: starEach es X.env := by rfl) : DAB X κ E (e :: es) (.bw :: ks) (mCons m ms) :=
  (pa_cons h hs hst).imp fun σ H Q ⟨F0, H0, F, ρ, S, c⟩ => ⟨F0, H0, F, ρ, S, Res.sat_imp (Res.sat_bind c) (fun d _ k v F' H' e r =>
    ⟨F0, H0, F', ρ, S.mono e, Res.sat_imp (Res.sat_bind k) (fun ds _ k vs F2 H2 e2 rs => k (v :: vs) F2 H2 (e.trans e2) (.bw (r.mono e2) rs)) fun x z => z.mono e⟩) fun _ z => z⟩
theorem de_callL {k : Nat} {x : Str} {p : Pos} {ps : List Str} {ks : List Kd} {m : List D → Res D} {ma : Env → Res (List D)} (G : FnB X.prog X.w X.K X.mg X.base k x ps ks m) (hr : Room k X.A) (hx : ∀ σ, PassesAt (L2N.CX X.prog X.w) X σ (E.err σ)) (hg : Gl X x) (ha : DAB X κ E (e :: es) ks ma)
    (hdb : (x == ("__debug__" : Str)) = false := by decide) (he : starEach (e :: es) X.env = (false, eval e X.env) :: starEach es X.env := by rfl) (hpl : (backTo pos (starEach es X.env)).any (·.1) = false := by rfl) :
    DE X κ E (.Call (.Name x p) (e :: es) [] pos) (mCall m ma) := by
  obtain ⟨f, fd, hm, hk, hb, hF⟩ := G.ex
  refine (pe_callS hF hr hg hm hk hb hx ha hdb he hpl).imp fun σ H Q ⟨F0, H0, F, ρ, S, c⟩ => ⟨F0, H0, F, ρ, S, Res.sat_imp (Res.sat_bind c) (fun ds q k vs F' H' x r => ?_) fun _ z => z⟩
  refine ⟨r.length.1, F', ds, x.s, x.n S.nf, r, Res.sat_imp k (fun d _ k v F2 H2 x2 r2 => k v F2 H2 (x.trans x2) r2) fun _ z => z.mono x⟩
theorem fn_startB {K : Frag} {F H : Hp} {vs : List V} {ds : List D} {N : List Str} {ks : List Kd} (s : Ex F H) (nf : NF F) (r : ArgR K F H ks vs ds) (hk : ∀ i, i < ks.length → ks[i]? = some (κ i)) :
    Stt K κ F H F H (L2.start N vs) (ds.map some ++ List.replicate (N.length - ds.length) none) := by
  have el := r.length
  have known : ∀ i d, (ds.map some ++ List.replicate (N.length - ds.length) none)[i]? = some (some d) → ds[i]? = some d ∧ i < ks.length := fun i d h => by
    by_cases hi : i < ds.length
    · rw [List.getElem?_append_left (by simpa using hi), List.getElem?_map, List.getElem?_eq_getElem hi] at h
      have : ds[i] = d := by simpa using h
      rw [List.getElem?_eq_getElem hi, this]
      exact ⟨rfl, by omega⟩
    · rw [List.getElem?_append_right (by simpa using hi), List.getElem?_replicate] at h
      split at h <;> cases h
  refine ⟨Ex.refl F, Ex.refl H, fun _ h _ => h, s, nf, ?_, fun i d h => ?_, fun i j a di dj u w hn hi hj _ _ ki _ => ?_⟩
  · unfold L2.start
    simp [el.1, el.2]
  · obtain ⟨h1, h2⟩ := known i d h
    obtain ⟨v, k, g1, g2, g3⟩ := r.get h1
    have hki := (hk i h2).symm.trans g2
    have hki : κ i = k := by simpa using hki
    refine ⟨v, ?_, ?_⟩
    · unfold L2.start
      have hi : i < vs.length := by omega
      rw [List.getElem?_append_left (by simpa using hi), List.getElem?_map, g1]
      rfl
    · rw [hki]
      rcases g3 with ⟨rfl, g⟩ | ⟨rfl, g⟩
      · exact g
      · rcases g with g | ⟨a, rfl, g⟩
        · exact .inl g
        · refine .inr ⟨a, rfl, ?_, g⟩
          rcases g with ⟨vs, ds, _, g, _⟩ | ⟨vs, ds, _, g, _⟩ <;> rw [g] <;> exact fun q => nomatch q
  · obtain ⟨h1, h2⟩ := known i di hi
    obtain ⟨v, k, g1, g2, g3⟩ := r.get h1
    have hki := (hk i h2).symm.trans g2
    have hki : κ i = k := by simpa using hki
    rw [hki] at ki
    rcases g3 with ⟨rfl, _⟩ | ⟨rfl, _⟩ <;> exact ki
theorem fn_okB {P : Program} {w : World} {K : Frag} {mg : Mg} {base : Heap} {x qual : Str} {st : Stmt} {f : Addr} {fd : FuncData} {N ps : List Str} {ks : List Kd} {k n : Nat} {body : Env → Out} (F : Fun K x qual st f fd) (S : FnScope N ps (defScope st)) (hn : N.length = n)
    (hps : ks.length = ps.length) (hk : ∀ i, i < ks.length → ks[i]? = some (κ i))
    (hbody : ∀ (cdv : Value) (A : Around) (outer : List PySem.Env) (s : Shared) (H : Hp) (E : XK), Room k (A.deeper (envOfC qual (defScope st) s.heap.objs.size f cdv)) →
      DSs2 (cxOf (L2N.CX P w) P w K mg base N qual (defScope st) f cdv A outer s H E) κ κe (eX K E) (defBody st) body) : FnOk P w K mg base (L2N.CX P w) (k + 1) f fd ps (spMb mg K ks (mkFn n body)) := by
  subst hn
  refine F.okQ S (fun vs H Q E h => h.1.trans hps) fun cdv A outer s H vs Q E hr h => ⟨_, hbody cdv A outer s H E hr, ?_⟩
  obtain ⟨hl, F, ds, e, nf, r, c⟩ := h
  refine ⟨F, H, F, _, fn_startB e nf r hk, ?_⟩
  unfold mkFn at c
  generalize ho : body (ds.map some ++ List.replicate (N.length - ds.length) none) = o at c ⊢
  cases o with
  | nx ρ => exact fun σ' F' H' _ S' => c .non F' H' S'.ext .non
  | bk ρ => exact c.elim
  | ct ρ => exact c.elim
  | rt d => exact c
  | err x => exact fun _ => c
  | stk => exact c
/-- a promise of nothing: where a recursion's mirror has no turns left -/
theorem fn_stuck {P : Program} {w : World} {K : Frag} {mg : Mg} {base : Heap} {f : Addr} {fd : FuncData} {ps : List Str} (k : Nat) : FnOk P w K mg base (L2N.CX P w) k f fd ps (spM mg K ps.length (fun _ => .stk)) :=
  ⟨fun vs H Q E h => h.1, fun A outer s H args us vs Q E _ _ _ _ h => by
    obtain ⟨_, F, ds, _, _, _, c⟩ := h
    exact c.elim⟩
end
end WD

/-! exceptions: made, raised, caught, read -/
namespace WD
open PySem PySem.Spec PyProof.Rows L2
open Evl (Ex Ex.refl Ex.trans Ex.new Ex.mut ex_l ex_t fresh_back)

/-! ### __init__ of an own class: its fields are stored one by one -/
def iniSt (a C : Addr) (H1 H : Hp) (acc : List (Str × V)) : Prop :=
  (acc = [] ∧ H = H1) ∨ ∃ d, H1 d = none ∧ d ≠ a ∧ H a = some (exo a C (some d)) ∧ H d = some (exd d acc) ∧ ∀ b, b ≠ a → b ≠ d → H b = H1 b
def iniT (K : Frag) (fs : List Str) (i : Nat) : TS := fun D σ H => ∃ (a C : Addr) (acc : List (Str × V)) (xs : List V) (H1 : Hp), σ[0]? = some (some (.ref a)) ∧ OexC K C ∧ (∀ f ∈ fs, PySem.W.findIn K (.ref C) f = some none) ∧ H1 a = some (exo a C none) ∧
  xs.length = fs.length ∧ (∀ j x, xs[j]? = some x → σ[i + j]? = some (some x)) ∧ acc.length + fs.length ≤ 900 ∧ (acc = [] → fs ≠ []) ∧ iniSt a C H1 H acc ∧
  ∀ d H', H1 d = none → d ≠ a → H' a = some (exo a C (some d)) → H' d = some (exd d ((fs.zip xs).reverse ++ acc)) → (∀ b, b ≠ a → b ≠ d → H' b = H1 b) → D.nx σ H'
section
variable {X : Cx}
theorem ini_nil {i : Nat} : PSs X [] (iniT X.K [] i) := pss_nil.imp fun D σ H ⟨a, C, acc, xs, H1, h0, T, hf, h1, hx, hs, hl, hne, hi, k⟩ => by
  rcases hi with ⟨rfl, rfl⟩ | ⟨d, h2, h3, h4, h5, h6⟩
  · exact absurd rfl (hne rfl)
  · have : xs = [] := List.eq_nil_of_length_eq_zero hx
    subst this
    exact k d H h2 h3 h4 h5 h6
theorem ini_cons {f : Str} {fs : List Str} {i : Nat} {rest : List Stmt} {p1 p2 p3 p4 : Pos} (hr : PSs X rest (iniT X.K fs (i + 1))) (h0 : PE X (.Name "self" p1) (tVar 0) := by exact pv 0) (hi : PE X (.Name f p3) (tVar i) := by exact pv _)
    (hs : swapsWith (.Name f p3) (some (.Attribute (.Name "self" p1) f p2)) p4.line X.env = pure false := by rfl) : PSs X (.Assign [.Attribute (.Name "self" p1) f p2] (.Name f p3) p4 :: rest) (iniT X.K (f :: fs) i) :=
  (pss_cons (ps_ost h0 hi hs) hr).imp fun D σ H ⟨a, C, acc, xs, H1, hs0, T, hf, h1, hx, hs, hl, hne, hi, k⟩ => by
    cases xs with
    | nil => cases hx
    | cons x xs =>
      refine ⟨x, by simpa using hs 0 x rfl, .ref a, hs0, a, C, rfl, T, hf f List.mem_cons_self, ?_⟩
      have hx' : xs.length = fs.length := by simpa using hx
      have hs' : ∀ j y, xs[j]? = some y → σ[i + 1 + j]? = some (some y) := fun j y h => by
        have := hs (j + 1) y (by simpa using h)
        rw [show i + 1 + j = i + (j + 1) by omega]
        exact this
      have hl' : acc.length + 1 + fs.length ≤ 900 := by rw [List.length_cons] at hl; omega
      have hz : ((f :: fs).zip (x :: xs)).reverse ++ acc = (fs.zip xs).reverse ++ ((f, x) :: acc) := by simp
      rw [hz] at k
      rcases hi with ⟨rfl, rfl⟩ | ⟨d, h2, h3, h4, h5, h6⟩
      · refine .inl ⟨h1, fun dx hd hda => ?_⟩
        refine ⟨a, C, [(f, x)], xs, H, hs0, T, fun g hg => hf g (List.mem_cons_of_mem _ hg), h1, hx', hs', hl', (fun z => nomatch z), .inr ⟨dx, hd, hda, upd_same, by rw [upd_ne hda]; exact upd_same, fun b hb hbd => by rw [upd_ne hb, upd_ne hbd]⟩, k⟩
      · refine .inr ⟨d, acc, h4, h5, by omega, ?_⟩
        refine ⟨a, C, (f, x) :: acc, xs, H1, hs0, T, fun g hg => hf g (List.mem_cons_of_mem _ hg), h1, hx', hs', hl', (fun z => nomatch z), .inr ⟨d, h2, h3, by rw [upd_ne (Ne.symm h3)]; exact h4, upd_same, fun b hb hbd => by rw [upd_ne hbd]; exact h6 b hb hbd⟩, k⟩
end
/-- what __init__ promises -/
def spI (K : Frag) (fs : List Str) : Sp := fun vs H Q _ => ∃ (a C : Addr) (xs : List V), vs = .ref a :: xs ∧ xs.length = fs.length ∧ OexC K C ∧ (∀ f ∈ fs, PySem.W.findIn K (.ref C) f = some none) ∧ H a = some (exo a C none) ∧
  ∀ d H', H d = none → d ≠ a → H' a = some (exo a C (some d)) → H' d = some (exd d (fs.zip xs).reverse) → (∀ b, b ≠ a → b ≠ d → H' b = H b) → Q .non H'
theorem ini_ok {P : Program} {w : World} {K : Frag} {mg : Mg} {base : Heap} {qual : Str} {st : Stmt} {f : Addr} {fd : FuncData} {fs : List Str} (F : Fun K "__init__" qual st f fd) (S : FnScope ("self" :: fs) ("self" :: fs) (defScope st)) (hne : fs ≠ []) (hl : fs.length ≤ 900)
    (hbody : ∀ (cdv : Value) (A : Around) (outer : List PySem.Env) (s : Shared) (H : Hp) (E : XK), PSs (cxOf (L2N.CX P w) P w K mg base ("self" :: fs) qual (defScope st) f cdv A outer s H E) (defBody st) (iniT K fs 1)) :
    FnOk P w K mg base (L2N.CX P w) 1 f fd ("self" :: fs) (spI K fs) :=
  F.okQ S (fun vs H Q E ⟨a, C, xs, e, hx, _⟩ => by rw [e]; simp [hx]) fun cdv A outer s H vs Q E hr ⟨a, C, xs, e, hx, T, hf, h1, k⟩ => by
    subst e
    refine ⟨_, hbody cdv A outer s H E, a, C, [], xs, H, rfl, T, hf, h1, hx, fun j x hj => ?_, by simpa using hl, fun _ => hne, .inl ⟨rfl, rfl⟩, fun d H' a1 a2 a3 a4 a5 => k d H' a1 a2 a3 (by simpa using a4) a5⟩
    have hjl : j < xs.length := by
      rcases Nat.lt_or_ge j xs.length with q | q
      · exact q
      · rw [List.getElem?_eq_none q] at hj; cases hj
    show (L2.start ("self" :: fs) (.ref a :: xs))[1 + j]? = _
    unfold L2.start
    rw [List.getElem?_append_left (by simp; omega), List.getElem?_map, show 1 + j = j + 1 by omega, List.getElem?_cons_succ, hj]
    rfl

/-! ### raise C(e, ..) -/
section
variable {X : Cx} {e : Expr} {es : List Expr} {ta : TA} {p pos : Pos}
/-- C(e, ..), made where nothing is handled: its context is None -/
theorem pmkN_oex {CX : CXT} {x : Str} {C fI : Addr} {k : Nat} {fd : FuncData} {ps : List Str} {sp : Sp} (T : OexC X.K C) (iC : PySem.W.findIn X.K (.ref C) "__init__" = some (some (.ref fI))) (tI : PySem.W.typeIn X.K (.ref fI) = some (.type "function"))
    (F1 : FnOk X.prog X.w X.K X.mg X.base CX k fI fd ps sp) (hr : Room (k + 1) X.A) (hb : Binds X.K fd ps []) (hx : Passes CX X (fun _ _ _ => False)) (hg : Gl X x) (hm : X.mg x = some (.ref C)) (ha : PA X (e :: es) ta)
    (hdb : (x == ("__debug__" : Str)) = false := by decide) (he : starEach (e :: es) X.env = (false, eval e X.env) :: starEach es X.env := by rfl) (hpl : (backTo pos (starEach es X.env)).any (·.1) = false := by rfl) :
    L2N.PMk X (.Call (.Name x p) (e :: es) [] pos) (tMkO C sp [] ta) := fun pins s σ H Q I h => by
  obtain ⟨nC, qC, NC, bC, mroC, e1, e2, e3, e4, e5, f0, f1, f2, f3, f5, look, mro⟩ := T.cls
  refine wpAny_Call_Name_kw (ld_glob I hg hm (PySem.W.callWith_K (h₀ := X.base) I.ok.mod.kin T.kC (thn (ha.run pos pins s σ H _ I h) fun ws sA ⟨zs, HA, IA, rA, small, next⟩ => ⟨IA.kIn, ?_⟩) he hpl) hdb)
  show wpAny _ _ (call (.ref C) ws) _ _ _
  obtain ⟨hA, gA, dA, kA, oA⟩ := sA
  have le1 : hA.objs.size ≤ hA.objs.size + 1 := Nat.le_succ _
  have goal1 := next (hA.objs.size + 1) (IA.hok.fresh le1)
  have stay : ∀ b o, hA.get? b = some o → ((hA.push (PySem.W.kdv_tup ws)).push (PySem.HandSPX.excO C hA.objs.size)).get? b = some o := fun b o z => Heap.get?_push_of_some _ (Heap.get?_push_of_some _ z)
  have J2 := IA.laid (t' := kA) (a := hA.objs.size + 1) (o := exo (hA.objs.size + 1) C none) (h' := (hA.push (PySem.W.kdv_tup ws)).push (PySem.HandSPX.excO C hA.objs.size)) stay le1 (exo_ok (by heap_get))
  have few : ws.length ≤ sizeLine := by have := rA.length; rw [sizeLine_eq]; omega
  rw [List.append_nil] at goal1
  have rl : Vals (V.ref (hA.objs.size + 1) :: zs) (Value.ref (hA.objs.size + 1) :: ws) := .cons rfl rA
  have len1 : (Value.ref (hA.objs.size + 1) :: ws ++ []).length = ps.length := by rw [List.append_nil]; exact rl.length.symm.trans (F1.len _ _ _ _ goal1)
  have bind1 := hb _ (Value.ref (hA.objs.size + 1) :: ws) J2.kIn len1
  rw [List.append_nil] at bind1
  have run1 := F1.run _ X.stack _ _ ⟨Value.ref (hA.objs.size + 1) :: ws, []⟩ (Value.ref (hA.objs.size + 1) :: ws) _ _ (fun _ _ _ => False) (hr.make C ws []) (J2.env0.make C ws []) bind1 rl goal1
  refine wpAny_call (PySem.HandSPX.call_own F.excBase_ValueError (fun Y => PySem.HandSPX.refsVE_contains Y mroC mro) (IA.kIn _ _ look) (PySem.W.looks_findIn IA.kIn iC) (fun self => PySem.W.bind_fn IA.kIn self tI) few (codeAny_mono run1 fun r sB hB => ?_))
  match r, hB with
  | .error er, hB => exact hx pins σ _ _ er sB J2 hB
  | .ok .next, hB => exact hB.elim
  | .ok .brk, hB => exact hB.elim
  | .ok .cont, hB => exact hB.elim
  | .ok (.ret u), ⟨v, HB, oB, bareB, unB, hokB, rv, ev, dd, flds, atA, atD, free, fin⟩ =>
    subst ev
    obtain ⟨hB, gB, dB, kB, oB'⟩ := sB
    obtain ⟨tA, G, J, keepG, noG, atE, naE⟩ := mk_end0 (d2 := dB) (t2 := kB) IA le1 stay unB hokB oB bareB atA atD free
    exact ⟨rv, hA.objs.size + 1, _, _, ⟨G, gB, dB, kB, oB'⟩, _, .ref C, some dd, rfl, J, keepG, noG, atE, ⟨rfl, rfl, fun ys hy => by cases hy; rfl⟩, rfl, rfl, naE, rfl, bareB, raises_own T.exC T.tyC, fin⟩
end

/-- a class of the program: with fields of its own __init__ | without one -/
structure XCls (P : Program) (w : World) (K : Frag) (mg : Mg) (base : Heap) (x : Str) (fs : List Str) : Prop where
  ex : ∃ C fI fd, mg x = some (.ref C) ∧ OexC K C ∧ (∀ f ∈ fs, PySem.W.findIn K (.ref C) f = some none) ∧ PySem.W.findIn K (.ref C) "__init__" = some (some (.ref fI)) ∧ PySem.W.typeIn K (.ref fI) = some (.type "function") ∧ Binds K fd ("self" :: fs) [] ∧ FnOk P w K mg base (L2N.CX P w) 1 fI fd ("self" :: fs) (spI K fs)
structure XCls0 (K : Frag) (mg : Mg) (x : Str) : Prop where
  ex : ∃ C, mg x = some (.ref C) ∧ PySem.W.excIn K C [.type "ValueError", .type "Exception", .type "BaseException", .type "object"] "ValueError.__new__" = true ∧ PySem.W.keepIn K (.ref C) = true ∧ PySem.W.subIn K (.ref C) (.type "BaseException") = some true ∧ PySem.W.typeIn K (.ref C) = some (.type "type")
def mRaise (x : Str) (fs : List Str) (ma : Env → Res (List D)) : Env → Out := fun ρ => (ma ρ).out fun ds => if ds.length = fs.length then .err ⟨x, (fs.zip ds).reverse⟩ else .stk
theorem look_put {β : Type} (f g : Str) (y : β) (fs : List (Str × β)) : ((f, y) :: fs).lookup g = if g = f then some y else fs.lookup g := by
  by_cases h : g = f
  · subst h; simp [List.lookup]
  · have e : (g == f) = false := by simpa using h
    rw [if_neg h]; simp [List.lookup, e]
theorem zip_look {K : Frag} {F : Hp} : ∀ {fs : List Str} {vs : List V} {ds : List D} {acc : List (Str × V)} {acd : List (Str × D)}, RpA K F vs ds → (∀ f d, acd.lookup f = some d → ∃ v, acc.lookup f = some v ∧ Rp K F v d) → ∀ f d, ((fs.zip ds).reverse ++ acd).lookup f = some d → ∃ v, ((fs.zip vs).reverse ++ acc).lookup f = some v ∧ Rp K F v d
  | [], vs, ds, acc, acd, _, h, f, d, e => by simpa using h f d (by simpa using e)
  | g :: fs, _, _, acc, acd, .nil, h, f, d, e => by simpa using h f d (by simpa using e)
  | g :: fs, _, _, acc, acd, .cons (v := v) (vs := vs) (d := d0) (ds := ds) r rs, h, f, d, e => by
    have := zip_look (fs := fs) (acc := (g, v) :: acc) (acd := (g, d0) :: acd) rs (fun f d e => by
      rw [look_put] at e ⊢
      by_cases z : f = g
      · rw [if_pos z] at e ⊢
        cases e
        exact ⟨v, rfl, r⟩
      · rw [if_neg z] at e ⊢
        exact h f d e) f d (by simpa using e)
    simpa using this
theorem passQ {X : Cx} : Passes (L2N.CX X.prog X.w) X (fun _ _ _ => False) := fun _ _ _ _ _ _ _ h => by obtain ⟨_, _, _, _, _, _, _, _, _, _, _, _, z⟩ := h; exact z.elim
section
variable {X : Cx} {κ : Nat → Kd} {E : EX} {es : List Expr} {e : Expr} {pos pos2 p : Pos} {x : Str}
theorem ds_raise {fs : List Str} {ma : Env → Res (List D)} {n : Nat} (T : XCls X.prog X.w X.K X.mg X.base x fs) (hc : X.calm = true) (tk : L2N.Takes X (fun cls d σ H => E.err σ cls d H)) (hr : Room n X.A) (hn : 2 ≤ n) (hg : Gl X x) (ha : DA X κ E (e :: es) ma) (hz : fs.length ≤ 900)
    (hdb : (x == ("__debug__" : Str)) = false := by decide) (he : starEach (e :: es) X.env = (false, eval e X.env) :: starEach es X.env := by rfl) (hpl : (backTo pos (starEach es X.env)).any (·.1) = false := by rfl) :
    DS X κ E (.Raise (some (.Call (.Name x p) (e :: es) [] pos)) none pos2) (mRaise x fs ma) := by
  obtain ⟨C, fI, fd, hm, hC, hf, iC, tI, hb, F1⟩ := T.ex
  refine (L2N.ps_raise hc tk (pmkN_oex hC iC tI F1 (hr.mono hn) hb passQ hg hm ha hdb he hpl)).imp fun Dn σ H ⟨F0, H0, F, ρ, S, k⟩ => ⟨F0, H0, F, ρ, S, Res.sat_imp (out_sat k) (fun ds _ k vs F' H' x' r => ?_) fun x z => err_back S z⟩
  by_cases hl : ds.length = fs.length
  · simp only [if_pos hl] at k
    have hv : vs.length = fs.length := r.length.trans hl
    refine ⟨by omega, fun a na => ⟨a, C, vs, by simp, hv, hC, hf, upd_same, fun d H2 h1 h2 h3 h4 h5 => ⟨rfl, d, (fs.zip vs).reverse, h3, h4, by rw [upd_ne h2] at h1; exact h1, ?_⟩⟩⟩
    have hnd : H' d = none := by rw [upd_ne h2] at h1; exact h1
    have e2 : upd (del H2 a) d (.xd (fs.zip vs).reverse) = upd H' d (.xd (fs.zip vs).reverse) := by
      funext b
      by_cases z : b = d
      · rw [z, upd_same, upd_same]
      · rw [upd_ne z, upd_ne z]
        by_cases z2 : b = a
        · rw [z2, del_same, na]
        · rw [del_ne z2, h5 b z2 z, upd_ne z2]
    rw [e2]
    have x2 : Ext F' H' (upd F' d (.xd (fs.zip vs).reverse)) (upd H' d (.xd (fs.zip vs).reverse)) := Ext.new x'.s hnd
    refine (k σ) _ _ (.ref C) (some d) (S.ext.trans (x'.trans x2)) ⟨C, hm, rfl, .inr ⟨d, _, rfl, upd_same, fun f dd hd => ?_⟩⟩
    have := zip_look (fs := fs) (acc := []) (acd := []) (r.mono x2.f) (fun f d h => by cases h) f dd (by simpa using hd)
    simpa using this
  · simp only [if_neg hl] at k
    exact k.elim
/-- C() -/
theorem pmk_own0 {C : Addr} (q : PySem.W.excIn X.K C [.type "ValueError", .type "Exception", .type "BaseException", .type "object"] "ValueError.__new__" = true) (gC : X.mg x = some (.ref C)) (kC : PySem.W.keepIn X.K (.ref C) = true) (r : Raises X (.ref C)) (hg : Gl X x)
    (hdb : (x == ("__debug__" : Str)) = false := by decide) : L2N.PMk X (.Call (.Name x p) [] [] pos) (fun _ H Q => Q (.ref C) none H) := fun pins s σ H Q I h => by
  refine wpAny_Call_Name_kw (ld_glob I hg gC (PySem.W.callWith_K0 I.kIn kC ?_) hdb)
  obtain ⟨bm, N, nm, qn, bs, hdct, sn, sub, ab, col, dd, k0, k1, k2, k3, k5, mN, hC, hN, hni, T⟩ := exc_obj I.kIn q
  exact wpAny_call_exc_subT F.excBase_ValueError T hC hN hni (fun h' e hm => L2N.mk_of I hm r h (I.hok.gone hm.new)) (Nat.zero_le _)
theorem ds_raise0 (T : XCls0 X.K X.mg x) (hc : X.calm = true) (tk : L2N.Takes X (fun cls d σ H => E.err σ cls d H)) (hg : Gl X x) (hdb : (x == ("__debug__" : Str)) = false := by decide) :
    DS X κ E (.Raise (some (.Call (.Name x p) [] [] pos)) none pos2) (fun _ => .err ⟨x, []⟩) := by
  obtain ⟨C, hm, q, kC, h1, h2⟩ := T.ex
  exact (L2N.ps_raise hc tk (pmk_own0 q hm kC (raises_own h1 h2) hg hdb)).imp fun Dn σ H ⟨F0, H0, F, ρ, S, k⟩ => k σ F H (.ref C) none S.ext ⟨C, hm, rfl, .inl ⟨rfl, rfl⟩⟩
end
end WD

/-! try with several clauses that name what they catch -/
namespace WD
open PySem PySem.Spec PyProof.Rows L2
open Evl (Ex Ex.refl Ex.trans Ex.new Ex.mut ex_l ex_t fresh_back)
abbrev Sui := Addr → Value → Option Addr → TS
/-- behind a suite its name is gone -/
def endN (D : Ends) (i : Nat) : Ends := ⟨fun σ' H' => D.nx (σ'.set i none) H', D.rt, fun σ' H' => D.bk (σ'.set i none) H', fun σ' H' => D.ct (σ'.set i none) H'⟩
def wHs (K : Frag) (Wout : WX) (D : Ends) : List (Value × Nat × Sui) → WX
  | [] => Wout
  | h :: r => fun cls d σ H => ∃ b, PySem.W.exmOne K cls h.1 = some b ∧ (b = true → ∀ a, H a = none → h.2.2 a cls d (endN D h.2.1) (σ.set h.2.1 (some (.ref a))) H) ∧ (b = false → wHs K Wout D r cls d σ H)
inductive HdsN (X : Cx) : List ExceptHandler → List (Value × Nat × Sui) → Prop
  | nil : HdsN X [] []
  | cons {x n : Str} {c : Value} {i : Nat} {ts : Sui} {b0 : Stmt} {suite : List Stmt} {np hp : Pos} {hds : List ExceptHandler} {l : List (Value × Nat × Sui)} (hi : X.N[i]? = some n) (hl : X.env.kindOf n = some .local) (hc : Names X x c)
      (hsu : ∀ (a : Addr) (oe : Obj) (cls : Value) (d : Option Addr) (pn : List (Addr × Obj)), Zc cls d oe → (∃ vs, oe.data = .fields vs) → PSs (X.suite a ((a, oe) :: pn)) (b0 :: suite) (ts a cls d)) (r : HdsN X hds l) : HdsN X (.ExceptHandler (some (.Name x np)) (some n) (b0 :: suite) hp :: hds) ((c, i, ts) :: l)
section
variable {X : Cx}
theorem not_framed {h : Heap} {B : Heap} {l : List PySem.Env} {a : Addr} {o : Obj} {vs : Array Value} (ff : h.FunFrames B l) (e : h.get? a = some o) (dd : o.data = .fields vs) : a ∉ frs l := fun hm => by
  obtain ⟨_, o2, e2, hnf⟩ := ff.mem hm
  rw [e] at e2
  cases e2
  exact hnf _ dd
theorem try_walk {body : List Stmt} {h0 : ExceptHandler} {hds : List ExceptHandler} {l : List (Value × Nat × Sui)} {pos : Pos} {tb : WX → TS} {Wout : WX} (hs : X.stack = X.env :: X.outer) (hf : X.env.frame = some X.env.locals) (hN : X.N.Nodup) (tk : L2N.Takes X Wout)
    (hb : ∀ (W : WX) (pn : List (Addr × Obj)) (xe : Value → Shared → Prop), L2N.Takes (X.tr pn xe) W → PSs (X.tr pn xe) body (tb W)) (hh : HdsN X (h0 :: hds) l) : PS X (.Try body (h0 :: hds) [] [] pos) (fun D σ H => tb (wHs X.K Wout D l) D σ H) := ⟨fun pins s σ H D I h => by
  have ok := I.ok
  have hfr : X.A.frames = some (X.env :: X.outer) := (congrArg some hs).symm ▸ ok.frames
  refine wpAny_Try_except (wpAny_mono ((hb (wHs X.K Wout D l) (X.pn ++ pins) (fun e s1 => wpAny (model X.prog X.w) X.A (noteFrame e X.env) (fun _ s2 => wpAny (model X.prog X.w) X.A (setFlight e none) (fun _ s3 => wpAny (model X.prog X.w) X.A (handleBy e X.env (h0 :: hds)) (SP X pins D) X.xe s3) X.xe s2) X.xe s1) (fun u s' xx => ?_)).run [] s σ H D (I.toTry _) h) (fun fl s1 q => ?_) fun _ _ he => he)
  · obtain ⟨a, B, sI, pins', σ', H', cls, d, rfl, J', nb, up, sky, na, os, ag, w⟩ := xx
    have J : Inv X pins σ' H' sI := J'.ofTry ok
    refine L2N.Sky.land L2N.Zn.steady hfr hf (show Sky B (X.env :: X.outer) a (L2N.Zn cls d) X.env.locals s'.heap from hs ▸ sky) fun h3 fl3 up3 => ?_
    have J3 : Inv X pins σ' H' { s' with heap := h3 } := J.landed nb fl3.1 (up.trans up3) os ag
    obtain ⟨o3, vs3, he3, hz3, hd3⟩ := fl3.there
    have nfr := not_framed fl3.2.2.1 he3 hd3
    have nL : a ≠ X.env.locals := fun z => nfr (List.mem_filterMap.mpr ⟨X.env, List.mem_cons_self, hf.trans (congrArg some z.symm)⟩)
    have nF : a ∉ X.fs := fun hm => let ⟨e, he, q⟩ := List.mem_filterMap.mp hm; nfr (List.mem_filterMap.mpr ⟨e, List.mem_cons_of_mem _ he, q⟩)
    have S3 := J3.suite he3 hd3 na nL nF
    have LT : PySem.W.Looks (model X.prog X.w) h3 (typeOf (.ref a)) cls := fun _ _ _ _ k q => wpAny_typeOf_ref (k _ _ he3) (hz3.1.symm ▸ q)
    have go : ∀ {ds : List ExceptHandler} {m : List (Value × Nat × Sui)}, HdsN X ds m → wHs X.K Wout D m cls d σ' H' → wpAny (model X.prog X.w) X.A (handleBy (.ref a) X.env ds) (SP X pins D) X.xe { s' with heap := h3 } := by
      intro ds m hk
      induction hk with
      | nil =>
        refine fun w => wpAny_handleBy_nil ?_
        obtain ⟨_, _, _, oe, vs, T, oT, ts', he, hz, hd, h1, hr⟩ := id fl3
        unfold PySem.passOn
        refine wpAny_bind (wpAny_field he hd h1 ?_)
        rw [if_neg (show ¬ ((Value.ref T == Value.none) = true) by simp)]
        have fin : wpAny (model X.prog X.w) X.A (setFlight (.ref a) X.env.frame) (fun _ s4 => wpAny (model X.prog X.w) X.A (throw (.ref a) : Sem Flow) (SP X pins D) X.xe s4) X.xe { s' with heap := h3 } := by
          rw [hf]
          exact HandSPX.setFlight_upZ fl3 fun h4 hh4 up4 => wpAny_throw (tk _ _ ⟨a, B, sI, pins, σ', H', cls, d, rfl, J, nb, (up.trans up3).trans up4, .inr (.inr (hs.symm ▸ hh4)), na, os, ag, w⟩)
        first | exact wpAny_bind (wpAny_pure (wpAny_bind fin)) | exact wpAny_bind fin
      | @cons x n c i ts b0 suite np hp hds2 l2 hi hl hc hsu r ih =>
        rintro ⟨b, hb1, hyes, hno⟩
        have LM := PySem.W.exm_one (M := model X.prog X.w) (J3.kIn) LT hb1
        have test : ∀ {Q : Value → Shared → Prop} {E : Value → Shared → Prop}, Q c { s' with heap := h3 } → wpAny (model X.prog X.w) (X.A.mark (some (.ref a))) (eval (.Name x np) X.env) Q E { s' with heap := h3 } := fun {Q E} q => by
          obtain ⟨hg, hdbg, hm | ⟨hm, hv, hnn⟩⟩ := hc
          · exact ld_glob (X := X.suite a ((a, o3) :: (X.pn ++ pins))) S3 hg hm q hdbg
          · exact ld_blt (X := X.suite a ((a, o3) :: (X.pn ++ pins))) S3 hg hm hv q hnn hdbg
        refine wpAny_handleBy_cons (codeAny_handlers_test (test (LM.here ?_))) fun q => nomatch q
        cases b with
        | false => exact ih (hno rfl)
        | true =>
          refine codeAny_handlers_suite_as (HandSPX.lands_againZ fl3 fun h4 fl4 up4 => ?_)
          have J4 : Inv X pins σ' H' { s' with heap := h4 } := J.landed nb fl4.1 ((up.trans up3).trans up4) os ag
          obtain ⟨o4, vs4, he4, hz4, hd4⟩ := fl4.there
          refine store_ok (X := X.suite a ((a, o4) :: (X.pn ++ pins))) (v := .ref a) (J4.suite he4 hd4 na nL nF) hN hi (.inl hl) rfl (fun s5 S5 => ?_) (.inr hl)
          refine wpAny_mono ((hsu a o4 cls d (X.pn ++ pins) hz4.zc ⟨_, hd4⟩).run [] s5 _ H' _ S5 (hyes rfl a na)) (fun f s6 q => ?_) fun _ _ z => z.elim
          have fin : ∀ {σ6 : L2.St} {H6 : Hp} {Q : Shared → Prop}, Inv (X.suite a ((a, o4) :: (X.pn ++ pins))) [] σ6 H6 s6 → (∀ s7, Inv X pins (σ6.set i none) H6 s7 → Q s7) → wpAny (model X.prog X.w) X.A (do bindName X.env n .none; unbindBehindTheSuite X.env n hp) (fun _ s7 => Q s7) X.xe s6 :=
            fun S6 hq => gone_ok (S6.unsuite ok) hN hi hl hq
          cases f with
          | next => obtain ⟨σ6, H6, S6, q6⟩ := q; exact fin S6 fun s7 J7 => ⟨_, _, J7, q6⟩
          | brk => obtain ⟨σ6, H6, S6, q6⟩ := q; exact fin S6 fun s7 J7 => ⟨_, _, J7, q6⟩
          | cont => obtain ⟨σ6, H6, S6, q6⟩ := q; exact fin S6 fun s7 J7 => ⟨_, _, J7, q6⟩
          | ret u => obtain ⟨v6, σ6, H6, S6, r6, q6⟩ := q; exact fin S6 fun s7 J7 => ⟨_, _, _, J7, r6, q6⟩
    exact go hh w
  · cases fl with
    | next => obtain ⟨σ', H', J', q⟩ := q; exact wpAny_execs_nil ⟨σ', H', J'.ofTry ok, q⟩
    | brk => obtain ⟨σ', H', J', q⟩ := q; exact ⟨σ', H', J'.ofTry ok, q⟩
    | cont => obtain ⟨σ', H', J', q⟩ := q; exact ⟨σ', H', J'.ofTry ok, q⟩
    | ret u => obtain ⟨v, σ', H', J', r, q⟩ := q; exact ⟨v, σ', H', J'.ofTry ok, r, q⟩⟩
end

/-! ### the data layer's try: one statement, an expression of which may raise -/
/-- slot i holds a caught exception -/
def kdX (κ : Nat → Kd) (i : Nat) (a : Addr) (d : Option Addr) : Nat → Kd := fun j => if j = i then .xn a d else κ j
def mXf (i : Nat) (f : Str) : Env → Res D := fun ρ => match (ρ[i]?).join with
  | some (.dict kvs) => ofO ((kvs.find? fun p => match p.1 with | .str x => x == f | _ => false).map (·.2))
  | _ => .stk
theorem xd_find (l : List (Str × D)) (f : Str) : ((l.map fun p => (PyData.str p.1, p.2)).find? fun p => match p.1 with | .str x => x == f | _ => false).map (·.2) = l.lookup f := by
  induction l with
  | nil => rfl
  | cons p l ih =>
    obtain ⟨g, d⟩ := p
    rw [List.map_cons, List.find?_cons, look_put]
    by_cases h : f = g
    · subst h; simp
    · have e : (g == f) = false := beq_eq_false_iff_ne.mpr fun z => h z.symm
      rw [if_neg h]
      simp only [e]
      exact ih
/-- the suites: the class that is caught, the mirror by the exception's class -/
abbrev Tbl := Str → Str → Option Bool
structure Sut where
  cls : Str
  slot : Nat
  m : Str → Env → Out
def hndl (tb : Tbl) : List Sut → Exn → Env → Out
  | [], x, _ => .err x
  | s :: r, x, ρ => match tb x.cls s.cls with
    | none => .stk
    | some true => (match s.m x.cls (ρ.set s.slot (some (xD x.fs))) with
      | .nx ρ' => .nx (ρ'.set s.slot none)
      | .bk ρ' => .bk (ρ'.set s.slot none)
      | .ct ρ' => .ct (ρ'.set s.slot none)
      | .rt d => .rt d
      | _ => .stk)
    | some false => hndl tb r x ρ
def mTry (tb : Tbl) (m : Env → Res D) (fin : D → Env → Out) (hs : List Sut) : Env → Out := fun ρ => match m ρ with
  | .ok d => fin d ρ
  | .err x => hndl tb hs x ρ
  | .stk => .stk
/-- how the table speaks of the classes -/
def TblOk (K : Frag) (mg : Mg) (tb : Tbl) : Prop := ∀ x c b, tb x c = some b → ∀ C, mg x = some (.ref C) → ∃ cv, mg c = some cv ∧ PySem.W.exmOne K (.ref C) cv = some b
section
variable {X : Cx} {κ : Nat → Kd} {E : EX}
inductive HdsD (X : Cx) (κ : Nat → Kd) (E : EX) : List ExceptHandler → List Sut → Prop
  | nil : HdsD X κ E [] []
  | cons {x n : Str} {i : Nat} {m : Str → Env → Out} {b0 : Stmt} {suite : List Stmt} {np hp : Pos} {hds : List ExceptHandler} {l : List Sut} (hk : κ i = .im) (hi : X.N[i]? = some n) (hl : X.env.kindOf n = some .local) (hg : Gl X x) (hdb : (x == ("__debug__" : Str)) = false)
      (hsu : ∀ (a : Addr) (oe : Obj) (C : Addr) (cn : Str) (d : Option Addr) (pn : List (Addr × Obj)), X.mg cn = some (.ref C) → Zc (.ref C) d oe → (∃ vs, oe.data = .fields vs) → DSs (X.suite a ((a, oe) :: pn)) (kdX κ i a d) ⟨EX0.err, E.ret⟩ (b0 :: suite) (m cn)) (r : HdsD X κ E hds l) :
      HdsD X κ E (.ExceptHandler (some (.Name x np)) (some n) (b0 :: suite) hp :: hds) (⟨x, i, m⟩ :: l)
theorem Stt.enter {K : Frag} {F0 H0 F H : Hp} {σ : L2.St} {ρ : Env} (S : Stt K κ F0 H0 F H σ ρ) {i : Nat} {a : Addr} {d : Option Addr} (hk : κ i = .im) {l : List (Str × D)} (hx : XnOk K F d l) : Stt K (kdX κ i a d) F0 H0 F H (σ.set i (some (.ref a))) (ρ.set i (some (xD l))) := by
  have e1 : kdX κ i a d i = .xn a d := if_pos rfl
  have e2 : ∀ j, j ≠ i → kdX κ i a d j = κ j := fun j h => if_neg h
  refine ⟨S.ex0, S.h0, S.o0, S.sub, S.nf, by rw [List.length_set, List.length_set, S.len], fun j e h => ?_, fun j l' b dj dl u w hn hj hl ej el oj ol => ?_⟩
  · rw [List.getElem?_set] at h ⊢
    by_cases q : i = j
    · rw [if_pos q] at h ⊢
      subst q
      by_cases z : i < ρ.length
      · rw [if_pos z] at h
        rw [if_pos (by rw [S.len]; exact z)]
        cases h
        exact ⟨_, rfl, by rw [e1]; exact ⟨rfl, l, rfl, hx⟩⟩
      · rw [if_neg z] at h; cases h
    · rw [if_neg q] at h ⊢
      rw [e2 j (Ne.symm q)]
      exact S.slot j e h
  · have nj : i ≠ j := fun z => by rw [← z, e1] at oj; exact oj
    have nl : i ≠ l' := fun z => by rw [← z, e1] at ol; exact ol
    rw [e2 j (Ne.symm nj)] at oj
    rw [e2 l' (Ne.symm nl)] at ol
    rw [List.getElem?_set_ne nj] at hj ej
    rw [List.getElem?_set_ne nl] at hl el
    exact S.sep j l' b dj dl u w hn hj hl ej el oj ol
theorem Stt.leave {K : Frag} {F0 H0 F H : Hp} {σ : L2.St} {ρ : Env} {i : Nat} {a : Addr} {d : Option Addr} (S : Stt K (kdX κ i a d) F0 H0 F H σ ρ) : Stt K κ F0 H0 F H (σ.set i none) (ρ.set i none) := by
  have e2 : ∀ j, j ≠ i → kdX κ i a d j = κ j := fun j h => if_neg h
  have out : ∀ {j : Nat} {e : D}, (ρ.set i none)[j]? = some (some e) → j ≠ i ∧ ρ[j]? = some (some e) := fun {j e} h => by
    rw [List.getElem?_set] at h
    by_cases q : i = j
    · rw [if_pos q] at h
      split at h <;> cases h
    · rw [if_neg q] at h
      exact ⟨Ne.symm q, h⟩
  refine ⟨S.ex0, S.h0, S.o0, S.sub, S.nf, by rw [List.length_set, List.length_set, S.len], fun j e h => ?_, fun j l' b dj dl u w hn hj hl ej el oj ol => ?_⟩
  · obtain ⟨q, h⟩ := out h
    rw [List.getElem?_set_ne (Ne.symm q), ← e2 j q]
    exact S.slot j e h
  · obtain ⟨qj, hj⟩ := out hj
    obtain ⟨ql, hl⟩ := out hl
    rw [List.getElem?_set_ne (Ne.symm qj)] at ej
    rw [List.getElem?_set_ne (Ne.symm ql)] at el
    rw [← e2 j qj] at oj
    rw [← e2 l' ql] at ol
    exact S.sep j l' b dj dl u w hn hj hl ej el oj ol
theorem ExRep.xn {mg : Mg} {K : Frag} {F H : Hp} {x : Exn} {cls : Value} {d : Option Addr} (h : ExRep mg K F H x cls d) : XnOk K F d x.fs := by
  obtain ⟨C, _, _, ⟨e1, e2⟩ | ⟨a, fs, e1, e2, e3⟩⟩ := h
  · subst e2; exact e1
  · subst e1; exact ⟨fs, e2, e3⟩
/-- the suites, over plain data, keep what is asked of the exception -/
theorem hds_of {hds : List ExceptHandler} {l : List Sut} (h : HdsD X κ E hds l) {tb : Tbl} (ht : TblOk X.K X.mg tb) :
    ∃ l' : List (Value × Nat × Sui), (l ≠ [] → ∀ n ∈ l, ∃ cv, X.mg n.cls = some cv) → HdsN X hds l' ∧
      ∀ (Dn : Ends) (F0 H0 F H : Hp) (σ : L2.St) (ρ : Env) (x : Exn) (cls : Value) (d : Option Addr), Stt X.K κ F0 H0 F H σ ρ → ExRep X.mg X.K F H x cls d → OutOk X.mg X.K κ E F0 H0 F H Dn (hndl tb l x ρ) →
        wHs X.K (fun cls d σ H => E.err σ cls d H) Dn l' cls d σ H := by
  induction h with
  | nil => exact ⟨[], fun _ => ⟨.nil, fun Dn F0 H0 F H σ ρ x cls d S r k => (show ∀ σ, ErrOk X.mg X.K (E.err σ) F0 H0 x from k) σ F H cls d S.ext r⟩⟩
  | @cons x n i m b0 suite np hp hds l hk hi hl hg hdb hsu r ih =>
    obtain ⟨l', ih⟩ := ih
    cases hcv : X.mg x with
    | none => exact ⟨[], fun z => by obtain ⟨cv, e⟩ := z (by simp) ⟨x, i, m⟩ (by simp); rw [hcv] at e; cases e⟩
    | some cv =>
      refine ⟨(cv, i, fun a cls d => fun D σ H => ∃ C cn, cls = .ref C ∧ X.mg cn = some (.ref C) ∧ rdS X.mg X.K (kdX κ i a d) ⟨EX0.err, E.ret⟩ (m cn) D σ H) :: l', fun z => ?_⟩
      obtain ⟨h1, h2⟩ := ih fun _ n hn => z (by simp) n (by simp [hn])
      refine ⟨.cons hi hl ⟨hg, hdb, .inl hcv⟩ (fun a oe cls d pn hz hf => ⟨fun pins s σ H D I ⟨C, cn, e1, e2, k⟩ => by subst e1; exact (hsu a oe C cn d pn e2 hz hf).run pins s σ H D I k⟩) h1, fun Dn F0 H0 F H σ ρ y cls d S rep k => ?_⟩
      have hx := rep.xn
      obtain ⟨C, e1, e2, _⟩ := id rep
      unfold hndl at k
      cases htb : tb y.cls x with
      | none => simp only [htb] at k; exact k.elim
      | some b =>
        obtain ⟨cv', e3, e4⟩ := ht _ _ _ htb C e1
        rw [hcv] at e3
        cases e3
        refine ⟨b, by rw [e2]; exact e4, fun hb a na => ?_, fun hb => ?_⟩
        · subst hb
          simp only [htb] at k
          refine ⟨C, y.cls, e2, e1, F0, H0, F, _, S.enter hk hx, ?_⟩
          generalize m y.cls (ρ.set i (some (xD y.fs))) = o at k ⊢
          cases o with
          | nx ρ' => exact fun σ' F' H' x' S' => k _ F' H' x' S'.leave
          | bk ρ' => exact fun σ' F' H' x' S' => k _ F' H' x' S'.leave
          | ct ρ' => exact fun σ' F' H' x' S' => k _ F' H' x' S'.leave
          | rt d => exact k
          | err x => exact k.elim
          | stk => exact k.elim
        · subst hb
          simp only [htb] at k
          exact h2 Dn F0 H0 F H σ ρ y cls d S rep k
theorem ds_tryG {st : Stmt} {h0 : ExceptHandler} {hds : List ExceptHandler} {l : List Sut} {pos : Pos} {tb : Tbl} {me : Env → Res D} {mfin : D → Env → Out} {fin : Ends → V → L2.St → Hp → Prop}
    (hb : ∀ (W : WX) (pn : List (Addr × Obj)) (xe : Value → Shared → Prop), L2N.Takes (X.tr pn xe) W → PSs (X.tr pn xe) [st] (fun D σ H => rdE X.mg X.K κ ⟨WE W, E.ret⟩ me σ H fun v H' => fin D v σ H'))
    (hfin : ∀ (Dn : Ends) (F0 H0 F H : Hp) (σ : L2.St) (ρ : Env) (v : V) (d : D), Stt X.K κ F0 H0 F H σ ρ → Rp X.K F v d → OutOk X.mg X.K κ E F0 H0 F H Dn (mfin d ρ) → fin Dn v σ H)
    (hd : HdsD X κ E (h0 :: hds) l) (ht : TblOk X.K X.mg tb) (hcl : ∀ n ∈ l, ∃ cv, X.mg n.cls = some cv) (hN : X.N.Nodup) (tk : L2N.Takes X (fun cls d σ H => E.err σ cls d H)) (hs : X.stack = X.env :: X.outer := by rfl) (hf : X.env.frame = some X.env.locals := by rfl) :
    DS X κ E (.Try [st] (h0 :: hds) [] [] pos) (mTry tb me mfin l) := by
  obtain ⟨l', h⟩ := hds_of hd ht
  obtain ⟨h1, h2⟩ := h fun _ => hcl
  refine (try_walk hs hf hN tk hb h1).imp fun Dn σ H ⟨F0, H0, F, ρ, S, k⟩ => ⟨F0, H0, F, ρ, S, ?_⟩
  unfold mTry at k
  cases q : me ρ with
  | ok d =>
    simp only [q] at k
    exact fun v F' H' x r => hfin Dn F0 H0 F' H' σ ρ v d (S.mono x) r (OutOk.mono (H := H) x.f k)
  | err y =>
    simp only [q] at k
    exact fun F' H' c dd x rep => h2 Dn F0 H0 F' H' σ ρ y c dd (S.mono x) rep (OutOk.mono (H := H) x.f k)
  | stk => simp only [q] at k; exact k.elim
/-- try: x = e -/
theorem ds_tryA {e : Expr} {x : Str} {i : Nat} {px ps : Pos} {h0 : ExceptHandler} {hds : List ExceptHandler} {l : List Sut} {pos : Pos} {tb : Tbl} {me : Env → Res D} (hk : κ i = .im) (hi : X.N[i]? = some x) (hx : Loc X.env.scope x) (he : ∀ (W : WX) (pn : List (Addr × Obj)) (xe : Value → Shared → Prop), L2N.Takes (X.tr pn xe) W → DE (X.tr pn xe) κ ⟨WE W, E.ret⟩ e me)
    (hd : HdsD X κ E (h0 :: hds) l) (ht : TblOk X.K X.mg tb) (hcl : ∀ n ∈ l, ∃ cv, X.mg n.cls = some cv) (hN : X.N.Nodup) (tk : L2N.Takes X (fun cls d σ H => E.err σ cls d H)) (hs : swapsWith e (some (.Name x px)) ps.line X.env = pure false := by rfl)
    (hf : X.fn x = true ∨ X.env.scope.names.lookup x = some .local := by first | exact .inl rfl | exact .inr rfl | assumption) (hst : X.stack = X.env :: X.outer := by rfl) (hfr : X.env.frame = some X.env.locals := by rfl) :
    DS X κ E (.Try [.Assign [.Name x px] e ps] (h0 :: hds) [] [] pos) (mTry tb me (fun d ρ => .nx (ρ.set i (some d))) l) :=
  ds_tryG (fin := fun D v σ H => D.nx (σ.set i (some v)) H) (fun W pn xe tk => pss_one (ps_set (i := i) (X := X.tr pn xe) hN hi hx (he W pn xe tk) hs hf)) (fun Dn F0 H0 F H σ ρ v d S r k => k _ F H (Ex.refl F) (S.set hk r)) hd ht hcl hN tk hst hfr
/-- try: return e -/
theorem ds_tryR {e : Expr} {ps : Pos} {h0 : ExceptHandler} {hds : List ExceptHandler} {l : List Sut} {pos : Pos} {tb : Tbl} {me : Env → Res D} (he : ∀ (W : WX) (pn : List (Addr × Obj)) (xe : Value → Shared → Prop), L2N.Takes (X.tr pn xe) W → DE (X.tr pn xe) κ ⟨WE W, E.ret⟩ e me)
    (hd : HdsD X κ E (h0 :: hds) l) (ht : TblOk X.K X.mg tb) (hcl : ∀ n ∈ l, ∃ cv, X.mg n.cls = some cv) (hN : X.N.Nodup) (tk : L2N.Takes X (fun cls d σ H => E.err σ cls d H)) (hR : ∀ H0 d v F H, Rp X.K F v d → E.ret H0 d v F H := by exact fun _ _ _ _ _ h => h) (hst : X.stack = X.env :: X.outer := by rfl) (hfr : X.env.frame = some X.env.locals := by rfl) :
    DS X κ E (.Try [.Return (some e) ps] (h0 :: hds) [] [] pos) (mTry tb me (fun d _ => .rt d) l) :=
  ds_tryG (fin := fun D v _ H => D.rt v H) (fun W pn xe tk => pss_one (ps_ret (he W pn xe tk))) (fun Dn F0 H0 F H σ ρ v d S r k => k v F H S.ext (hR _ _ _ _ _ r)) hd ht hcl hN tk hst hfr
/-- try: e -/
theorem ds_tryE {e : Expr} {ps : Pos} {h0 : ExceptHandler} {hds : List ExceptHandler} {l : List Sut} {pos : Pos} {tb : Tbl} {me : Env → Res D} (he : ∀ (W : WX) (pn : List (Addr × Obj)) (xe : Value → Shared → Prop), L2N.Takes (X.tr pn xe) W → DE (X.tr pn xe) κ ⟨WE W, E.ret⟩ e me)
    (hd : HdsD X κ E (h0 :: hds) l) (ht : TblOk X.K X.mg tb) (hcl : ∀ n ∈ l, ∃ cv, X.mg n.cls = some cv) (hN : X.N.Nodup) (tk : L2N.Takes X (fun cls d σ H => E.err σ cls d H)) (hs : swapsWith e none ps.line X.env = pure false := by rfl) (hst : X.stack = X.env :: X.outer := by rfl) (hfr : X.env.frame = some X.env.locals := by rfl) :
    DS X κ E (.Try [.Expr e ps] (h0 :: hds) [] [] pos) (mTry tb me (fun _ ρ => .nx ρ) l) :=
  ds_tryG (fin := fun D _ σ H => D.nx σ H) (fun W pn xe tk => pss_one (ps_expr (he W pn xe tk) hs)) (fun Dn F0 H0 F H σ ρ v d S r k => k _ F H (Ex.refl F) S) hd ht hcl hN tk hst hfr

/-! ### in a suite: e.f, isinstance(e, C) -/
/-- what the written part says of every class that is caught -/
def XfOk (K : Frag) (mg : Mg) (cs : List Str) (fs : List Str) : Prop := ∀ x ∈ cs, ∀ C, mg x = some (.ref C) → XfC K C ∧ ∀ f ∈ fs, PySem.W.findIn K (.ref C) f = some none
theorem de_xf {a : Addr} {oe : Obj} {C : Addr} {cn : Str} {d : Option Addr} {pn : List (Addr × Obj)} {i : Nat} {n f : Str} {p pos : Pos} {cs fs : List Str} {κ' : Nat → Kd} (T : XfOk X.K X.mg cs fs) (hm : X.mg cn = some (.ref C)) (hz : Zc (.ref C) d oe) (hf : ∃ vs, oe.data = .fields vs)
    (hk : κ' i = .xn a d) (hN : X.N[i]? = some n) (hv : Vis X.env.scope n) (hff : fs.contains f = true) (hdb : (n == ("__debug__" : Str)) = false := by decide) (hcd : (n == ("__classdict__" : Str)) = false := by decide)
    (hb : attributeBase (.Name n p) f X.env (eval (.Name n p) X.env) = eval (.Name n p) X.env := by rfl) :
    DE (X.suite a ((a, oe) :: pn)) κ' E (.Attribute (.Name n p) f pos) (fun ρ => if cs.contains cn = true then mXf i f ρ else .stk) := by
  by_cases hc : cs.contains cn = true
  · obtain ⟨xf, hno⟩ := T cn (by simpa using hc) C hm
    refine (pe_xf xf (hno f (by simpa using hff)) hz hf (pe_var (X := X.suite a ((a, oe) :: pn)) hN hv hdb hcd) hb).imp fun σ H Q ⟨F0, H0, F, ρ, S, c⟩ => ?_
    simp only [if_pos hc] at c
    unfold mXf at c
    cases hd : (ρ[i]?).join with
    | none => simp only [hd] at c; exact c.elim
    | some dd =>
      obtain ⟨v, h1, h2⟩ := S.slot i dd (join_some hd)
      rw [hk] at h2
      obtain ⟨e1, l, e2, hx⟩ := h2
      subst e1 e2
      simp only [hd, xD] at c
      rw [xd_find] at c
      obtain ⟨u, hu, k⟩ := ofO_sat c
      refine ⟨_, h1, rfl, rfl, ?_⟩
      cases d with
      | none => have hx : l = [] := hx; subst hx; cases hu
      | some q =>
        obtain ⟨gs, h3, h4⟩ := hx
        obtain ⟨w, hw, r⟩ := h4 f u hu
        exact ⟨q, gs, w, rfl, S.sub _ _ h3, hw, k w F H (Ext.refl S.sub) r⟩
  · refine ⟨fun pins s σ H Q I ⟨F0, H0, F, ρ, S, c⟩ => ?_⟩
    simp only [if_neg hc] at c
    exact c.elim
end
end WD

/-! isinstance of what is caught; dicts -/
namespace WD
open PySem PySem.Spec PyProof.Rows L2
open Evl (Ex Ex.refl Ex.trans Ex.new Ex.mut ex_l ex_t fresh_back)
theorem pe_or {X : Cx} {e : Expr} {t u : TE} (h : PE X e t) (g : PE X e u) : PE X e (fun σ H Q => t σ H Q ∨ u σ H Q) := ⟨fun pins s σ H Q I q => q.elim (h.run pins s σ H Q I) (g.run pins s σ H Q I)⟩

/-! ### isinstance(e, C), e caught -/
def rIsX (K : Frag) (C a : Addr) (d : Option Addr) : List V → Hp → VK → Prop := fun xs H Q => ∃ (c : V) (cv : Value) (b : Bool), xs = [.ref a, c] ∧ ClsV c cv ∧ PySem.W.kitOne K (.ref C) cv = some b ∧ (∀ q, d = some q → ∃ fs, H q = some (.xd fs)) ∧ Q (.bl b) H
theorem call_isX {X : Cx} {a C : Addr} {oe : Obj} {d : Option Addr} {pn : List (Addr × Obj)} (T : ExcC X.K C) (hz : Zc (.ref C) d oe) (hf : ∃ vs, oe.data = .fields vs) : CallR (X.suite a ((a, oe) :: pn)) (.builtin "isinstance") (rIsX X.K C a d) := fun pins s σ H xs us Q I r ⟨c, cv, b, e, k, kb, hd, q⟩ => by
  subst e
  obtain ⟨u1, u2, rfl, r1, r2⟩ := vals2 r
  cases (show u1 = Value.ref a from r1)
  have e2 := k.eq r2
  subst e2
  obtain ⟨hget, _⟩ := I.pin (a, oe) (List.mem_append.mpr (.inl List.mem_cons_self))
  obtain ⟨vs, hv⟩ := hf
  obtain ⟨cd, hcl, _⟩ := PySem.W.any_some T.hd
  have hcs : (PySem.W.clsIn X.K C).isSome = true := by rw [hcl]; rfl
  obtain ⟨od, J⟩ : ∃ od, PySem.W.InstAt s.heap a oe C od := by
    cases d with
    | none =>
      obtain ⟨oc, od, oda, osl⟩ := oe
      obtain ⟨h1, h2⟩ := hz
      dsimp only at h1 h2 hv
      subst h1 h2 hv
      exact ⟨none, hget, rfl, rfl, trivial⟩
    | some q =>
      obtain ⟨fs, hq⟩ := hd q rfl
      obtain ⟨mA, hns, _⟩ := (show ObjOk X.prog X.w H s.heap q (.xd fs) from I.hok q _ hq)
      obtain ⟨od, ho, _⟩ := lookIn_ns hns
      exact ⟨some od, hget, hz.1, by unfold PySem.W.notCls; rw [hv] <;> rfl, by rw [hz.2]; exact ho⟩
  exact PySem.W.kia_one (PySem.W.kitx_exc (gt := none) hcs T.hg T.hk T.hs T.ha T.hn T.ht T.hm) I.kIn J kb (fun z => nomatch z) fun tk => ⟨.bl b, H, I.kept (t' := tk) fun _ _ z => z, rfl, q⟩
/-- the table of isinstance over the classes that are caught -/
def IsOk (K : Frag) (mg : Mg) (tb : Tbl) : Prop := ∀ cn T b, tb cn T = some b → ∀ C, mg cn = some (.ref C) → ExcC K C ∧ ∃ c cv, ClsV c cv ∧ RelV c cv ∧ (mg T = some cv ∨ (mg T = none ∧ bootBuiltins T = some cv ∧ T ≠ "__name__")) ∧ PySem.W.kitOne K (.ref C) cv = some b
def mIsX (tb : Tbl) (cn T : Str) (i : Nat) : Env → Res D := fun ρ => match (ρ[i]?).join with
  | some _ => (ofO (tb cn T)).bind fun b => .ok (.bool b)
  | none => .stk
theorem de_isX {X : Cx} {E : EX} {a : Addr} {oe : Obj} {C : Addr} {cn : Str} {d : Option Addr} {pn : List (Addr × Obj)} {i : Nat} {n T : Str} {p q r pos : Pos} {tb : Tbl} {κ' : Nat → Kd} (ht : IsOk X.K X.mg tb) (hmC : X.mg cn = some (.ref C)) (hz : Zc (.ref C) d oe) (hf : ∃ vs, oe.data = .fields vs)
    (hk : κ' i = .xn a d) (hN : X.N[i]? = some n) (hv : Vis X.env.scope n) (hg : Gl X "isinstance") (hm : X.mg "isinstance" = none) (hgT : Gl X T) (hdb : (n == ("__debug__" : Str)) = false := by decide) (hcd : (n == ("__classdict__" : Str)) = false := by decide) (hdT : (T == ("__debug__" : Str)) = false := by decide)
    (hv1 : bootBuiltins "isinstance" = some (.builtin "isinstance") := by decide +kernel)
    (he : starEach [.Name n q, .Name T r] X.env = (false, eval (.Name n q) X.env) :: starEach [.Name T r] X.env := by rfl) (he2 : starEach [.Name T r] X.env = (false, eval (.Name T r) X.env) :: starEach [] X.env := by rfl) (hpl : (backTo pos (starEach [.Name T r] X.env)).any (·.1) = false := by rfl) :
    DE (X.suite a ((a, oe) :: pn)) κ' E (.Call (.Name "isinstance" p) [.Name n q, .Name T r] [] pos) (mIsX tb cn T i) := by
  cases htb : tb cn T with
  | none =>
    refine ⟨fun pins s σ H Q I ⟨F0, H0, F, ρ, S, c⟩ => ?_⟩
    unfold mIsX at c
    rw [htb] at c
    split at c <;> exact c.elim
  | some b =>
    obtain ⟨TC, c, cv, hcv, rcv, hnm, kb⟩ := ht _ _ _ htb C hmC
    have hT : PE (X.suite a ((a, oe) :: pn)) (.Name T r) (tC c) := by
      rcases hnm with h | ⟨h1, h2, h3⟩
      · exact pe_glob (X := X.suite a ((a, oe) :: pn)) hgT h rcv hdT
      · exact pe_bltn (X := X.suite a ((a, oe) :: pn)) hgT h1 h2 rcv h3 hdT
    refine (pe_callB (X := X.suite a ((a, oe) :: pn)) (call_isX TC hz hf) hg hm hv1 (pa_cons (pe_var (X := X.suite a ((a, oe) :: pn)) hN hv hdb hcd) (pa_cons hT pa_nil he2) he) (by decide) (by decide) he hpl).imp fun σ H Q ⟨F0, H0, F, ρ, S, k⟩ => ?_
    unfold mIsX at k
    cases hd : (ρ[i]?).join with
    | none => simp only [hd] at k; exact k.elim
    | some dd =>
      simp only [hd, htb] at k
      obtain ⟨v, h1, h2⟩ := S.slot i dd (join_some hd)
      rw [hk] at h2
      obtain ⟨e1, l, e2, hx⟩ := h2
      subst e1
      refine ⟨_, h1, c, cv, b, rfl, hcv, kb, fun q eq => ?_, k _ F H (Ext.refl S.sub) (.bl _)⟩
      subst eq
      obtain ⟨fs, hq, _⟩ := hx
      exact ⟨fs, S.sub _ _ hq⟩

/-! ### dicts as data -/
def keyOf : D → Option Key
  | .int i => some (.inl i)
  | .str x => some (.inr x)
  | _ => none
theorem keyOf_keyD (k : Key) : keyOf (keyD k) = some k := by cases k <;> rfl
theorem Rp.key {K : Frag} {F : Hp} {v : V} {d : D} {k : Key} (r : Rp K F v d) (h : keyOf d = some k) : v = kV k ∧ d = keyD k ∧ KeyOk k := by
  cases r <;> simp only [keyOf] at h <;> cases h
  · exact ⟨rfl, rfl, trivial⟩
  · rename_i ho; exact ⟨rfl, rfl, ho⟩
def valD (ds : List (D × D)) (k : Key) : Option D := (ds.find? fun p => decide (keyOf p.1 = some k)).map (·.2)
def putD (ds : List (D × D)) (k : Key) (d : D) : List (D × D) := if (ds.any fun p => decide (keyOf p.1 = some k)) = true then ds.map fun p => if keyOf p.1 = some k then (p.1, d) else p else ds ++ [(keyD k, d)]
def dropD (ds : List (D × D)) (k : Key) : List (D × D) := ds.filter fun p => decide (keyOf p.1 ≠ some k)
section
variable {K : Frag} {F H0 H : Hp}
theorem RpK.val : ∀ {kvs : List (Key × V)} {ds : List (D × D)} (k : Key), RpK K F kvs ds → (valV kvs k = none ∧ valD ds k = none) ∨ ∃ v d, valV kvs k = some v ∧ valD ds k = some d ∧ Rp K F v d
  | _, _, _, .nil => .inl ⟨rfl, rfl⟩
  | _, _, k, .cons (k := j) (v := v) (d := d) (kvs := kvs) (ds := ds) _ h a => by
    by_cases e : j = k
    · exact .inr ⟨v, d, valV_pos e, by unfold valD; rw [List.find?_cons]; simp [keyOf_keyD, e], h⟩
    · rw [valV_neg e]
      have : valD ((keyD j, d) :: ds) k = valD ds k := by unfold valD; rw [List.find?_cons]; simp [keyOf_keyD, e]
      rw [this]
      exact RpK.val k a
theorem any_keys (k : Key) : ∀ {kvs : List (Key × V)} {ds : List (D × D)}, ds.map (·.1) = kvs.map (fun p => keyD p.1) → (kvs.any fun kv => decide (kv.1 = k)) = ds.any fun p => decide (keyOf p.1 = some k)
  | [], [], _ => rfl
  | [], _ :: _, e => by simp at e
  | _ :: _, [], e => by simp at e
  | p :: kvs, q :: ds, e => by
    obtain ⟨e1, e2⟩ := List.cons.inj e
    have e1 : q.1 = keyD p.1 := e1
    rw [List.any_cons, List.any_cons, any_keys k e2, e1, keyOf_keyD]
    simp
theorem RpK.keys : ∀ {kvs : List (Key × V)} {ds : List (D × D)}, RpK K F kvs ds → ds.map (·.1) = kvs.map (fun p => keyD p.1)
  | _, _, .nil => rfl
  | _, _, .cons _ h a => by rw [List.map_cons, List.map_cons, RpK.keys a]
theorem RpK.app : ∀ {kvs more : List (Key × V)} {ds es : List (D × D)}, RpK K F kvs ds → RpK K F more es → RpK K F (kvs ++ more) (ds ++ es)
  | _, _, _, _, .nil, b => b
  | _, _, _, _, .cons o h a, b => .cons o h (RpK.app a b)
theorem RpK.repl {k : Key} {v : V} {d : D} (r : Rp K F v d) : ∀ {kvs : List (Key × V)} {ds : List (D × D)}, RpK K F kvs ds → RpK K F (kvs.map fun kv => if kv.1 = k then (kv.1, v) else kv) (ds.map fun p => if keyOf p.1 = some k then (p.1, d) else p)
  | _, _, .nil => .nil
  | _, _, .cons (k := j) (v := w) (d := e) o h a => by
    rw [List.map_cons, List.map_cons]
    by_cases z : j = k
    · rw [if_pos z, if_pos (by rw [keyOf_keyD, z])]; exact .cons o r (RpK.repl r a)
    · rw [if_neg z, if_neg (by rw [keyOf_keyD]; simpa using z)]; exact .cons o h (RpK.repl r a)
theorem RpK.put {kvs : List (Key × V)} {ds : List (D × D)} {k : Key} {v : V} {d : D} (h : RpK K F kvs ds) (ko : KeyOk k) (r : Rp K F v d) : RpK K F (putK kvs k v) (putD ds k d) := by
  unfold putK putD
  rw [any_keys k h.keys]
  split
  · exact h.repl r
  · exact h.app (.cons ko r .nil)
theorem RpK.drop (k : Key) : ∀ {kvs : List (Key × V)} {ds : List (D × D)}, RpK K F kvs ds → RpK K F (dropK kvs k) (dropD ds k)
  | _, _, .nil => .nil
  | _, _, .cons (k := j) o h a => by
    have ih := RpK.drop k a
    unfold dropK dropD at ih ⊢
    by_cases z : j = k
    · rw [List.filter_cons_of_neg (by simp [z]), List.filter_cons_of_neg (by simp [keyOf_keyD, z])]; exact ih
    · rw [List.filter_cons_of_pos (by simp [z]), List.filter_cons_of_pos (by simp [keyOf_keyD, z])]; exact .cons o h ih
theorem OdK.keys : ∀ {kvs : List (Key × V)} {ds : List (D × D)}, OdK K H0 F H kvs ds → ds.map (·.1) = kvs.map (fun p => keyD p.1)
  | _, _, .nil => rfl
  | _, _, .cons _ _ _ _ _ a => by rw [List.map_cons, List.map_cons, OdK.keys a]
theorem OdK.length {kvs : List (Key × V)} {ds : List (D × D)} (h : OdK K H0 F H kvs ds) : ds.length = kvs.length := by
  have := congrArg List.length h.keys
  simpa using this
theorem OdK.val : ∀ {kvs : List (Key × V)} {ds : List (D × D)} (k : Key), OdK K H0 F H kvs ds → (valV kvs k = none ∧ valD ds k = none) ∨ ∃ b vs xs, (k, V.ref b) ∈ kvs ∧ valV kvs k = some (.ref b) ∧ valD ds k = some (.list xs) ∧ H0 b = none ∧ F b = none ∧ H b = some (.lst vs) ∧ RpA K F vs xs
  | _, _, _, .nil => .inl ⟨rfl, rfl⟩
  | _, _, k, .cons (q := j) (b := b) (vs := vs) (xs := xs) (kvs := kvs) (ds := ds) _ h1 h2 h3 h4 a => by
    by_cases e : j = k
    · exact .inr ⟨b, vs, xs, by rw [e]; exact List.mem_cons_self, valV_pos e, by unfold valD; rw [List.find?_cons]; simp [keyOf_keyD, e], h1, h2, h3, h4⟩
    · rw [valV_neg e]
      have : valD ((keyD j, PyData.list xs) :: ds) k = valD ds k := by unfold valD; rw [List.find?_cons]; simp [keyOf_keyD, e]
      rw [this]
      rcases OdK.val k a with h | ⟨b, vs, xs, h0, h⟩
      · exact .inl h
      · exact .inr ⟨b, vs, xs, List.mem_cons_of_mem _ h0, h⟩
/-- a list of a dict of lists is changed -/
theorem OdK.chg {k : Key} {b : Addr} {vs : List V} {xs : List D} (r : RpA K F vs xs) {kvs : List (Key × V)} {ds : List (D × D)} (hk : OdK K H0 F H kvs ds) : (kvs.map (·.2)).Nodup → (kvs.map (·.1)).Nodup → (k, V.ref b) ∈ kvs →
    OdK K H0 F (upd H b (.lst vs)) kvs (ds.map fun p => if keyOf p.1 = some k then (p.1, .list xs) else p) := by
  induction hk with
  | nil => intro _ _ h; simp at h
  | @cons j c ws ys kvs ds ko h1 h2 h3 h4 a ih =>
    intro nd nk h
    rw [List.map_cons] at nd nk ⊢
    obtain ⟨n1, n2⟩ := List.nodup_cons.mp nd
    obtain ⟨m1, m2⟩ := List.nodup_cons.mp nk
    rcases List.mem_cons.mp h with h | h
    · obtain ⟨e1, e2⟩ := Prod.mk.inj h
      cases e2
      subst e1
      rw [if_pos (keyOf_keyD k)]
      refine .cons ko h1 h2 upd_same r ?_
      have stay : ∀ {kvs : List (Key × V)} {ds : List (D × D)}, V.ref b ∉ kvs.map (·.2) → k ∉ kvs.map (·.1) → OdK K H0 F H kvs ds → OdK K H0 F (upd H b (.lst vs)) kvs (ds.map fun p => if keyOf p.1 = some k then (p.1, .list xs) else p) := fun {kvs ds} x y hk => by
        induction hk with
        | nil => exact .nil
        | @cons q c2 ws ys kvs ds go g1 g2 g3 g4 _ ih =>
          rw [List.map_cons] at x y ⊢
          rw [if_neg (by rw [keyOf_keyD]; intro z; exact y (by rw [Option.some.inj z]; exact List.mem_cons_self))]
          exact .cons go g1 g2 (by rw [upd_ne (fun z => x (by rw [z]; exact List.mem_cons_self))]; exact g3) g4 (ih (fun z => x (List.mem_cons_of_mem _ z)) fun z => y (List.mem_cons_of_mem _ z))
      exact stay n1 m1 a
    · have hj : j ≠ k := fun z => m1 (by rw [z]; exact List.mem_map.mpr ⟨_, h, rfl⟩)
      have hc : c ≠ b := fun z => n1 (by rw [z]; exact List.mem_map.mpr ⟨_, h, rfl⟩)
      rw [if_neg (by rw [keyOf_keyD]; simpa using hj)]
      exact .cons ko h1 h2 (by rw [upd_ne hc]; exact h3) h4 (ih n2 m2 h)
theorem OdK.app : ∀ {kvs more : List (Key × V)} {ds es : List (D × D)}, OdK K H0 F H kvs ds → OdK K H0 F H more es → OdK K H0 F H (kvs ++ more) (ds ++ es)
  | _, _, _, _, .nil, b => b
  | _, _, _, _, .cons ko h1 h2 h3 h4 a, b => .cons ko h1 h2 h3 h4 (OdK.app a b)
end

/-! ### statements on a dict that is owned -/
def getDct (i : Nat) (ρ : Env) : Res (List (D × D)) := match (ρ[i]?).join with
  | some (.dict ds) => .ok ds
  | _ => .stk
theorem getDct_sat {i : Nat} {ρ : Env} {P : List (D × D) → Prop} {R : Exn → Prop} (h : (getDct i ρ).sat P R) : ∃ ds, ρ[i]? = some (some (.dict ds)) ∧ P ds := by
  unfold getDct at h
  cases q : (ρ[i]?).join with
  | none => rw [q] at h; exact h.elim
  | some d =>
    rw [q] at h
    cases d <;> first | exact ⟨_, join_some q, h⟩ | exact h.elim
def Kd.fre : Kd → Bool
  | .ow => true
  | .od => true
  | _ => false
section
variable {X : Cx} {κ : Nat → Kd} {E : EX} {a b c e o : Expr} {es : List Expr} {pos : Pos} {ma mb mk mv me : Env → Res D}
/-- x = {} -/
theorem ds_setD0 {i : Nat} {x : Str} {pos' p2 : Pos} (hk : (κ i).fre = true) (hN : X.N.Nodup) (hi : X.N[i]? = some x) (hx : Loc X.env.scope x) (hs : swapsWith (.Dict [] [] p2) (some (.Name x pos')) pos.line X.env = pure false := by rfl)
    (hf : X.fn x = true ∨ X.env.scope.names.lookup x = some .local := by first | exact .inl rfl | exact .inr rfl | assumption) : DS X κ E (.Assign [.Name x pos'] (.Dict [] [] p2) pos) (fun ρ => .nx (ρ.set i (some (.dict [])))) :=
  (ps_set (i := i) hN hi hx pe_dnewK hs hf).imp fun Dn σ H ⟨F0, H0, F, ρ, S, k⟩ => fun p hp => by
    have x := Ext.newO (o := .dK []) S.sub hp
    refine k _ F _ (Ex.refl F) ((S.mono x).setW ?_ fun j c dj w hj ej nj oi oj => ?_)
    · have h0 := fresh_back S.h0 hp
      have f0 := none_of_ex S.sub hp
      cases kj : κ i with
      | ow => exact ⟨p, rfl, h0, f0, .inr ⟨[], [], rfl, upd_same, .nil⟩⟩
      | od => exact ⟨p, [], [], rfl, h0, f0, rfl, upd_same, .nil, by simp, by simp⟩
      | _ => rw [kj] at hk; cases hk
    · have hc : c = p := by
        cases kj : κ i with
        | ow => rw [kj] at oi; cases (show V.ref p = .ref c from oi); rfl
        | od =>
          rw [kj] at oi
          rcases (show V.ref p = .ref c ∨ ∃ a kvs q, V.ref p = .ref a ∧ upd H p (.dK []) a = some (.dK kvs) ∧ (q, V.ref c) ∈ kvs from oi) with z | ⟨a, kvs, q, e1, e2, e3⟩
          · cases z; rfl
          · cases e1; rw [upd_same] at e2; cases e2; simp at e3
        | _ => rw [kj] at hk; cases hk
      subst hc
      have g := S.slotAt hj ej
      exact (g.owned (Owns.back g (fun a _ o q => x.h a o q) (fun a o q => x.s a o (x.f a o q)) oj)).2.2 hp
/-- d[k] = v, v stands still -/
def mDPut (i : Nat) (mk mv : Env → Res D) : Env → Out := fun ρ => (mv ρ).out fun v => (getDct i ρ).out fun ds => (mk ρ).out fun k => (ofO (keyOf k)).out fun k => if ds.length < sizeLine then .nx (ρ.set i (some (.dict (putD ds k v)))) else .stk
theorem own_dict' {K : Frag} {F H : Hp} {a : Addr} {ds : List (D × D)} (o : OwnAt K F H a (.dict ds)) : ∃ kvs, H a = some (.dK kvs) ∧ RpK K F kvs ds := by
  rcases o with ⟨vs, ds', e, g, r⟩ | ⟨vs, ds', e, g, r⟩
  · cases e
  · cases e; exact ⟨vs, g, r⟩
theorem ds_dput {i : Nat} {x : Str} {n : Nat} {px p2 : Pos} (hr : Room n X.A) (hk : (κ i).mutb = true) (hN : X.N[i]? = some x) (hv : Vis X.env.scope x) (hb : DE X κ E b mk) (he : DE X κ E e mv) (hs : swapsWith e (some (.Subscript (.Name x px) b p2)) pos.line X.env = pure false := by rfl)
    (hdb : (x == ("__debug__" : Str)) = false := by decide) (hcd : (x == ("__classdict__" : Str)) = false := by decide) : DS X κ E (.Assign [.Subscript (.Name x px) b p2] e pos) (mDPut i mk mv) :=
  (ps_dput (hu_of hr) (pe_var hN hv hdb hcd) hb he hs).imp fun Dn σ H ⟨F0, H0, F, ρ, S, k⟩ => ⟨F0, H0, F, ρ, S, Res.sat_imp (out_sat k) (fun d _ k v F1 H1 x1 rv => by
    obtain ⟨ds, hd, k⟩ := getDct_sat (out_sat k)
    have S1 := S.mono x1
    obtain ⟨a, hs', fa, o⟩ := own_at S1 hk hd
    refine ⟨.ref a, hs', F0, H0, F1, ρ, S1, Res.sat_imp (out_sat k) (fun dk _ k y F2 H2 x2 ry => ?_) fun x z => err_back S1 z⟩
    have S2 := S1.mono x2
    obtain ⟨kk, hkk, k⟩ := ofO_sat (out_sat k)
    obtain ⟨e1, _, ko⟩ := ry.key hkk
    subst e1
    obtain ⟨a', hs2, fa2, o2⟩ := own_at S2 hk hd
    rw [hs'] at hs2
    cases hs2
    obtain ⟨kvs, g, r⟩ := own_dict' o2
    by_cases z : ds.length < sizeLine
    · simp only [if_pos z] at k
      exact ⟨a, _, rfl, DPut.k g (by rw [r.length]; exact z), k _ F2 _ (x1.trans x2).f (S2.mut hk hd hs' (.inr ⟨_, _, rfl, upd_same, r.put ko (rv.mono x2.f)⟩))⟩
    · simp only [if_neg z] at k; exact k.elim) fun x z => err_back S z⟩
/-- d[k] = [..], d a dict of lists of its own -/
def mDPutN (i : Nat) (mk : Env → Res D) (mv : Env → Res (List D)) : Env → Out := fun ρ => (mv ρ).out fun v => (getDct i ρ).out fun ds => (mk ρ).out fun k => (ofO (keyOf k)).out fun k => if ds.length < sizeLine ∧ valD ds k = none then .nx (ρ.set i (some (.dict (putD ds k (.list v))))) else .stk
theorem od_at {K : Frag} {F0 H0 F H : Hp} {σ : L2.St} {ρ : Env} (S : Stt K κ F0 H0 F H σ ρ) {i : Nat} {ds : List (D × D)} (hk : κ i = .od) (h : ρ[i]? = some (some (.dict ds))) :
    ∃ a kvs, σ[i]? = some (some (.ref a)) ∧ H0 a = none ∧ F a = none ∧ H a = some (.dK kvs) ∧ OdK K H0 F H kvs ds ∧ (kvs.map (·.2)).Nodup ∧ (kvs.map (·.1)).Nodup := by
  obtain ⟨v, h1, h2⟩ := S.slot i _ h
  rw [hk] at h2
  obtain ⟨a, kvs, ds', e, h0, f0, e2, g, ok, n1, n2⟩ := h2
  cases e2
  exact ⟨a, kvs, by rw [h1, e], h0, f0, g, ok, n1, n2⟩
theorem putK_none {kvs : List (Key × V)} {k : Key} {v : V} (h : valV kvs k = none) : putK kvs k v = kvs ++ [(k, v)] := putK_new v h
theorem putD_none {ds : List (D × D)} {k : Key} {d : D} (h : valD ds k = none) : putD ds k d = ds ++ [(keyD k, d)] := by
  unfold putD
  have : (ds.any fun p => decide (keyOf p.1 = some k)) = false := by
    unfold valD at h
    have h' := Option.map_eq_none_iff.mp h
    rw [List.find?_eq_none] at h'
    rw [List.any_eq_false]
    exact h'
  rw [this]
  rfl
theorem val_none_key {kvs : List (Key × V)} {k : Key} (h : valV kvs k = none) : k ∉ kvs.map (·.1) := fun hm => by
  obtain ⟨p, hp, e⟩ := List.mem_map.mp hm
  have q := valV_any k kvs
  rw [h] at q
  have q : (kvs.any fun kv => decide (kv.1 = k)) = false := q
  rw [List.any_eq_false] at q
  exact q p hp (by simpa using e)
/-- a new list is laid into a dict of lists at a new key -/
theorem od_new {K : Frag} {F0 H0 F H : Hp} {σ : L2.St} {ρ : Env} (S : Stt K κ F0 H0 F H σ ρ) {i : Nat} {a p : Addr} {kvs : List (Key × V)} {ds : List (D × D)} {k : Key} {vs : List V} {xs : List D} (hk : κ i = .od) (hd : ρ[i]? = some (some (.dict ds))) (hs : σ[i]? = some (some (.ref a)))
    (ko : KeyOk k) (g : H a = some (.dK kvs)) (hn : valV kvs k = none) (hp0 : H0 p = none) (fp : F p = none) (hp : H p = some (.lst vs)) (r : RpA K F vs xs) (hno : ∀ j dj w, ρ[j]? = some (some dj) → σ[j]? = some (some w) → ¬ Owns (κ j) H w p) :
    Stt K κ F0 H0 F (upd H a (.dK (putK kvs k (.ref p)))) σ (ρ.set i (some (.dict (putD ds k (.list xs))))) := by
  obtain ⟨a', kvs', e1, a0, fa, g', ok, n1, n2⟩ := od_at S hk hd
  rw [hs] at e1
  cases e1
  rw [g] at g'
  cases g'
  have hdn : valD ds k = none := by
    rcases ok.val k with h | ⟨b, vs, xs, _, h, _⟩
    · exact h.2
    · rw [hn] at h; cases h
  rw [putK_none hn, putD_none hdn]
  have pa : p ≠ a := fun z => by rw [z, g] at hp; cases hp
  have pk : V.ref p ∉ kvs.map (·.2) := fun z => by
    obtain ⟨⟨q, w⟩, hq, e⟩ := List.mem_map.mp z
    dsimp only at e
    subst e
    exact hno i _ _ hd hs (by rw [hk]; exact .inr ⟨a, kvs, q, rfl, g, hq⟩)
  refine S.chg hd hs (Ex.refl F) (fun b u e => by rw [upd_ne (ne_of_none e fa)]; exact S.sub b u e) S.nf (fun _ h _ => h) (fun b x hx nb => ?_) ?_ fun b ob => ?_
  · rw [upd_ne (fun z => nb (by rw [hk, z]; exact .inl rfl))]; exact hx
  · rw [hk]
    refine ⟨a, _, _, rfl, a0, fa, rfl, upd_same, ?_, ?_, ?_⟩
    · have st : ∀ {kvs kvs2 : List (Key × V)} {ds : List (D × D)}, OdK K H0 F H kvs ds → OdK K H0 F (upd H a (.dK kvs2)) kvs ds := fun {_ _ _} h => h.mono (Ex.refl F) (fun _ h _ => h) fun q b hb o ho => by
        rw [upd_ne (fun z => by obtain ⟨_, _, vs, hv⟩ := h.mem hb; rw [z, g] at hv; cases hv)]; exact ho
      exact (st ok).app (.cons ko hp0 fp (by rw [upd_ne pa]; exact hp) r .nil)
    · rw [List.map_append, List.nodup_append]
      exact ⟨n1, by simp, fun x hx y hy => by rw [List.map_singleton, List.mem_singleton] at hy; rw [hy]; exact fun z => pk (by rw [← show x = V.ref p from z]; exact hx)⟩
    · rw [List.map_append, List.nodup_append]
      exact ⟨n2, by simp, fun x hx y hy => by rw [List.map_singleton, List.mem_singleton] at hy; rw [hy]; exact fun z => val_none_key hn (by rw [← show x = k from z]; exact hx)⟩
  · rw [hk] at ob ⊢
    rcases (show V.ref a = .ref b ∨ ∃ a2 k2 q, V.ref a = .ref a2 ∧ upd H a (.dK (kvs ++ [(k, V.ref p)])) a2 = some (.dK k2) ∧ (q, V.ref b) ∈ k2 from ob) with z | ⟨a2, k2, q, e1, e2, e3⟩
    · exact .inl (.inl z)
    · cases e1
      rw [upd_same] at e2
      cases e2
      rcases List.mem_append.mp e3 with e3 | e3
      · exact .inl (.inr ⟨a, kvs, q, rfl, g, e3⟩)
      · refine .inr fun j dj w nj hj ej => ?_
        have e4 := List.mem_singleton.mp e3
        have e5 : V.ref b = V.ref p := (Prod.mk.inj e4).2
        cases e5
        exact hno j dj w hj ej
end
end WD

/-! dicts: what is asked of them; dicts of lists -/
namespace WD
open PySem PySem.Spec PyProof.Rows L2
open Evl (Ex Ex.refl Ex.trans Ex.new Ex.mut ex_l ex_t fresh_back)
section
variable {X : Cx} {κ : Nat → Kd} {E : EX} {a b c e o : Expr} {es : List Expr} {pos : Pos} {ma mb mc mk mv me : Env → Res D}
theorem Rb.dict {K : Frag} {F H : Hp} {v : V} {ds : List (D × D)} (s : Ex F H) (r : Rb K F H v (.dict ds)) : ∃ a kvs, v = .ref a ∧ Rd H a (.dK kvs) ∧ RpK K F kvs ds := by
  rcases r with r | ⟨a, rfl, ⟨vs, ds', e, g, r⟩ | ⟨vs, ds', e, g, r⟩⟩
  · cases r with
    | dct h a => exact ⟨_, _, rfl, h.imp (s _ _) fun ⟨o, q⟩ => ⟨o, s _ _ q⟩, a⟩
  · cases e
  · cases e; exact ⟨a, vs, rfl, .inl g, r⟩
theorem dget_rd {H : Hp} {a : Addr} {kvs : List (Key × V)} (k : Key) (h : Rd H a (.dK kvs)) : DGet H a (kV k) (valV kvs k) := .inl ⟨kvs, k, h, rfl, rfl⟩
theorem Rb.key {K : Frag} {F H : Hp} {v : V} {d : D} {k : Key} (r : Rb K F H v d) (h : keyOf d = some k) : v = kV k := by
  cases d <;> simp only [keyOf] at h <;> cases h
  · exact r.int
  · exact r.str.1
/-! k in d -/
def rInK : R2 := fun y x H Q => ∃ a o, x = .ref a ∧ DGet H a y o ∧ Q (.bl o.isSome) H
def rNotInK : R2 := fun y x H Q => ∃ a o, x = .ref a ∧ DGet H a y o ∧ Q (.bl (!o.isSome)) H
theorem op_inK (hu : X.A.units + 1 < cLine) : OpR X (compareOp .In) rInK := fun pins s σ H y x v u Q I ry rx ⟨a, o, ex, g, q⟩ => by
  subst ex
  obtain rfl : u = Value.ref a := rx
  exact d_in hu I g ry fun s3 I3 => ⟨.bl o.isSome, H, I3, rfl, q⟩
theorem op_notInK (hu : X.A.units + 1 < cLine) : OpR X (compareOp .NotIn) rNotInK := fun pins s σ H y x v u Q I ry rx ⟨a, o, ex, g, q⟩ => by
  subst ex
  obtain rfl : u = Value.ref a := rx
  exact d_notIn hu I g ry fun s3 I3 => ⟨.bl (!o.isSome), H, I3, rfl, q⟩
def inX (x y : D) : Res D := match y with
  | .dict ds => (ofO (keyOf x)).bind fun k => .ok (.bool (valD ds k).isSome)
  | _ => inD x y
def notInX (x y : D) : Res D := (inX x y).bind fun d => match d with
  | .bool b => .ok (.bool (!b))
  | _ => .stk
theorem inX_ne : ∀ x y z, inX x y ≠ .err z := fun x y z h => by
  unfold inX at h
  split at h
  · exact bind_ne h ofO_ne fun _ h => nomatch h
  · exact inD_ne _ _ _ h
theorem notInX_ne : ∀ x y z, notInX x y ≠ .err z := fun x y z h => by
  unfold notInX at h
  exact bind_ne h (inX_ne _ _ _) fun d h => by cases d <;> cases h
theorem inX_b : ∀ x y d, inX x y = .ok d → ∃ b, d = .bool b := fun x y d h => by
  unfold inX at h
  split at h
  · obtain ⟨k, _, h⟩ := bind_ok h
    cases h; exact ⟨_, rfl⟩
  · exact inD_b _ _ _ h
theorem notInX_b : ∀ x y d, notInX x y = .ok d → ∃ b, d = .bool b := fun x y d h => by
  unfold notInX at h
  obtain ⟨k, _, h⟩ := bind_ok h
  cases k <;> cases h; exact ⟨_, rfl⟩
theorem in_val {K : Frag} {F H : Hp} {x y : V} {dx : D} {ds : List (D × D)} {k : Key} (s : Ex F H) (rx : Rb K F H x dx) (ry : Rb K F H y (.dict ds)) (hk : keyOf dx = some k) : ∃ a o, y = .ref a ∧ DGet H a x o ∧ o.isSome = (valD ds k).isSome := by
  obtain ⟨a, kvs, rfl, h, r⟩ := ry.dict s
  rw [rx.key hk]
  refine ⟨a, _, rfl, dget_rd k h, ?_⟩
  rcases r.val k with ⟨h1, h2⟩ | ⟨v, d, h1, h2, _⟩ <;> rw [h1, h2] <;> rfl
theorem op2_inX {K : Frag} : Op2 K (fun x y H Q => rInA K x y H Q ∨ rInK x y H Q) inX := fun F H x y dx dy s rx ry Q k => by
  unfold inX at k
  split at k
  · rename_i ds
    obtain ⟨kk, hk, k⟩ := ofO_sat (Res.sat_bind k)
    obtain ⟨a, o, e, g, q⟩ := in_val s rx ry hk
    exact .inr ⟨a, o, e, g, by rw [q]; exact k _ F H (Ext.refl s) (.bl _)⟩
  · exact .inl (op2_in F H x y dx dy s rx ry Q k)
theorem op2_notInX {K : Frag} : Op2 K (fun x y H Q => rNotInA K x y H Q ∨ rNotInK x y H Q) notInX := fun F H x y dx dy s rx ry Q k => by
  unfold notInX inX at k
  split at k
  · rename_i ds
    cases hk : keyOf dx with
    | none => rw [hk] at k; exact k.elim
    | some kk =>
      rw [hk] at k
      obtain ⟨a, o, e, g, q⟩ := in_val s rx ry hk
      exact .inr ⟨a, o, e, g, by rw [q]; exact k _ F H (Ext.refl s) (.bl _)⟩
  · exact .inl (op2_notIn F H x y dx _ s rx ry Q k)
theorem de_inX {n : Nat} (hr : Room n X.A) (ha : DB X κ E a ma) (hb : DB X κ E b mb) (hm : behindInMarks .In b = false := by rfl) : DE X κ E (.Compare a [.In] [b] pos) (mBin inX ma mb) := de_cmp (op_inA.or (op_inK (hu_of hr))) op2_inX inX_ne ha hb hm
theorem de_notInX {n : Nat} (hr : Room n X.A) (ha : DB X κ E a ma) (hb : DB X κ E b mb) (hm : behindInMarks .NotIn b = false := by rfl) : DE X κ E (.Compare a [.NotIn] [b] pos) (mBin notInX ma mb) := de_cmp (op_notInA.or (op_notInK (hu_of hr))) op2_notInX notInX_ne ha hb hm
theorem dt_inX {n : Nat} (hr : Room n X.A) (ha : DB X κ E a ma) (hb : DB X κ E b mb) (hm : behindInMarks .In b = false := by rfl) : DT X κ E (.Compare a [.In] [b] pos) (mTru (mBin inX ma mb)) := dt_cmp (op_inA.or (op_inK (hu_of hr))) op2_inX inX_ne inX_b ha hb hm
theorem dt_notInX {n : Nat} (hr : Room n X.A) (ha : DB X κ E a ma) (hb : DB X κ E b mb) (hm : behindInMarks .NotIn b = false := by rfl) : DT X κ E (.Compare a [.NotIn] [b] pos) (mTru (mBin notInX ma mb)) := dt_cmp (op_notInA.or (op_notInK (hu_of hr))) op2_notInX notInX_ne notInX_b ha hb hm
/-! d[k] -/
def rGetK : R2 := fun x y H Q => ∃ a v, x = .ref a ∧ DGet H a y (some v) ∧ Q v H
def getK (d i : D) : Res D := match d with
  | .dict ds => (ofO (keyOf i)).bind fun k => ofO (valD ds k)
  | _ => .stk
def atX (d i : D) : Res D := match d with
  | .dict _ => getK d i
  | _ => atD d i
theorem getK_ne : ∀ x y z, getK x y ≠ .err z := fun x y z h => by
  unfold getK at h
  split at h
  · exact bind_ne h ofO_ne fun _ h => ofO_ne h
  · cases h
theorem op2_getK {K : Frag} : Op2 K rGetK getK := fun F H x y dx dy s rx ry Q k => by
  unfold getK at k
  split at k
  · rename_i ds
    obtain ⟨kk, hk, k⟩ := ofO_sat (Res.sat_bind k)
    obtain ⟨d, hd, k⟩ := ofO_sat k
    obtain ⟨a, kvs, rfl, h, r⟩ := rx.dict s
    rcases r.val kk with ⟨_, h2⟩ | ⟨v, d', h1, h2, r2⟩
    · rw [hd] at h2; cases h2
    · rw [hd] at h2; cases h2
      refine ⟨a, v, rfl, ?_, k v F H (Ext.refl s) r2⟩
      rw [ry.key hk, ← h1]
      exact dget_rd kk h
  · exact k.elim
theorem de_atX {n : Nat} (hr : Room n X.A) (ha : DB X κ E a ma) (hb : DB X κ E b mb) (hs : PlainIx b := by exact fun _ _ => rfl) (hn : NoSl b := by exact fun _ _ => rfl) : DE X κ E (.Subscript a b pos) (mBin atX ma mb) :=
  (pe_or (de_at ha hb hs) (pe_dget (hu_of hr) ha hb hn)).imp fun σ H Q ⟨F0, H0, F, ρ, S, c⟩ => by
    have cs : (∃ ds, ma ρ = .ok (.dict ds)) ∨ mBin atX ma mb ρ = mBin atD ma mb ρ := by
      unfold mBin
      cases ma ρ with
      | ok d => cases d <;> first | exact .inl ⟨_, rfl⟩ | exact .inr rfl
      | err x => exact .inr rfl
      | stk => exact .inr rfl
    rcases cs with ⟨ds, hd⟩ | e
    · have e : mBin atX ma mb ρ = mBin getK ma mb ρ := by
        unfold mBin
        rw [hd]
        rfl
      rw [e] at c
      exact .inr (op2_read op2_getK getK_ne σ H Q ⟨F0, H0, F, ρ, S, c⟩)
    · rw [e] at c
      exact .inl ⟨F0, H0, F, ρ, S, c⟩
/-! d.get(k, x), d.get(k) -/
def mGet2 (md mk mx : Env → Res D) : Env → Res D := fun ρ => (md ρ).bind fun d => match d with
  | .dict ds => (mk ρ).bind fun y => (mx ρ).bind fun z => (ofO (keyOf y)).bind fun k => .ok ((valD ds k).getD z)
  | _ => .stk
def mGet1 (md mk : Env → Res D) : Env → Res D := fun ρ => (md ρ).bind fun d => match d with
  | .dict ds => (mk ρ).bind fun y => (ofO (keyOf y)).bind fun k => .ok ((valD ds k).getD .none)
  | _ => .stk
theorem de_get2 {n : Nat} {apos cpos : Pos} {f : Expr} {mx : Env → Res D} (hr : Room n X.A) (ho : DB X κ E o ma) (he : DE X κ E e mk) (hf : DE X κ E f mx) (m : M2 X o "get" apos e f cpos := by exact ⟨rfl, rfl, rfl, rfl⟩) : DE X κ E (.Call (.Attribute o "get" apos) [e, f] [] cpos) (mGet2 ma mk mx) :=
  (pe_dget2 (hu_of hr) ho he hf m).imp fun σ H Q ⟨F0, H0, F, ρ, S, c⟩ => ⟨F0, H0, F, ρ, S, Res.sat_imp (Res.sat_bind c) (fun d _ k v F1 H1 x1 r1 => by
    split at k
    · rename_i ds
      obtain ⟨a, kvs, rfl, h, r⟩ := r1.dict x1.s
      refine ⟨a, rfl, .inl ⟨kvs, h⟩, F0, H0, F1, ρ, S.mono x1, Res.sat_imp (Res.sat_bind k) (fun y _ k y' F2 H2 x2 r2 => ⟨F0, H0, F2, ρ, (S.mono x1).mono x2, Res.sat_imp (Res.sat_bind k) (fun z _ k z' F3 H3 x3 r3 => ?_) fun x z => z.mono (x1.trans x2)⟩) fun x z => z.mono x1⟩
      obtain ⟨kk, hk, k⟩ := ofO_sat (Res.sat_bind k)
      rw [(r2.key hk).1]
      refine ⟨_, dget_rd kk (h.imp ((x2.trans x3).h _ _) fun ⟨o, q⟩ => ⟨o, (x2.trans x3).h _ _ q⟩), ?_⟩
      rcases (r.mono (x2.trans x3).f).val kk with ⟨h1, h2⟩ | ⟨v, d', h1, h2, r4⟩
      · rw [h2] at k; rw [h1]
        exact k _ F3 H3 (x1.trans (x2.trans x3)) r3
      · rw [h2] at k; rw [h1]
        exact k _ F3 H3 (x1.trans (x2.trans x3)) r4
    · exact k.elim) fun _ z => z⟩
theorem de_get1 {n : Nat} {apos cpos : Pos} (hr : Room n X.A) (ho : DB X κ E o ma) (he : DE X κ E e mk) (m : M1 X o "get" apos e cpos := by exact ⟨rfl, rfl, rfl, rfl⟩) : DE X κ E (.Call (.Attribute o "get" apos) [e] [] cpos) (mGet1 ma mk) :=
  (pe_dget1 (hu_of hr) ho he m).imp fun σ H Q ⟨F0, H0, F, ρ, S, c⟩ => ⟨F0, H0, F, ρ, S, Res.sat_imp (Res.sat_bind c) (fun d _ k v F1 H1 x1 r1 => by
    split at k
    · rename_i ds
      obtain ⟨a, kvs, rfl, h, r⟩ := r1.dict x1.s
      refine ⟨a, rfl, .inl ⟨kvs, h⟩, F0, H0, F1, ρ, S.mono x1, Res.sat_imp (Res.sat_bind k) (fun y _ k y' F2 H2 x2 r2 => ?_) fun x z => z.mono x1⟩
      obtain ⟨kk, hk, k⟩ := ofO_sat (Res.sat_bind k)
      rw [(r2.key hk).1]
      refine ⟨_, dget_rd kk (h.imp (x2.h _ _) fun ⟨o, q⟩ => ⟨o, x2.h _ _ q⟩), ?_⟩
      rcases (r.mono x2.f).val kk with ⟨h1, h2⟩ | ⟨v, d', h1, h2, r4⟩
      · rw [h2] at k; rw [h1]
        exact k _ F2 H2 (x1.trans x2) .non
      · rw [h2] at k; rw [h1]
        exact k _ F2 H2 (x1.trans x2) r4
    · exact k.elim) fun _ z => z⟩
/-! list(d) -/
def seqX : D → Res (List D)
  | .dict ds => .ok (ds.map (·.1))
  | d => seqD d
def mSeqX (m : Env → Res D) : Env → Res (List D) := fun ρ => (m ρ).bind seqX
def rListK : List V → Hp → VK → Prop := fun xs H Q => ∃ p kvs, xs = [.ref p] ∧ Rd H p (.dK kvs) ∧ ∀ q, H q = none → Q (.ref q) (upd H q (.lst (kvs.map fun kv => kV kv.1)))
theorem call_listK (hc : X.calm = true) : CallR X (.type "list") rListK := fun pins s σ H xs us Q I r ⟨p, kvs, e, hk, q⟩ => by
  subst e
  obtain ⟨u, eu, rx⟩ := vals1 r
  subst eu
  cases (show u = Value.ref p from rx)
  obtain ⟨z, lo, vs, rk, hd⟩ := dk_rd I.hok hk
  obtain ⟨ep, hat⟩ := hd.dictAt
  have hl : kvs.length = vs.length := Paired.length rk
  refine PySem.W.kdl_call (PySem.W.kdl_dict (knd := mixKind X.prog X.w) (kvs := vs) (ep := ep) lo) (I.ok.hd hc) hat (hl ▸ z) fun h2 tk acc c keep hS hacc => ?_
  have ha := hacc.1
  refine ⟨.ref s.heap.objs.size, _, I.laid (a := s.heap.objs.size) (o := .lst (kvs.map fun kv => kV kv.1)) (h' := h2) (t' := tk) keep (Nat.le_refl _) ⟨by rw [List.length_map]; exact z, acc.toList, c, vals_of_at (by rw [List.length_map, hl, ← ha]; exact (Array.length_toList).symm) fun j x w h1 h3 => ?_, by rw [Array.toArray_toList]; exact hS⟩, rfl, q _ (I.hok.fresh (Nat.le_refl _))⟩
  obtain ⟨k, y, hky, hi⟩ := hacc.2 j w ((Array.getElem?_toList).symm.trans h3)
  have e1 : (kvs.map (·.1))[j]? = some k := by rw [KV.keys rk, List.getElem?_map, hky]; rfl
  have e2 : (kvs.map fun kv => kV kv.1)[j]? = some (kV k) := by
    rw [List.getElem?_map] at e1 ⊢
    obtain ⟨kv, hkv, rfl⟩ := Option.map_eq_some_iff.mp e1
    rw [hkv]; rfl
  rw [e2] at h1
  cases h1
  exact keyIs_rel hi
theorem key_rp {K : Frag} {F : Hp} {k : Key} (h : KeyOk k) : Rp K F (kV k) (keyD k) := by
  cases k with
  | inl i => exact .int i
  | inr x => exact .str x h
theorem RpK.keysA {K : Frag} {F : Hp} : ∀ {kvs : List (Key × V)} {ds : List (D × D)}, RpK K F kvs ds → RpA K F (kvs.map fun kv => kV kv.1) (ds.map (·.1))
  | _, _, .nil => .nil
  | _, _, .cons (k := k) ko h a => .cons (key_rp ko) (RpK.keysA a)
theorem dn_listX {p : Pos} (hc : X.calm = true) (hg : Gl X "list") (hm : X.mg "list" = none) (ha : DB X κ E e ma) (hv : bootBuiltins "list" = some (.type "list") := by decide +kernel) (he : starEach [e] X.env = (false, eval e X.env) :: starEach [] X.env := by rfl) (hpl : (backTo pos (starEach [] X.env)).any (·.1) = false := by rfl) : DN X κ E (.Call (.Name "list" p) [e] [] pos) (mSeqX ma) :=
  (pe_or (dn_list hg hm ha hv he hpl) (pe_callTy (call_listK hc) hg hm hv (pa_cons ha pa_nil he) (by decide) (by decide) he hpl)).imp fun σ H Q ⟨F0, H0, F, ρ, S, c⟩ => by
    have cs : (∃ ds, ma ρ = .ok (.dict ds)) ∨ mSeqX ma ρ = mSeq1 ma ρ := by
      unfold mSeqX mSeq1
      cases ma ρ with
      | ok d => cases d <;> first | exact .inl ⟨_, rfl⟩ | exact .inr rfl
      | err x => exact .inr rfl
      | stk => exact .inr rfl
    rcases cs with ⟨ds, hd⟩ | e
    · have e : mSeqX ma ρ = .ok (ds.map (·.1)) := by unfold mSeqX; rw [hd]; rfl
      rw [e] at c
      refine .inr ⟨F0, H0, F, ρ, S, ?_⟩
      rw [hd]
      intro v F' H' x r
      obtain ⟨a, kvs, rfl, h, rk⟩ := r.dict x.s
      exact ⟨a, kvs, rfl, h, fun q hq => c q _ F' _ (x.trans (.newO x.s hq)) (fresh_back x.h hq) (none_of_ex x.s hq) upd_same rk.keysA⟩
    · rw [e] at c
      exact .inl ⟨F0, H0, F, ρ, S, c⟩
/-! a dict of lists of its own: the list at a key grows -/
def lstAt (ds : List (D × D)) (k : Key) : Res (List D) := match valD ds k with
  | some (.list xs) => .ok xs
  | _ => .stk
theorem putD_some {ds : List (D × D)} {k : Key} {d e : D} (h : valD ds k = some e) : putD ds k d = ds.map fun p => if keyOf p.1 = some k then (p.1, d) else p := by
  unfold putD
  rw [if_pos]
  unfold valD at h
  obtain ⟨p, hp, _⟩ := Option.map_eq_some_iff.mp h
  rw [List.any_eq_true]
  have q := List.find?_some hp
  exact ⟨p, List.mem_of_find?_eq_some hp, q⟩
theorem od_grow {K : Frag} {F0 H0 F H : Hp} {σ : L2.St} {ρ : Env} (S : Stt K κ F0 H0 F H σ ρ) {i : Nat} {ds : List (D × D)} {k : Key} {xs : List D} (hk : κ i = .od) (hd : ρ[i]? = some (some (.dict ds))) (hv : valD ds k = some (.list xs)) :
    ∃ a kvs b vs, σ[i]? = some (some (.ref a)) ∧ H a = some (.dK kvs) ∧ kvs.length = ds.length ∧ valV kvs k = some (.ref b) ∧ H b = some (.lst vs) ∧ RpA K F vs xs ∧ ∀ F' H' vs' xs', Ext F H F' H' → RpA K F' vs' xs' → Stt K κ F0 H0 F' (upd H' b (.lst vs')) σ (ρ.set i (some (.dict (putD ds k (.list xs'))))) := by
  obtain ⟨a, kvs, e1, a0, fa, g, ok, n1, n2⟩ := od_at S hk hd
  rcases ok.val k with ⟨_, h⟩ | ⟨b, vs, ys, hm, h1, h2, h3, h4, h5, h6⟩
  · rw [hv] at h; cases h
  · rw [hv] at h2
    cases h2
    refine ⟨a, kvs, b, vs, e1, g, ok.length.symm, h1, h5, h6, fun F' H' vs' xs' x r => ?_⟩
    have S' := S.mono x
    obtain ⟨a', kvs', e1', a0', fa', g', ok', n1', n2'⟩ := od_at S' hk hd
    rw [e1] at e1'
    cases e1'
    rw [x.h _ _ g] at g'
    cases g'
    have fb : F' b = none := x.o b h4 (some_ne h5)
    have own : Owns (κ i) H' (.ref a) b := by rw [hk]; exact .inr ⟨a, kvs, k, rfl, x.h _ _ g, hm⟩
    have ba : a ≠ b := fun z => by rw [z, h5] at g; cases g
    rw [putD_some hv]
    refine S'.chg hd e1 (Ex.refl F') (fun c u e => by rw [upd_ne (ne_of_none e fb)]; exact S'.sub c u e) S'.nf (fun _ h _ => h) (fun c y hy nb => ?_) ?_ fun c oc => .inl ?_
    · rw [upd_ne (fun z => nb (by rw [z]; exact own))]; exact hy
    · rw [hk]
      exact ⟨a, kvs, _, rfl, a0', fa', rfl, by rw [upd_ne ba]; exact x.h _ _ g, ok'.chg r n1' n2' hm, n1', n2'⟩
    · rw [hk] at oc ⊢
      rcases (show V.ref a = .ref c ∨ ∃ a2 k2 q, V.ref a = .ref a2 ∧ upd H' b (.lst vs') a2 = some (.dK k2) ∧ (q, V.ref c) ∈ k2 from oc) with z | ⟨a2, k2, q, e3, e4, e5⟩
      · exact .inl z
      · cases e3
        rw [upd_ne ba] at e4
        exact .inr ⟨a, k2, q, rfl, e4, e5⟩
/-- what is done to the list at k: append, extend -/
def finApp (i : Nat) (mv : Env → Res D) (k : Key) : Env → Out := fun ρ => (getDct i ρ).out fun ds => (lstAt ds k).out fun xs => (mv ρ).out fun d => if xs.length < sizeLine then .nx (ρ.set i (some (.dict (putD ds k (.list (xs ++ [d])))))) else .stk
def finExt (i : Nat) (mv : Env → Res D) (k : Key) : Env → Out := fun ρ => (getDct i ρ).out fun ds => (lstAt ds k).out fun xs => (mv ρ).out fun d => (seqD d).out fun es => if xs.length + es.length ≤ sizeLine then .nx (ρ.set i (some (.dict (putD ds k (.list (xs ++ es)))))) else .stk
theorem lstAt_sat {ds : List (D × D)} {k : Key} {P : List D → Prop} {R : Exn → Prop} (h : (lstAt ds k).sat P R) : ∃ xs, valD ds k = some (.list xs) ∧ P xs := by
  unfold lstAt at h
  split at h
  · rename_i xs e; exact ⟨xs, e, h⟩
  · exact h.elim
theorem fin_app {i : Nat} {mg : Mg} {K : Frag} {k : Key} {F0 H0 F H : Hp} {σ : L2.St} {ρ : Env} {Dn : Ends} (hk : κ i = .od) (S : Stt K κ F0 H0 F H σ ρ) (c : OutOk mg K κ E F0 H0 F H Dn (finApp i mv k ρ)) :
    ∃ a kvs b vs, σ[i]? = some (some (.ref a)) ∧ H a = some (.dK kvs) ∧ valV kvs k = some (.ref b) ∧ H b = some (.lst vs) ∧ tCons (rdE mg K κ E mv) tNil σ H fun zs H2 => rAppend (.ref b) zs H2 fun _ H3 => Dn.nx σ H3 := by
  obtain ⟨ds, hd, c⟩ := getDct_sat (out_sat c)
  obtain ⟨xs, hv, c⟩ := lstAt_sat (out_sat c)
  obtain ⟨a, kvs, b, vs, h1, h2, hlen, h3, h4, h5, gr⟩ := od_grow S hk hd hv
  refine ⟨a, kvs, b, vs, h1, h2, h3, h4, F0, H0, F, ρ, S, Res.sat_imp (out_sat c) (fun d _ c v F' H' x r => ?_) fun x z => err_back S z⟩
  by_cases z : xs.length < sizeLine
  · simp only [if_pos z] at c
    exact ⟨b, vs, v, rfl, rfl, x.h _ _ h4, by rw [h5.length]; exact z, c _ F' _ x.f (gr F' H' _ _ x ((h5.mono x.f).append (.cons r .nil)))⟩
  · simp only [if_neg z] at c; exact c.elim
theorem fin_ext {i : Nat} {mg : Mg} {K : Frag} {k : Key} {F0 H0 F H : Hp} {σ : L2.St} {ρ : Env} {Dn : Ends} (hk : κ i = .od) (S : Stt K κ F0 H0 F H σ ρ) (c : OutOk mg K κ E F0 H0 F H Dn (finExt i mv k ρ)) :
    ∃ a kvs b vs, σ[i]? = some (some (.ref a)) ∧ H a = some (.dK kvs) ∧ valV kvs k = some (.ref b) ∧ H b = some (.lst vs) ∧ tCons (rdE mg K κ E mv) tNil σ H fun zs H2 => rExtA K (.ref b) zs H2 fun _ H3 => Dn.nx σ H3 := by
  obtain ⟨ds, hd, c⟩ := getDct_sat (out_sat c)
  obtain ⟨xs, hv, c⟩ := lstAt_sat (out_sat c)
  obtain ⟨a, kvs, b, vs, h1, h2, hlen, h3, h4, h5, gr⟩ := od_grow S hk hd hv
  refine ⟨a, kvs, b, vs, h1, h2, h3, h4, F0, H0, F, ρ, S, Res.sat_imp (out_sat c) (fun d _ c v F' H' x r => ?_) fun x z => err_back S z⟩
  obtain ⟨es, hse, c⟩ := seqD_sat (out_sat c)
  obtain ⟨q, ws, rfl, hq, rs⟩ := r.seq hse
  by_cases z : xs.length + es.length ≤ sizeLine
  · simp only [if_pos z] at c
    exact ⟨b, q, vs, ws, rfl, rfl, x.h _ _ h4, ex_lt x.s hq, by rw [h5.length, rs.length]; exact z, c _ F' _ x.f (gr F' H' _ _ x ((h5.mono x.f).append rs))⟩
  · simp only [if_neg z] at c; exact c.elim
/-- d[k].append(v), d[k].extend(v) -/
def mDL (i : Nat) (mk : Env → Res D) (fin : Key → Env → Out) : Env → Out := fun ρ => (getDct i ρ).out fun _ => (mk ρ).out fun dk => (ofO (keyOf dk)).out fun k => fin k ρ
/-- d.setdefault(k, []).append(v), .. -/
def mDSet (i : Nat) (mk : Env → Res D) (fin : Key → Env → Out) : Env → Out := fun ρ => (getDct i ρ).out fun ds => (mk ρ).out fun dk => (ofO (keyOf dk)).out fun k => if ds.length < sizeLine then (match valD ds k with
  | none => fin k (ρ.set i (some (.dict (putD ds k (.list [])))))
  | some _ => fin k ρ) else .stk
/-- what the end of such a statement asks of the list at b -/
def FinR (X : Cx) (κ : Nat → Kd) (E : EX) (i : Nat) (r : V → List V → Hp → VK → Prop) (ta : TA) (fin : Key → Env → Out) : Prop := ∀ (k : Key) (F0 H0 F H : Hp) (σ : L2.St) (ρ : Env) (Dn : Ends), Stt X.K κ F0 H0 F H σ ρ → OutOk X.mg X.K κ E F0 H0 F H Dn (fin k ρ) →
  ∃ a kvs b vs, σ[i]? = some (some (.ref a)) ∧ H a = some (.dK kvs) ∧ valV kvs k = some (.ref b) ∧ H b = some (.lst vs) ∧ ta σ H fun zs H2 => r (.ref b) zs H2 fun _ H3 => Dn.nx σ H3
theorem ds_dl {i : Nat} {x m : Str} {n : Nat} {px p2 apos cpos : Pos} {r : V → List V → Hp → VK → Prop} {ta : TA} {fin : Key → Env → Out} (hr : Room n X.A) (hk : κ i = .od) (hN : X.N[i]? = some x) (hv : Vis X.env.scope x) (hb : DE X κ E b mk) (hfin : FinR X κ E i r ta fin)
    (hx : ∀ {to : TE}, PE X (.Subscript (.Name x px) b p2) to → PE X (.Call (.Attribute (.Subscript (.Name x px) b p2) m apos) [e] [] cpos) (tBM X.K "list" r to ta)) (hn : NoSl b := by exact fun _ _ => rfl)
    (hs : swapsWith (.Call (.Attribute (.Subscript (.Name x px) b p2) m apos) [e] [] cpos) none pos.line X.env = pure false := by rfl) (hdb : (x == ("__debug__" : Str)) = false := by decide) (hcd : (x == ("__classdict__" : Str)) = false := by decide) :
    DS X κ E (.Expr (.Call (.Attribute (.Subscript (.Name x px) b p2) m apos) [e] [] cpos) pos) (mDL i mk fin) :=
  (ps_expr (hx (pe_dget (hu_of hr) (pe_var hN hv hdb hcd) hb hn)) hs).imp fun Dn σ H ⟨F0, H0, F, ρ, S, c⟩ => by
    obtain ⟨ds, hd, c⟩ := getDct_sat (out_sat c)
    obtain ⟨a0, kvs0, s0, _⟩ := od_at S hk hd
    refine ⟨.ref a0, s0, F0, H0, F, ρ, S, Res.sat_imp (out_sat c) (fun dk _ c y F1 H1 x1 ry => ?_) fun x z => err_back S z⟩
    obtain ⟨k, hkk, c⟩ := ofO_sat (out_sat c)
    obtain ⟨a, kvs, b', vs, h1, h2, h3, h4, h5⟩ := hfin k F0 H0 F1 H1 σ ρ Dn (S.mono x1) (OutOk.mono (H := H) x1.f c)
    rw [s0] at h1
    cases h1
    rw [(ry.key hkk).1]
    exact ⟨a0, .ref b', rfl, by rw [← h3]; exact DGet.k h2, .inl ⟨rfl, vs, Evl.sq_of h4⟩, h5⟩
theorem ds_dset {i : Nat} {x m : Str} {px p3 apos apos2 cpos cpos2 : Pos} {r : V → List V → Hp → VK → Prop} {ta : TA} {fin : Key → Env → Out} (hk : κ i = .od) (hN : X.N[i]? = some x) (hv : Vis X.env.scope x) (hb : DE X κ E b mk) (hfin : FinR X κ E i r ta fin)
    (hx : ∀ {to : TE}, PE X (.Call (.Attribute (.Name x px) "setdefault" apos) [b, .List [] p3] [] cpos) to → PE X (.Call (.Attribute (.Call (.Attribute (.Name x px) "setdefault" apos) [b, .List [] p3] [] cpos) m apos2) [e] [] cpos2) (tBM X.K "list" r to ta))
    (m2 : M2 X (.Name x px) "setdefault" apos b (.List [] p3) cpos := by exact ⟨rfl, rfl, rfl, rfl⟩)
    (hs : swapsWith (.Call (.Attribute (.Call (.Attribute (.Name x px) "setdefault" apos) [b, .List [] p3] [] cpos) m apos2) [e] [] cpos2) none pos.line X.env = pure false := by rfl) (hdb : (x == ("__debug__" : Str)) = false := by decide) (hcd : (x == ("__classdict__" : Str)) = false := by decide) :
    DS X κ E (.Expr (.Call (.Attribute (.Call (.Attribute (.Name x px) "setdefault" apos) [b, .List [] p3] [] cpos) m apos2) [e] [] cpos2) pos) (mDSet i mk fin) :=
  (ps_expr (hx (pe_dsetd (pe_var hN hv hdb hcd) hb (dn_lst (κ := κ) (E := E) da_nil) m2)) hs).imp fun Dn σ H ⟨F0, H0, F, ρ, S, c⟩ => by
    obtain ⟨ds, hd, c⟩ := getDct_sat (out_sat c)
    obtain ⟨a, kvs, s0, a0, fa, g, ok, n1, n2⟩ := od_at S hk hd
    refine ⟨.ref a, s0, a, rfl, .inl ⟨kvs, .inl g⟩, F0, H0, F, ρ, S, Res.sat_imp (out_sat c) (fun dk _ c y F1 H1 x1 ry => ?_) fun x z => err_back S z⟩
    obtain ⟨k, hkk, c⟩ := ofO_sat (out_sat c)
    obtain ⟨ey, _, ko⟩ := ry.key hkk
    subst ey
    have S1 := S.mono x1
    by_cases z : ds.length < sizeLine
    · simp only [if_pos z] at c
      refine ⟨F0, H0, F1, ρ, S1, ?_⟩
      have em : mLst mNil ρ = .ok [] := by
        have h0 : ([] : List D).length ≤ sizeLine := Nat.zero_le _
        show (if ([] : List D).length ≤ sizeLine then Res.ok [] else .stk) = _
        rw [if_pos h0]
      rw [em]
      intro p vs F2 H2 x2 hp fp hv2 rv
      cases rv
      have S2 := S1.mono x2
      have g2 : H2 a = some (.dK kvs) := (x1.trans x2).h _ _ g
      refine ⟨kvs, k, g2, rfl, by rw [← ok.length]; exact z, fun v hv3 => ?_, fun hn => ?_⟩
      · rcases ok.val k with ⟨q, _⟩ | ⟨b', vs', xs', hm, h1, h2, _⟩
        · rw [hv3] at q; cases q
        · rw [hv3] at h1
          cases h1
          simp only [h2] at c
          obtain ⟨a', kvs', b2, vs2, e1, e2, e3, e4, e5⟩ := hfin k F0 H0 F2 H2 σ ρ Dn S2 (OutOk.mono (H := H) (x1.trans x2).f c)
          rw [s0] at e1; cases e1
          rw [g2] at e2; cases e2
          rw [hv3] at e3; cases e3
          exact ⟨.inl ⟨rfl, vs2, Evl.sq_of e4⟩, e5⟩
      · have hdn : valD ds k = none := by
          rcases ok.val k with h | ⟨b', vs', xs', _, h, _⟩
          · exact h.2
          · rw [hn] at h; cases h
        simp only [hdn] at c
        have hno : ∀ j dj w, ρ[j]? = some (some dj) → σ[j]? = some (some w) → ¬ Owns (κ j) H2 w p := fun j dj w hj ej ow =>
          ((S1.slotAt hj ej).owned (Owns.back (S1.slotAt hj ej) (fun a _ o q => x2.h a o q) (fun a o q => x2.s a o (x2.f a o q)) ow)).2.2 hp
        have S3 := od_new (vs := []) (xs := []) S2 hk hd s0 ko g2 hn (fresh_back S1.h0 hp) fp hv2 .nil hno
        obtain ⟨a', kvs', b2, vs2, e1, e2, e3, e4, e5⟩ := hfin k F0 H0 F2 _ σ _ Dn S3 (OutOk.mono (H := H) (x1.trans x2).f c)
        rw [s0] at e1; cases e1
        rw [upd_same] at e2; cases e2
        rw [valV_put, if_pos rfl] at e3
        cases e3
        exact ⟨.inl ⟨rfl, vs2, Evl.sq_of e4⟩, e5⟩
    · simp only [if_neg z] at c; exact c.elim
end
end WD

/-! glue for the generator -/
namespace WD
open PySem PySem.Spec PyProof.Rows L2
open Evl (Ex Ex.refl Ex.trans Ex.new Ex.mut ex_l ex_t fresh_back)
/-- kinds of slots by a list -/
def kdT (l : List (Nat × Kd)) : Nat → Kd := fun i => (l.lookup i).getD .im
theorem tkx {P : Program} {w : World} {K : PySem.W.Frag} {mg : Str → Option Value} {base : Heap} {N : List Str} {qual : Str} {scope : Scope} {f : Addr} {cd : Value} {A : Around} {outer : List PySem.Env} {s : Shared} {H : Hp} {E : XK} :
    L2N.Takes (cxOf (L2N.CX P w) P w K mg base N qual scope f cd A outer s H E) (fun cls d σ H => (eX K E).err σ cls d H)   := L2N.takes_of rfl rfl rfl rfl
section
variable {X : Cx} {κ : Nat → Kd} {E : EX} {e : Expr} {mv : Env → Res D}
theorem fr_app {i : Nat} (hk : κ i = .od := by rfl) : FinR X κ E i rAppend (tCons (rdE X.mg X.K κ E mv) tNil) (finApp i mv) := fun k F0 H0 F H σ ρ Dn S c => fin_app hk S c
theorem fr_ext {i : Nat} (hk : κ i = .od := by rfl) : FinR X κ E i (rExtA X.K) (tCons (rdE X.mg X.K κ E mv) tNil) (finExt i mv) := fun k F0 H0 F H σ ρ Dn S c => fin_ext hk S c
end
theorem sg_raiseX {x : Str} {fs : List Str} {ma : Env → Res (List D)} : Straight (mRaise x fs ma) := fun ρ => sg_out fun ds => by
  by_cases h : ds.length = fs.length
  · simp only [if_pos h]; exact sg_err
  · simp only [if_neg h]; exact sg_stk
theorem sg_raise0 {y : Exn} : Straight (fun _ => .err y) := fun _ => sg_err
theorem sg_setD0 {i : Nat} : Straight (fun ρ => .nx (ρ.set i (some (.dict [])))) := fun _ => sg_nx
theorem sg_ite {c : Prop} [Decidable c] {a b : Out} (ha : (∀ ρ', a ≠ .bk ρ') ∧ ∀ ρ', a ≠ .ct ρ') (hb : (∀ ρ', b ≠ .bk ρ') ∧ ∀ ρ', b ≠ .ct ρ') : (∀ ρ', (if c then a else b) ≠ .bk ρ') ∧ ∀ ρ', (if c then a else b) ≠ .ct ρ' := by
  split <;> assumption
theorem sg_dput {i : Nat} {mk mv : Env → Res D} : Straight (mDPut i mk mv) := fun ρ => sg_out fun _ => sg_out fun _ => sg_out fun _ => sg_out fun _ => sg_ite sg_nx sg_stk
theorem sg_finApp {i : Nat} {mv : Env → Res D} {k : Key} : Straight (finApp i mv k) := fun ρ => sg_out fun _ => sg_out fun _ => sg_out fun _ => sg_ite sg_nx sg_stk
theorem sg_finExt {i : Nat} {mv : Env → Res D} {k : Key} : Straight (finExt i mv k) := fun ρ => sg_out fun _ => sg_out fun _ => sg_out fun _ => sg_out fun _ => sg_ite sg_nx sg_stk
theorem sg_dl {i : Nat} {mk : Env → Res D} {fin : Key → Env → Out} (h : ∀ k, Straight (fin k)) : Straight (mDL i mk fin) := fun ρ => sg_out fun _ => sg_out fun _ => sg_out fun k => h k ρ
theorem sg_dset {i : Nat} {mk : Env → Res D} {fin : Key → Env → Out} (h : ∀ k, Straight (fin k)) : Straight (mDSet i mk fin) := fun ρ => sg_out fun ds => sg_out fun _ => sg_out fun k => sg_ite (by
  split <;> exact h k _) sg_stk
/-- __init__ in a class's text -/
def iniOf : Stmt → Stmt
  | .ClassDef (body := b) .. => b.headD (.Pass ⟨0, 0, 0, 0⟩)
  | s => s
/-! the tables -/
def tblOf (l : List ((Str × Str) × Bool)) : Tbl := fun x c => (l.find? fun p => p.1.1 == x && p.1.2 == c).map (·.2)
theorem tblOf_mem {l : List ((Str × Str) × Bool)} {x c : Str} {b : Bool} (h : tblOf l x c = some b) : ((x, c), b) ∈ l := by
  unfold tblOf at h
  obtain ⟨p, hp, rfl⟩ := Option.map_eq_some_iff.mp h
  have q := List.find?_some hp
  obtain ⟨q1, q2⟩ := Bool.and_eq_true_iff.mp q
  have e1 := eq_of_beq q1
  have e2 := eq_of_beq q2
  have := List.mem_of_find?_eq_some hp
  rw [← e1, ← e2]
  exact this
theorem tbl_ok {K : Frag} {mg : Mg} {l : List ((Str × Str) × Bool)} (h : ∀ p ∈ l, ∀ C, mg p.1.1 = some (.ref C) → ∃ cv, mg p.1.2 = some cv ∧ PySem.W.exmOne K (.ref C) cv = some p.2) : TblOk K mg (tblOf l) := fun x c b e C hC => h _ (tblOf_mem e) C hC
theorem is_ok {K : Frag} {mg : Mg} {l : List ((Str × Str) × Bool)}
    (h : ∀ p ∈ l, ∀ C, mg p.1.1 = some (.ref C) → ExcC K C ∧ ∃ c cv, ClsV c cv ∧ RelV c cv ∧ (mg p.1.2 = some cv ∨ (mg p.1.2 = none ∧ bootBuiltins p.1.2 = some cv ∧ p.1.2 ≠ "__name__")) ∧ PySem.W.kitOne K (.ref C) cv = some p.2) : IsOk K mg (tblOf l) := fun x c b e C hC => h _ (tblOf_mem e) C hC
section
variable {K : Frag} {mg : Mg}
theorem tbl_nil {Q : (Str × Str) × Bool → Prop} : ∀ p ∈ ([] : List ((Str × Str) × Bool)), Q p := fun _ h => by simp at h
theorem tbl_cons {c d : Str} {b : Bool} {l : List ((Str × Str) × Bool)} {Cc Cd : Addr} (h1 : mg c = some (.ref Cc)) (h2 : mg d = some (.ref Cd)) (e : PySem.W.exmOne K (.ref Cc) (.ref Cd) = some b)
    (r : ∀ p ∈ l, ∀ C, mg p.1.1 = some (.ref C) → ∃ cv, mg p.1.2 = some cv ∧ PySem.W.exmOne K (.ref C) cv = some p.2) : ∀ p ∈ ((c, d), b) :: l, ∀ C, mg p.1.1 = some (.ref C) → ∃ cv, mg p.1.2 = some cv ∧ PySem.W.exmOne K (.ref C) cv = some p.2 := fun p hp C hC => by
  rcases List.mem_cons.mp hp with rfl | hp
  · have e1 := h1.symm.trans hC
    cases e1
    exact ⟨_, h2, e⟩
  · exact r p hp C hC
theorem is_cons {c d : Str} {b : Bool} {l : List ((Str × Str) × Bool)} {Cc Cd : Addr} (T : ExcC K Cc) (h1 : mg c = some (.ref Cc)) (h2 : mg d = some (.ref Cd)) (e : PySem.W.kitOne K (.ref Cc) (.ref Cd) = some b)
    (r : ∀ p ∈ l, ∀ C, mg p.1.1 = some (.ref C) → ExcC K C ∧ ∃ c cv, ClsV c cv ∧ RelV c cv ∧ (mg p.1.2 = some cv ∨ (mg p.1.2 = none ∧ bootBuiltins p.1.2 = some cv ∧ p.1.2 ≠ "__name__")) ∧ PySem.W.kitOne K (.ref C) cv = some p.2) :
    ∀ p ∈ ((c, d), b) :: l, ∀ C, mg p.1.1 = some (.ref C) → ExcC K C ∧ ∃ c cv, ClsV c cv ∧ RelV c cv ∧ (mg p.1.2 = some cv ∨ (mg p.1.2 = none ∧ bootBuiltins p.1.2 = some cv ∧ p.1.2 ≠ "__name__")) ∧ PySem.W.kitOne K (.ref C) cv = some p.2 := fun p hp C hC => by
  rcases List.mem_cons.mp hp with rfl | hp
  · have e1 := h1.symm.trans hC
    cases e1
    exact ⟨T, _, _, .own Cd, rfl, .inl h2, e⟩
  · exact r p hp C hC
theorem is_consB {c d : Str} {T' : String} {b : Bool} {l : List ((Str × Str) × Bool)} {Cc : Addr} (T : ExcC K Cc) (h1 : mg c = some (.ref Cc)) (h2 : mg d = none) (hv : bootBuiltins d = some (.type T')) (hn : d ≠ "__name__") (e : PySem.W.kitOne K (.ref Cc) (.type T') = some b)
    (r : ∀ p ∈ l, ∀ C, mg p.1.1 = some (.ref C) → ExcC K C ∧ ∃ c cv, ClsV c cv ∧ RelV c cv ∧ (mg p.1.2 = some cv ∨ (mg p.1.2 = none ∧ bootBuiltins p.1.2 = some cv ∧ p.1.2 ≠ "__name__")) ∧ PySem.W.kitOne K (.ref C) cv = some p.2) :
    ∀ p ∈ ((c, d), b) :: l, ∀ C, mg p.1.1 = some (.ref C) → ExcC K C ∧ ∃ c cv, ClsV c cv ∧ RelV c cv ∧ (mg p.1.2 = some cv ∨ (mg p.1.2 = none ∧ bootBuiltins p.1.2 = some cv ∧ p.1.2 ≠ "__name__")) ∧ PySem.W.kitOne K (.ref C) cv = some p.2 := fun p hp C hC => by
  rcases List.mem_cons.mp hp with rfl | hp
  · have e1 := h1.symm.trans hC
    cases e1
    exact ⟨T, _, _, .ty T', rfl, .inr ⟨h2, hv, hn⟩, e⟩
  · exact r p hp C hC
theorem xf_nil {fs : List Str} : XfOk K mg [] fs := fun _ h => by simp at h
theorem xf_cons {c : Str} {cs fs : List Str} {Cc : Addr} (h1 : mg c = some (.ref Cc)) (T : XfC K Cc) (hf : ∀ f ∈ fs, PySem.W.findIn K (.ref Cc) f = some none) (r : XfOk K mg cs fs) : XfOk K mg (c :: cs) fs := fun x hx C hC => by
  rcases List.mem_cons.mp hx with rfl | hx
  · have e1 := h1.symm.trans hC
    cases e1
    exact ⟨T, hf⟩
  · exact r x hx C hC
theorem all_nil {P : Str → Prop} : ∀ f ∈ ([] : List Str), P f := fun _ h => by simp at h
theorem all_cons {P : Str → Prop} {f : Str} {fs : List Str} (h : P f) (r : ∀ g ∈ fs, P g) : ∀ g ∈ f :: fs, P g := fun g hg => by
  rcases List.mem_cons.mp hg with rfl | hg
  · exact h
  · exact r g hg
theorem hcl_nil : ∀ n ∈ ([] : List Sut), ∃ cv, mg n.cls = some cv := fun _ h => by simp at h
theorem hcl_cons {c : Str} {i : Nat} {m : Str → Env → Out} {l : List Sut} (h : ∃ cv, mg c = some cv) (r : ∀ n ∈ l, ∃ cv, mg n.cls = some cv) : ∀ n ∈ (⟨c, i, m⟩ : Sut) :: l, ∃ cv, mg n.cls = some cv := fun n hn => by
  rcases List.mem_cons.mp hn with rfl | hn
  · exact h
  · exact r n hn
end
def mXfc (cs : List Str) (cn : Str) (i : Nat) (f : Str) : Env → Res D := fun ρ => if cs.contains cn = true then mXf i f ρ else .stk
theorem de_xfc {X : Cx} {E : EX} {a : Addr} {oe : Obj} {C : Addr} {cn : Str} {d : Option Addr} {pn : List (Addr × Obj)} {i : Nat} {n f : Str} {p pos : Pos} {cs fs : List Str} {κ' : Nat → Kd} (T : XfOk X.K X.mg cs fs) (hm : X.mg cn = some (.ref C)) (hz : Zc (.ref C) d oe) (hf : ∃ vs, oe.data = .fields vs)
    (hk : κ' i = .xn a d) (hN : X.N[i]? = some n) (hv : Vis X.env.scope n) (hff : fs.contains f = true) (hdb : (n == ("__debug__" : Str)) = false := by decide) (hcd : (n == ("__classdict__" : Str)) = false := by decide)
    (hb : attributeBase (.Name n p) f X.env (eval (.Name n p) X.env) = eval (.Name n p) X.env := by rfl) :
    DE (X.suite a ((a, oe) :: pn)) κ' E (.Attribute (.Name n p) f pos) (mXfc cs cn i f) := de_xf T hm hz hf hk hN hv hff hdb hcd hb
section
variable {X : Cx} {κ : Nat → Kd} {E : EX} {a b e : Expr} {pos p : Pos} {ma mk : Env → Res D} {ms : Env → Res (List D)}
/-- k in d, d the dict of slot i -/
def mInS (w : Bool) (i : Nat) (mk : Env → Res D) : Env → Res D := fun ρ => (mk ρ).bind fun y => (getDct i ρ).bind fun ds => (ofO (keyOf y)).bind fun k => .ok (.bool (w == (valD ds k).isSome))
theorem inS_slot {i : Nat} {F0 H0 F H : Hp} {σ : L2.St} {ρ : Env} {y : V} {dy : D} {k : Key} {ds : List (D × D)} (S : Stt X.K κ F0 H0 F H σ ρ) (hk : κ i = .od) (hd : ρ[i]? = some (some (.dict ds))) (ry : Rb X.K F H y dy) (hkk : keyOf dy = some k) :
    ∃ a o, σ[i]? = some (some (.ref a)) ∧ DGet H a y o ∧ o.isSome = (valD ds k).isSome := by
  obtain ⟨a, kvs, s0, a0, fa, g, ok, n1, n2⟩ := od_at S hk hd
  refine ⟨a, _, s0, by rw [ry.key hkk]; exact DGet.k g, ?_⟩
  rcases ok.val k with ⟨h1, h2⟩ | ⟨b, vs, xs, _, h1, h2, _⟩ <;> rw [h1, h2] <;> rfl
theorem inS_read {w : Bool} {i : Nat} {r : R2} (hr : ∀ y a o H (Q : VK), DGet H a y o → Q (.bl (w == o.isSome)) H → r y (.ref a) H Q) (hk : κ i = .od) : ∀ σ H Q, rdE X.mg X.K κ E (mInS w i mk) σ H Q → tOp r (rdE X.mg X.K κ E mk) (tVar i) σ H Q :=
  fun σ H Q ⟨F0, H0, F, ρ, S, c⟩ => ⟨F0, H0, F, ρ, S, Res.sat_imp (Res.sat_bind c) (fun y _ c v F1 H1 x1 ry => by
    have S1 := S.mono x1
    cases hd : getDct i ρ with
    | ok ds =>
      rw [hd] at c
      obtain ⟨ds', hd', e⟩ := getDct_sat (P := fun z => z = ds) (R := fun _ => False) (by rw [hd]; exact rfl)
      subst e
      obtain ⟨k, hkk, c⟩ := ofO_sat (Res.sat_bind c)
      obtain ⟨a, o, s0, g, q⟩ := inS_slot S1 hk hd' (.inl ry) hkk
      refine ⟨.ref a, s0, hr v a o H1 Q g ?_⟩
      rw [q]
      exact c _ F1 H1 x1 (.bl _)
    | err x =>
      exfalso
      unfold getDct at hd
      split at hd <;> cases hd
    | stk => rw [hd] at c; exact c.elim) fun _ z => z⟩
theorem de_inS {n i : Nat} {x : Str} (hr : Room n X.A) (hk : κ i = .od) (hN : X.N[i]? = some x) (hv : Vis X.env.scope x) (ha : DE X κ E a mk) (hm : behindInMarks .In (.Name x p) = false := by rfl) (hdb : (x == ("__debug__" : Str)) = false := by decide) (hcd : (x == ("__classdict__" : Str)) = false := by decide) : DE X κ E (.Compare a [.In] [.Name x p] pos) (mInS true i mk) :=
  (pe_cmpR (op_inK (hu_of hr)) ha (pe_var hN hv hdb hcd) hm).imp (inS_read (fun y a o H Q g q => ⟨a, o, rfl, g, by simpa using q⟩) hk)
theorem de_notInS {n i : Nat} {x : Str} (hr : Room n X.A) (hk : κ i = .od) (hN : X.N[i]? = some x) (hv : Vis X.env.scope x) (ha : DE X κ E a mk) (hm : behindInMarks .NotIn (.Name x p) = false := by rfl) (hdb : (x == ("__debug__" : Str)) = false := by decide) (hcd : (x == ("__classdict__" : Str)) = false := by decide) : DE X κ E (.Compare a [.NotIn] [.Name x p] pos) (mInS false i mk) :=
  (pe_cmpR (op_notInK (hu_of hr)) ha (pe_var hN hv hdb hcd) hm).imp (inS_read (fun y a o H Q g q => ⟨a, o, rfl, g, by simpa using q⟩) hk)
theorem inS_t {w : Bool} {i : Nat} {r : R2} (hr : ∀ y a o H (Q : VK), DGet H a y o → Q (.bl (w == o.isSome)) H → r y (.ref a) H Q) (hk : κ i = .od) : ∀ σ H Q, rdT X.mg X.K κ E (mTru (mInS w i mk)) σ H Q → tOp r (rdE X.mg X.K κ E mk) (tVar i) σ H fun v H' => ∃ b, v = .bl b ∧ Q b H' :=
  fun σ H Q ⟨F0, H0, F, ρ, S, c⟩ => inS_read hr hk σ H _ ⟨F0, H0, F, ρ, S, Res.sat_imp (bool_of c fun d hd => by
    unfold mInS at hd
    obtain ⟨y, _, hd⟩ := bind_ok hd
    obtain ⟨ds, _, hd⟩ := bind_ok hd
    obtain ⟨k, _, hd⟩ := bind_ok hd
    cases hd; exact ⟨_, rfl⟩) (fun d _ ⟨b, e, k⟩ v F' H' x r => by
    subst e
    cases r
    exact ⟨b, rfl, k F' H' x⟩) fun _ z => z⟩
theorem dt_inS {n i : Nat} {x : Str} (hr : Room n X.A) (hk : κ i = .od) (hN : X.N[i]? = some x) (hv : Vis X.env.scope x) (ha : DE X κ E a mk) (hm : behindInMarks .In (.Name x p) = false := by rfl) (hdb : (x == ("__debug__" : Str)) = false := by decide) (hcd : (x == ("__classdict__" : Str)) = false := by decide) : DT X κ E (.Compare a [.In] [.Name x p] pos) (mTru (mInS true i mk)) :=
  (pt_cmpR (op_inK (hu_of hr)) ha (pe_var hN hv hdb hcd) hm).imp (inS_t (fun y a o H Q g q => ⟨a, o, rfl, g, by simpa using q⟩) hk)
theorem dt_notInS {n i : Nat} {x : Str} (hr : Room n X.A) (hk : κ i = .od) (hN : X.N[i]? = some x) (hv : Vis X.env.scope x) (ha : DE X κ E a mk) (hm : behindInMarks .NotIn (.Name x p) = false := by rfl) (hdb : (x == ("__debug__" : Str)) = false := by decide) (hcd : (x == ("__classdict__" : Str)) = false := by decide) : DT X κ E (.Compare a [.NotIn] [.Name x p] pos) (mTru (mInS false i mk)) :=
  (pt_cmpR (op_notInK (hu_of hr)) ha (pe_var hN hv hdb hcd) hm).imp (inS_t (fun y a o H Q g q => ⟨a, o, rfl, g, by simpa using q⟩) hk)
/-- d[k] = [..], d a dict of lists of its own, the key a new one -/
theorem ds_dputN {i : Nat} {x : Str} {n : Nat} {px p2 : Pos} {mv : Env → Res (List D)} (hr : Room n X.A) (hk : κ i = .od) (hN : X.N[i]? = some x) (hv : Vis X.env.scope x) (hb : DE X κ E b mk) (he : DN X κ E e mv) (hs : swapsWith e (some (.Subscript (.Name x px) b p2)) pos.line X.env = pure false := by rfl)
    (hdb : (x == ("__debug__" : Str)) = false := by decide) (hcd : (x == ("__classdict__" : Str)) = false := by decide) : DS X κ E (.Assign [.Subscript (.Name x px) b p2] e pos) (mDPutN i mk mv) :=
  (ps_dput (hu_of hr) (pe_var hN hv hdb hcd) hb he hs).imp fun Dn σ H ⟨F0, H0, F, ρ, S, k⟩ => ⟨F0, H0, F, ρ, S, Res.sat_imp (out_sat k) (fun vs0 _ k p vs F1 H1 x1 hp fp hv1 rv => by
    obtain ⟨ds, hd, k⟩ := getDct_sat (out_sat k)
    have S1 := S.mono x1
    obtain ⟨a, kvs, s0, a0, fa, g, ok, n1, n2⟩ := od_at S1 hk hd
    refine ⟨.ref a, s0, F0, H0, F1, ρ, S1, Res.sat_imp (out_sat k) (fun dk _ k y F2 H2 x2 ry => ?_) fun x z => err_back S1 z⟩
    have S2 := S1.mono x2
    obtain ⟨kk, hkk, k⟩ := ofO_sat (out_sat k)
    obtain ⟨e1, _, ko⟩ := ry.key hkk
    subst e1
    by_cases z : ds.length < sizeLine ∧ valD ds kk = none
    · simp only [if_pos z] at k
      have g2 := x2.h _ _ g
      have hn : valV kvs kk = none := by
        rcases ok.val kk with h | ⟨b', vs', xs', _, _, h, _⟩
        · exact h.1
        · rw [z.2] at h; cases h
      have hno : ∀ j dj w, ρ[j]? = some (some dj) → σ[j]? = some (some w) → ¬ Owns (κ j) H2 w p := fun j dj w hj ej ow => by
        have g0 := S.slotAt hj ej
        exact (g0.owned (Owns.back g0 (fun a _ o q => (x1.trans x2).h a o q) (fun a o q => (x1.trans x2).s a o ((x1.trans x2).f a o q)) ow)).2.2 hp
      exact ⟨a, _, rfl, DPut.k g2 (by rw [← ok.length]; exact z.1), k _ F2 _ (x1.trans x2).f (od_new S2 hk hd s0 ko g2 hn (fresh_back S.h0 hp) (x2.o p fp (some_ne hv1)) (x2.h _ _ hv1) (rv.mono x2.f) hno)⟩
    · simp only [if_neg z] at k; exact k.elim) fun x z => err_back S z⟩
theorem sg_dputN {i : Nat} {mk : Env → Res D} {mv : Env → Res (List D)} : Straight (mDPutN i mk mv) := fun ρ => sg_out fun _ => sg_out fun _ => sg_out fun _ => sg_out fun _ => sg_ite sg_nx sg_stk
/-- list(range(a, b)) -/
def rngL (i j : Int) : Res (List D) := if -(2 ^ 62) ≤ i ∧ i < 2 ^ 62 ∧ -(2 ^ 62) ≤ j ∧ j < 2 ^ 62 ∧ (j - i).toNat ≤ 2 ^ 24 then .ok (rngD i (j - i).toNat) else .stk
def mRgL2 (ma mb : Env → Res D) : Env → Res (List D) := fun ρ => (ma ρ).bind fun x => (mb ρ).bind fun y => match x, y with
  | .int i, .int j => rngL i j
  | _, _ => .stk
def mRgL1 (mb : Env → Res D) : Env → Res (List D) := fun ρ => (mb ρ).bind fun y => match y with
  | .int j => rngL 0 j
  | _ => .stk
theorem rgV_rp {K : Frag} {F : Hp} (i : Int) (n : Nat) : RpA K F ((List.range n).map fun k => V.int (i + (k : Nat))) (rngD i n) := by
  unfold rngD
  induction List.range n with
  | nil => exact .nil
  | cons k ks ih => exact .cons (.int _) ih
theorem rngL_fin {K : Frag} {mg : Mg} {E1 : XK} {F H F' H' : Hp} {i j : Int} {Q : VK} (x : Ext F H F' H') (k : (rngL i j).sat (fun ds => ∀ p vs F' H', Ext F H F' H' → H p = none → F' p = none → H' p = some (.lst vs) → RpA K F' vs ds → Q (.ref p) H') (ErrOk mg K E1 F H)) :
    RgOk i j ∧ ∀ q, H' q = none → Q (.ref q) (upd H' q (.lst (rgV i j))) := by
  unfold rngL at k
  split at k
  · rename_i h
    exact ⟨h, fun q hq => k q _ F' _ (x.trans (.newO x.s hq)) (fresh_back x.h hq) (none_of_ex x.s hq) upd_same (rgV_rp i _)⟩
  · exact k.elim
theorem dn_listRg2 {p q : Pos} {pos2 : Pos} (hc : X.calm = true) (hg : Gl X "list") (hm : X.mg "list" = none) (hg2 : Gl X "range") (hm2 : X.mg "range" = none) (ha : DE X κ E a ma) (hb : DE X κ E b mk)
    (hp : (backTo pos2 (starEach [b] X.env)).any (·.1) = false := by rfl) (na : starEach [a, b] X.env = (false, eval a X.env) :: starEach [b] X.env := by rfl) (nb : starEach [b] X.env = (false, eval b X.env) :: starEach [] X.env := by rfl)
    (ne : starEach [.Call (.Name "range" p) [a, b] [] pos2] X.env = (false, eval (.Call (.Name "range" p) [a, b] [] pos2) X.env) :: starEach [] X.env := by rfl) : DN X κ E (.Call (.Name "list" q) [.Call (.Name "range" p) [a, b] [] pos2] [] pos) (mRgL2 ma mk) :=
  (pe_listRg hc hg hm (prg_2 hg2 hm2 ha hb na nb hp) ne).imp fun σ H Q ⟨F0, H0, F, ρ, S, c⟩ => ⟨F0, H0, F, ρ, S, Res.sat_imp (Res.sat_bind c) (fun x _ c v F1 H1 x1 r1 => ⟨F0, H0, F1, ρ, S.mono x1, Res.sat_imp (Res.sat_bind c) (fun y _ c w F2 H2 x2 r2 => by
    cases r1 <;> try exact c.elim
    cases r2 <;> try exact c.elim
    exact ⟨_, _, rfl, rfl, rngL_fin (x1.trans x2) c⟩) fun _ z => z.mono x1⟩) fun _ z => z⟩
theorem dn_listRg1 {p q : Pos} {pos2 : Pos} (hc : X.calm = true) (hg : Gl X "list") (hm : X.mg "list" = none) (hg2 : Gl X "range") (hm2 : X.mg "range" = none) (hb : DE X κ E b mk)
    (nb : starEach [b] X.env = (false, eval b X.env) :: starEach [] X.env := by rfl)
    (ne : starEach [.Call (.Name "range" p) [b] [] pos2] X.env = (false, eval (.Call (.Name "range" p) [b] [] pos2) X.env) :: starEach [] X.env := by rfl) : DN X κ E (.Call (.Name "list" q) [.Call (.Name "range" p) [b] [] pos2] [] pos) (mRgL1 mk) :=
  (pe_listRg hc hg hm (prg_1 hg2 hm2 hb nb) ne).imp fun σ H Q ⟨F0, H0, F, ρ, S, c⟩ => ⟨F0, H0, F, ρ, S, Res.sat_imp (Res.sat_bind c) (fun y _ c w F2 H2 x2 r2 => by
    cases r2 <;> try exact c.elim
    exact ⟨_, rfl, rngL_fin x2 c⟩) fun _ z => z⟩
end
end WD

/-! x += e; lists by their methods -/
namespace WD
open PySem PySem.Spec PyProof.Rows L2
open Evl (Ex Ex.refl Ex.trans Ex.new Ex.mut ex_l ex_t fresh_back)
section
variable {X : Cx} {κ : Nat → Kd} {E : EX} {a b e o : Expr} {pos p : Pos} {ma mb mk me mv : Env → Res D} {ms : Env → Res (List D)}
def incD (x y : D) : Res D := match x, y with
  | .int i, .int j => .ok (.int (i + j))
  | _, _ => .stk
def decD (x y : D) : Res D := match x, y with
  | .int i, .int j => .ok (.int (i - j))
  | _, _ => .stk
def mAug (f : D → D → Res D) (i : Nat) (me : Env → Res D) : Env → Out := fun ρ => (ofO (ρ[i]?).join).out fun x => (me ρ).out fun y => (f x y).out fun z => .nx (ρ.set i (some z))
theorem ds_aug {f : D → D → Res D} {g : Int → Int → Int} {i : Nat} {x : Str} {op : Operator} {pos' : Pos} (ho : PIp X op (ipI g)) (hf0 : ∀ x y, f x y = match x, y with | .int i, .int j => .ok (.int (g i j)) | _, _ => .stk) (hk : κ i = .im) (hN : X.N.Nodup) (hi : X.N[i]? = some x) (hx : Loc X.env.scope x) (he : DE X κ E e me)
    (hf : X.fn x = true ∨ X.env.scope.names.lookup x = some .local := by first | exact .inl rfl | exact .inr rfl | assumption) : DS X κ E (.AugAssign (.Name x pos') op e pos) (mAug f i me) :=
  (ps_aug (i := i) hN hi hx he ho hf).imp fun Dn σ H ⟨F0, H0, F, ρ, S, k⟩ => by
    obtain ⟨d, hd, k⟩ := ofO_sat (out_sat k)
    obtain ⟨v, h1, h2⟩ := S.slot i d (join_some hd)
    rw [hk] at h2
    refine ⟨v, h1, F0, H0, F, ρ, S, Res.sat_imp (out_sat k) (fun y _ k w F' H' x r => ?_) fun x z => err_back S z⟩
    have k := out_sat k
    rw [hf0] at k
    have h2 : Rp X.K F v d := h2
    cases h2 <;> try exact k.elim
    cases r <;> try exact k.elim
    exact ⟨_, _, rfl, rfl, k _ F' H' x.f ((S.mono x).set hk (.int _))⟩
theorem ds_inc {i : Nat} {x : Str} {pos' : Pos} (hk : κ i = .im) (hN : X.N.Nodup) (hi : X.N[i]? = some x) (hx : Loc X.env.scope x) (he : DE X κ E e me)
    (hf : X.fn x = true ∨ X.env.scope.names.lookup x = some .local := by first | exact .inl rfl | exact .inr rfl | assumption) : DS X κ E (.AugAssign (.Name x pos') .Add e pos) (mAug incD i me) := ds_aug ip_add (fun x y => by cases x <;> cases y <;> rfl) hk hN hi hx he hf
theorem ds_dec {i : Nat} {x : Str} {pos' : Pos} (hk : κ i = .im) (hN : X.N.Nodup) (hi : X.N[i]? = some x) (hx : Loc X.env.scope x) (he : DE X κ E e me)
    (hf : X.fn x = true ∨ X.env.scope.names.lookup x = some .local := by first | exact .inl rfl | exact .inr rfl | assumption) : DS X κ E (.AugAssign (.Name x pos') .Sub e pos) (mAug decD i me) := ds_aug ip_sub (fun x y => by cases x <;> cases y <;> rfl) hk hN hi hx he hf
theorem sg_aug {f : D → D → Res D} {i : Nat} {me : Env → Res D} : Straight (mAug f i me) := fun ρ => sg_out fun _ => sg_out fun _ => sg_out fun _ => sg_nx
end
end WD

namespace WD
open PySem PySem.Spec PyProof.Rows L2
open Evl (Ex Ex.refl Ex.trans Ex.new Ex.mut ex_l ex_t fresh_back)

/-! ### defs that change what one of their parameters names -/
def delH (H : Hp) (a : Addr) : Hp := fun b => if b = a then none else H b
theorem delH_ex (H : Hp) (a : Addr) : Ex (delH H a) H := fun b u e => by
  unfold delH at e
  split at e
  · cases e
  · exact e
theorem delH_ne {H : Hp} {a b : Addr} (h : b ≠ a) : delH H a b = H b := if_neg h
theorem delH_self {H : Hp} {a : Addr} : delH H a a = none := if_pos rfl
/-- the mirror gives (what is returned, what the parameter j names then) -/
def spW (mg : Mg) (K : Frag) (n j : Nat) (m : List D → Res D) : Sp := fun vs H Q E => vs.length = n ∧ ∃ F a ds, Ex F H ∧ NF F ∧ F a = none ∧ vs[j]? = some (.ref a) ∧ ds.length = n ∧ (∀ d, ds[j]? = some d → OwnAt K F H a d) ∧ (∀ i d, i ≠ j → ds[i]? = some d → ∃ v, vs[i]? = some v ∧ Rp K F v d) ∧
  (m ds).sat (fun r => ∀ d d' v F' H', r = .tuple [d, d'] → Ext F (delH H a) F' H' → Rp K F' v d → F' a = none → OwnAt K F' H' a d' → Q v H') (fun _ => False)
abbrev eXW (K : Frag) (a : Addr) (E : XK) : EX := ⟨fun _ => E, fun _ r v F H => ∃ d d', r = .tuple [d, d'] ∧ Rp K F v d ∧ F a = none ∧ OwnAt K F H a d'⟩
def kdW (κ : Nat → Kd) (j : Nat) (a : Addr) : Nat → Kd := fun i => if i = j then .pw a else κ i
theorem kdW_self {κ : Nat → Kd} {j : Nat} {a : Addr} : kdW κ j a j = .pw a := if_pos rfl
theorem kdW_ne {κ : Nat → Kd} {j i : Nat} {a : Addr} (h : i ≠ j) : kdW κ j a i = κ i := if_neg h
def fnOutW (j : Nat) (o : Out) : Res D :=
  match o with
  | .nx ρ => (ofO (ρ[j]?).join).bind fun d' => .ok (.tuple [.none, d'])
  | .rt d => .ok d
  | .err x => .err x
  | _ => .stk
def mkFnW (n j : Nat) (body : Env → Out) : List D → Res D := fun ds => fnOutW j (body (ds.map some ++ List.replicate (n - ds.length) none))
section
variable {X : Cx} {κ κe : Nat → Kd} {E : EX} {a b c e : Expr} {es : List Expr} {pos : Pos} {st : Stmt} {sts : List Stmt}
def mRetW (j : Nat) (m : Env → Res D) : Env → Out := fun ρ => (m ρ).out fun d => (ofO (ρ[j]?).join).out fun d' => .rt (.tuple [d, d'])
theorem ds_retW {m : Env → Res D} {j : Nat} {p : Addr} (hk : κ j = .pw p) (h : DE X κ E e m) (hR : ∀ H0 d d' v F H, Rp X.K F v d → F p = none → OwnAt X.K F H p d' → E.ret H0 (.tuple [d, d']) v F H := by exact fun _ _ _ _ _ _ h1 h2 h3 => ⟨_, _, rfl, h1, h2, h3⟩) : DS X κ E (.Return (some e) pos) (mRetW j m) :=
  (ps_ret h).imp fun Dn σ H ⟨F0, H0, F, ρ, S, k⟩ => ⟨F0, H0, F, ρ, S, Res.sat_imp (out_sat k) (fun d _ k v F' H' x r => by
    obtain ⟨d', hd, k⟩ := ofO_sat (out_sat k)
    obtain ⟨u, hu, so⟩ := (S.mono x).slot j d' (join_some hd)
    rw [hk] at so
    obtain ⟨e, h0, f0, o⟩ := so
    exact k v F' H' (S.ext.trans x) (hR _ _ _ _ _ _ r f0 o)) fun x z => err_back S z⟩
theorem fn_startW {K : Frag} {F H : Hp} {vs : List V} {ds : List D} {N : List Str} {np j : Nat} {p : Addr} (s : Ex F H) (nf : NF F) (hl : vs.length = np) (hd : ds.length = np) (fa : F p = none) (hj : vs[j]? = some (.ref p)) (ho : ∀ d, ds[j]? = some d → OwnAt K F H p d)
    (hr : ∀ i d, i ≠ j → ds[i]? = some d → ∃ v, vs[i]? = some v ∧ Rp K F v d) (hk : ∀ i, i < np → i ≠ j → κ i = .im) :
    Stt K (kdW κ j p) F (delH H p) F H (L2.start N vs) (ds.map some ++ List.replicate (N.length - ds.length) none) := by
  have known : ∀ i d, (ds.map some ++ List.replicate (N.length - ds.length) none)[i]? = some (some d) → ds[i]? = some d ∧ i < np := fun i d h => by
    by_cases hi : i < ds.length
    · rw [List.getElem?_append_left (by simpa using hi), List.getElem?_map, List.getElem?_eq_getElem hi] at h
      have : ds[i] = d := by simpa using h
      rw [List.getElem?_eq_getElem hi, this]
      exact ⟨rfl, by omega⟩
    · rw [List.getElem?_append_right (by simpa using hi), List.getElem?_replicate] at h
      split at h <;> cases h
  have own : ∀ i b d u, (ds.map some ++ List.replicate (N.length - ds.length) none)[i]? = some (some d) → Owns (kdW κ j p i) H u b → i = j := fun i b d u h o => Classical.byContradiction fun z => by
    rw [kdW_ne z, hk i (known i d h).2 z] at o
    exact o
  refine ⟨Ex.refl F, delH_ex H p, fun _ h _ => h, s, nf, ?_, fun i d h => ?_, fun i l b di dl u w hn hi hl' _ _ ki kl => hn ((own i b di u hi ki).trans (own l b dl w hl' kl).symm)⟩
  · unfold L2.start
    simp [hd, hl]
  · obtain ⟨h1, h2⟩ := known i d h
    have st : ∀ v, vs[i]? = some v → (L2.start N vs)[i]? = some (some v) := fun v g => by
      unfold L2.start
      rw [List.getElem?_append_left (by rw [List.length_map]; omega), List.getElem?_map, g]
      rfl
    by_cases z : i = j
    · subst z
      refine ⟨_, st _ hj, ?_⟩
      rw [kdW_self]
      exact ⟨rfl, delH_self, fa, ho d h1⟩
    · obtain ⟨v, g1, g2⟩ := hr i d z h1
      refine ⟨v, st v g1, ?_⟩
      rw [kdW_ne z, hk i h2 z]
      exact g2
theorem fn_okW {κe : Addr → Nat → Kd} {P : Program} {w : World} {K : Frag} {mg : Mg} {base : Heap} {x qual : Str} {st : Stmt} {f : Addr} {fd : FuncData} {N ps : List Str} {k n j : Nat} {body : Env → Out} (F : Fun K x qual st f fd) (S : FnScope N ps (defScope st)) (hn : N.length = n)
    (hk : ∀ i, i < ps.length → i ≠ j → κ i = .im)
    (hbody : ∀ (p : Addr) (cdv : Value) (A : Around) (outer : List PySem.Env) (s : Shared) (H : Hp) (E : XK), Room k (A.deeper (envOfC qual (defScope st) s.heap.objs.size f cdv)) →
      DSs2 (cxOf (L2N.CX P w) P w K mg base N qual (defScope st) f cdv A outer s H E) (kdW κ j p) (κe p) (eXW K p E) (defBody st) body)
    (hj : ∀ p, κe p j = .pw p := by intro _; rfl) : FnOk P w K mg base (L2N.CX P w) (k + 1) f fd ps (spW mg K ps.length j (mkFnW n j body)) := by
  subst hn
  refine F.okQ S (fun vs H Q E h => h.1) fun cdv A outer s H vs Q E hr h => ?_
  obtain ⟨hl, F, p, ds, e, nf, fa, hjv, hd, ho, hrp, c⟩ := h
  refine ⟨_, hbody p cdv A outer s H E hr, ?_⟩
  refine ⟨F, delH H p, F, _, fn_startW e nf hl hd fa hjv ho hrp hk, ?_⟩
  unfold mkFnW at c
  generalize hob : body (ds.map some ++ List.replicate (N.length - ds.length) none) = o at c ⊢
  cases o with
  | nx ρ =>
    intro σ' F' H' _ S'
    unfold fnOutW at c
    obtain ⟨d', hd', c⟩ := ofO_sat (Res.sat_bind c)
    obtain ⟨u, hu, so⟩ := S'.slot j d' (join_some hd')
    rw [hj p] at so
    obtain ⟨e, h0, f0, o⟩ := so
    exact c .none d' .non F' H' rfl S'.ext .non f0 o
  | bk ρ => exact c.elim
  | ct ρ => exact c.elim
  | rt d =>
    intro v F' H' x ⟨d1, d2, hd, r, f0, o⟩
    exact c d1 d2 v F' H' hd x r f0 o
  | err x => exact c.elim
  | stk => exact c.elim

/-! ### expressions that change a slot -/
def rdW (mg : Mg) (K : Frag) (κ : Nat → Kd) (E : EX) (m : Env → Res (D × Env)) : TE := fun σ H Q => ∃ F0 H0 F ρ, Stt K κ F0 H0 F H σ ρ ∧
  (m ρ).sat (fun p => ∀ v F' H', Ex F F' → Stt K κ F0 H0 F' H' σ p.2 → Rp K F' v p.1 → Q v H') (ErrOk mg K (E.err σ) F H)
def DWE (X : Cx) (κ : Nat → Kd) (E : EX) (e : Expr) (m : Env → Res (D × Env)) : Prop := PE X e (rdW X.mg X.K κ E m)
structure FnW (P : Program) (w : World) (K : Frag) (mg : Mg) (base : Heap) (k : Nat) (x : Str) (ps : List Str) (j : Nat) (m : List D → Res D) : Prop where
  ex : ∃ f fd, mg x = some (.ref f) ∧ PySem.W.keepIn K (.ref f) = true ∧ Binds K fd ps [] ∧ FnOk P w K mg base (L2N.CX P w) k f fd ps (spW mg K ps.length j m)
/-- arguments, one of them the name of slot i -/
def rdAW (mg : Mg) (K : Frag) (κ : Nat → Kd) (E : EX) (i : Nat) (ma mb : Env → Res (List D)) : TA := fun σ H Q => ∃ F0 H0 F ρ, Stt K κ F0 H0 F H σ ρ ∧ (∃ d, ρ[i]? = some (some d)) ∧
  (ma ρ).sat (fun ds1 => (mb ρ).sat (fun ds2 => ∀ vs1 w vs2 F' H', Ext F H F' H' → σ[i]? = some (some w) → RpA K F' vs1 ds1 → RpA K F' vs2 ds2 → Q (vs1 ++ w :: vs2) H') (ErrOk mg K (E.err σ) F H)) (ErrOk mg K (E.err σ) F H)
def DAW (X : Cx) (κ : Nat → Kd) (E : EX) (i : Nat) (es : List Expr) (ma mb : Env → Res (List D)) : Prop := PA X es (rdAW X.mg X.K κ E i ma mb)
theorem daw_own {i : Nat} {x : Str} {mb : Env → Res (List D)} (hN : X.N[i]? = some x) (hv : Vis X.env.scope x) (hs : DA X κ E es mb) (hst : starEach (.Name x pos :: es) X.env = (false, eval (.Name x pos) X.env) :: starEach es X.env := by rfl)
    (hd : (x == ("__debug__" : Str)) = false := by decide) (hcd : (x == ("__classdict__" : Str)) = false := by decide) : DAW X κ E i (.Name x pos :: es) mNil mb :=
  (pa_cons (pe_var hN hv hd hcd) hs hst).imp fun σ H Q ⟨F0, H0, F, ρ, S, ⟨d, hd⟩, c⟩ => by
    obtain ⟨v, h1, h2⟩ := S.slot i d hd
    exact ⟨v, h1, F0, H0, F, ρ, S, Res.sat_imp c (fun ds2 _ k vs F' H' x r => k [] v vs F' H' x h1 .nil r) fun _ z => z⟩
theorem daw_cons {i : Nat} {m : Env → Res D} {ma mb : Env → Res (List D)} (h : DE X κ E e m) (hs : DAW X κ E i es ma mb) (hst : starEach (e :: es) X.env = (false, eval e X.env) :: starEach es X.env := by rfl) : DAW X κ E i (e :: es) (mCons m ma) mb :=
  (pa_cons h hs hst).imp fun σ H Q ⟨F0, H0, F, ρ, S, hd, c⟩ => ⟨F0, H0, F, ρ, S, Res.sat_imp (Res.sat_bind c) (fun d _ k v F' H' x r =>
    ⟨F0, H0, F', ρ, S.mono x, hd, Res.sat_imp (Res.sat_bind k) (fun ds1 _ k => Res.sat_imp k (fun ds2 _ k vs1 w vs2 F2 H2 x2 hw r1 r2 => k (v :: vs1) w vs2 F2 H2 (x.trans x2) hw (.cons (r.mono x2.f) r1) r2) fun y z => z.mono x) fun y z => z.mono x⟩) fun _ z => z⟩
def mCallW (i : Nat) (m : List D → Res D) (ma mb : Env → Res (List D)) : Env → Res (D × Env) := fun ρ => (ofO (ρ[i]?).join).bind fun dO => (ma ρ).bind fun ds1 => (mb ρ).bind fun ds2 => (noErr (m (ds1 ++ dO :: ds2))).bind fun r => match r with
  | .tuple [d, d'] => .ok (d, ρ.set i (some d'))
  | _ => .stk
theorem callW_sat {r : D} {ρ : Env} {i : Nat} {P : D × Env → Prop} {R : Exn → Prop} {d d' : D} (e : r = .tuple [d, d']) (h : (match r with
  | .tuple [d, d'] => Res.ok (d, ρ.set i (some d'))
  | _ => .stk).sat P R) : P (d, ρ.set i (some d')) := by
  subst e
  exact h
theorem Stt.chgM {K : Frag} {F0 H0 F H F' H' : Hp} {σ : L2.St} {ρ : Env} {i : Nat} {p : Addr} {d d' : D} (S : Stt K κ F0 H0 F H σ ρ) (hk : (κ i).mutb = true) (hd : ρ[i]? = some (some d)) (hs : σ[i]? = some (some (.ref p))) (x : Ext F (delH H p) F' H') (fa : F' p = none) (o : OwnAt K F' H' p d') :
    Stt K κ F0 H0 F' H' σ (ρ.set i (some d')) := by
  have si := S.slotAt hd hs
  obtain ⟨a', e, ha0, fa0, oa, mk⟩ := si.mutb hk
  cases e
  refine S.chg hd hs x.f x.s (x.n S.nf) (fun b h1 h2 => ?_) (fun b u hu nb => ?_) (mk _ _ _ fa o) fun b ob => .inl ((mutb_owns hk).mpr ((mutb_owns hk).mp ob))
  · by_cases z : b = p
    · rw [z]; exact fa
    · exact x.o b h1 (by rw [delH_ne z]; exact h2)
  · exact x.h b u (by rw [delH_ne fun z => nb ((mutb_owns hk).mpr (by rw [z]))]; exact hu)
theorem de_callW {k i j : Nat} {x : Str} {p : Pos} {ps : List Str} {m : List D → Res D} {ma mb : Env → Res (List D)} (G : FnW X.prog X.w X.K X.mg X.base k x ps j m) (hr : Room k X.A) (hx : ∀ σ, PassesAt (L2N.CX X.prog X.w) X σ (E.err σ)) (hg : Gl X x) (hk : (κ i).mutb = true) (ha : DAW X κ E i (e :: es) ma mb)
    (hma : ∀ ρ ds, ma ρ = .ok ds → ds.length = j) (hmb : ∀ ρ ds, mb ρ = .ok ds → ds.length + j + 1 = ps.length)
    (hdb : (x == ("__debug__" : Str)) = false := by decide) (he : starEach (e :: es) X.env = (false, eval e X.env) :: starEach es X.env := by rfl) (hpl : (backTo pos (starEach es X.env)).any (·.1) = false := by rfl) :
    DWE X κ E (.Call (.Name x p) (e :: es) [] pos) (mCallW i m ma mb) := by
  obtain ⟨f, fd, hm, hkp, hb, hF⟩ := G.ex
  refine (pe_callS hF hr hg hm hkp hb hx ha hdb he hpl).imp fun σ H Q ⟨F0, H0, F, ρ, S, c⟩ => ?_
  obtain ⟨dO, hd, c⟩ := ofO_sat (Res.sat_bind c)
  have hd := join_some hd
  refine ⟨F0, H0, F, ρ, S, ⟨dO, hd⟩, Res.sat_imp (Res.sat_bind c) (fun ds1 q1 c => Res.sat_imp (Res.sat_bind c) (fun ds2 q2 c vs1 w vs2 F' H' x hw r1 r2 => ?_) fun _ z => z) fun _ z => z⟩
  have S1 := S.mono x
  obtain ⟨p, hs, fa, oa⟩ := own_at S1 hk hd
  have hs0 := hs
  rw [hw] at hs
  cases hs
  have l1 := hma ρ ds1 q1
  have l2 := hmb ρ ds2 q2
  have e1 := r1.length
  have e2 := r2.length
  have c := noErr_sat (R' := fun _ => False) (Res.sat_bind c)
  have hj : (ds1 ++ dO :: ds2)[j]? = some dO := by rw [List.getElem?_append_right (by omega), show j - ds1.length = 0 by omega]; rfl
  refine ⟨by rw [List.length_append, List.length_cons]; omega, F', p, ds1 ++ dO :: ds2, x.s, x.n S.nf, fa, by rw [List.getElem?_append_right (by omega), show j - vs1.length = 0 by omega]; rfl, by rw [List.length_append, List.length_cons]; omega, fun d q => ?_, fun l d nl q => ?_, Res.sat_imp c (fun r _ k d d' v F2 H2 er x2 rv fa2 o2 => ?_) fun _ z => z⟩
  · rw [hj] at q
    cases q
    exact oa
  · by_cases z : l < j
    · rw [List.getElem?_append_left (by omega)] at q
      obtain ⟨v, g1, g2⟩ := r1.get q
      exact ⟨v, by rw [List.getElem?_append_left (by omega)]; exact g1, g2⟩
    · have hl : l - ds1.length = (l - j - 1) + 1 := by omega
      rw [List.getElem?_append_right (by omega), hl, List.getElem?_cons_succ] at q
      obtain ⟨v, g1, g2⟩ := r2.get q
      refine ⟨v, ?_, g2⟩
      rw [List.getElem?_append_right (by omega), show l - vs1.length = (l - j - 1) + 1 by omega, List.getElem?_cons_succ]
      exact g1
  · exact callW_sat er k v F2 H2 (x.f.trans x2.f) (S1.chgM hk hd hs0 x2 fa2 o2) rv
/-! what is done with them -/
def mAsgW (l : Nat) (m : Env → Res (D × Env)) : Env → Out := fun ρ => (m ρ).out fun p => .nx (p.2.set l (some p.1))
theorem ds_setW {i : Nat} {x : Str} {pos' : Pos} {m : Env → Res (D × Env)} (hk : κ i = .im) (hN : X.N.Nodup) (hi : X.N[i]? = some x) (hx : Loc X.env.scope x) (h : DWE X κ E e m) (hs : swapsWith e (some (.Name x pos')) pos.line X.env = pure false := by rfl)
    (hf : X.fn x = true ∨ X.env.scope.names.lookup x = some .local := by first | exact .inl rfl | exact .inr rfl | assumption) : DS X κ E (.Assign [.Name x pos'] e pos) (mAsgW i m) :=
  (ps_set (i := i) hN hi hx h hs hf).imp fun Dn σ H ⟨F0, H0, F, ρ, S, k⟩ => ⟨F0, H0, F, ρ, S, Res.sat_imp (out_sat k) (fun p _ k v F' H' x S' r => k _ F' H' x (S'.set hk r)) fun x z => err_back S z⟩
def mExprW (m : Env → Res (D × Env)) : Env → Out := fun ρ => (m ρ).out fun p => .nx p.2
theorem ds_exprW {m : Env → Res (D × Env)} (h : DWE X κ E e m) (hs : swapsWith e none pos.line X.env = pure false := by rfl) : DS X κ E (.Expr e pos) (mExprW m) :=
  (ps_expr h hs).imp fun Dn σ H ⟨F0, H0, F, ρ, S, k⟩ => ⟨F0, H0, F, ρ, S, Res.sat_imp (out_sat k) (fun p _ k v F' H' x S' r => k σ F' H' x S') fun x z => err_back S z⟩
def mAsgGW (g : D → Env → Option Env) (m : Env → Res (D × Env)) : Env → Out := fun ρ => (m ρ).out fun p => (ofO (g p.1 p.2)).out .nx
theorem ds_asgW {tg : Expr} {is : List Nat} {g : D → Env → Option Env} {m : Env → Res (D × Env)} (h : DWE X κ E e m) (hg : DG X κ tg is g) (hs : swapsWithSole [tg] e pos.line X.env = pure false := by rfl) (hw : swappedStores [tg] e X.env = pure none := by rfl)
    (h1 : (assignEach [tg] X.env).map (·.2) = [assign tg X.env] := by rfl) : DS X κ E (.Assign [tg] e pos) (mAsgGW g m) :=
  (ps_asg h hg hs hw h1).imp fun Dn σ H ⟨F0, H0, F, ρ, S, k⟩ => ⟨F0, H0, F, ρ, S, Res.sat_imp (out_sat k) (fun p _ k v F' H' x S' r => by
    obtain ⟨ρ', e, k⟩ := ofO_sat (out_sat k)
    exact ⟨F0, H0, F', p.2, p.1, ρ', S', r, e, fun σ' F2 H2 x2 S2 _ _ => k σ' F2 H2 (x.trans x2.f) S2⟩) fun x z => err_back S z⟩
/-- a op e, e changing a slot -/
def mBinW (f : D → D → Res D) (ma : Env → Res D) (mb : Env → Res (D × Env)) : Env → Res (D × Env) := fun ρ => (ma ρ).bind fun x => (mb ρ).bind fun p => (f x p.1).bind fun d => .ok (d, p.2)
theorem de_opW {op : Operator} {r : R2} {f : D → D → Res D} (ho : OpR X (binaryOp op) r) (hf : Op2 X.K r f) (ne : ∀ x y z, f x y ≠ .err z) {ma : Env → Res D} {mb : Env → Res (D × Env)} (ha : DE X κ E a ma) (hb : DWE X κ E b mb) : DWE X κ E (.BinOp a op b pos) (mBinW f ma mb) :=
  (pe_op ho ha hb).imp fun σ H Q ⟨F0, H0, F, ρ, S, c⟩ => ⟨F0, H0, F, ρ, S, Res.sat_imp (Res.sat_bind c) (fun dx _ c1 x F1 H1 e1 r1 =>
    ⟨F0, H0, F1, ρ, S.mono e1, Res.sat_imp (Res.sat_bind c1) (fun p _ c2 y F2 H2 f2 S2 r2 => hf F2 H2 x y dx p.1 S2.sub (.inl (r1.mono f2)) (.inl r2) Q (by
      have c3 := Res.sat_bind c2
      cases q : f dx p.1 with
      | ok d => rw [q] at c3; exact fun v F' H' x3 rv => c3 v F' H' ((e1.f.trans f2).trans x3.f) (S2.mono x3) rv
      | err z => exact absurd q (ne _ _ _)
      | stk => rw [q] at c3; exact c3)) fun x z => z.mono e1⟩) fun _ z => z⟩
/-! ### x.pop() -/
def mPop (i : Nat) : Env → Res (D × Env) := fun ρ => (getL i ρ).bind fun ds => (ofO ds.getLast?).bind fun d => .ok (d, ρ.set i (some (.list ds.dropLast)))
theorem de_pop {i : Nat} {x : Str} {px : Pos} {apos cpos : Pos} (hk : (κ i).mutb = true) (hN : X.N[i]? = some x) (hv : Vis X.env.scope x)
    (hx : PE X (.Call (.Attribute (.Name x px) "pop" apos) [] [] cpos) (tBM0 X.K "list" rPop (tVar i)) := by exact pe_bm0 PySem.F.plainAttrs_list PySem.F.slot_list_pop PySem.F.type_list_pop mt_pop (pe_var (by assumption) (by assumption))) :
    DWE X κ E (.Call (.Attribute (.Name x px) "pop" apos) [] [] cpos) (mPop i) :=
  hx.imp fun σ H Q ⟨F0, H0, F, ρ, S, c⟩ => by
    obtain ⟨ds, hd, c⟩ := getL_sat (Res.sat_bind c)
    obtain ⟨d, hl, c⟩ := ofO_sat (Res.sat_bind c)
    obtain ⟨a, hs', fa, o⟩ := own_at S hk hd
    obtain ⟨vs, g, r⟩ := own_list o
    rw [List.getLast?_eq_getElem?] at hl
    obtain ⟨y, hy, ry⟩ := r.get hl
    refine ⟨.ref a, hs', .inl ⟨rfl, vs, Evl.sq_of g⟩, a, vs, y, rfl, rfl, g, by rw [r.length]; exact hy, c y F _ (Ex.refl F) ?_ ry⟩
    exact S.mut hk hd hs' (.inl ⟨vs.dropLast, ds.dropLast, rfl, upd_same, r.dropLast⟩)
end
end WD

/-! places in lists; dicts made at once; walks over dicts -/
namespace WD
open PySem PySem.Spec PyProof.Rows L2
open Evl (Ex Ex.refl Ex.trans Ex.new Ex.mut ex_l ex_t fresh_back)
section
variable {X : Cx} {κ : Nat → Kd} {E : EX} {a b c e o : Expr} {es : List Expr} {pos : Pos} {ma mb mk mv me : Env → Res D}
/-! x[k] += e -/
theorem get_listP : PGet X (rIxL X.K) := by
  intro pins s σ H x y v u Q I rx ry h
  obtain ⟨p, xs, i, z, rfl, rfl, hq, he, q⟩ := h
  cases rx
  obtain ⟨t, rfl⟩ := ry
  obtain ⟨its, r, pl, hz⟩ := I.list hq
  obtain ⟨j, h1, h2, h3, h4, h5⟩ := atI_get he
  obtain ⟨w, ew, rw'⟩ := r.get h2
  have hl := r.length
  have hn := line63
  have fin : EP X pins σ Q w s := ⟨z, H, I, rw', q⟩
  by_cases h0 : 0 ≤ i
  · have hj : i.toNat = j := by
      rw [seqIndex_of h0 h5] at h1
      exact Option.some.inj h1
    exact wpAny_getItem_list pl.isList h0 (by omega) (by rw [hj]; simpa using ew) fin
  · have hj : (i + (its.toArray.size : Int)).toNat = j := by
      rw [seqIndex_neg (by omega) h4] at h1
      rw [List.size_toArray, ← hl]
      exact Option.some.inj h1
    exact wpAny_getItem_list_neg pl.isList (by omega) (by rw [List.size_toArray] <;> omega) (by omega) (by rw [hj]; simpa using ew) fin
def mAugI (f : D → D → Res D) (i : Nat) (mk me : Env → Res D) : Env → Out := fun ρ => (getL i ρ).out fun ds => (mk ρ).out fun dk => match dk with
  | .int k => (ofO (ixN ds.length k)).out fun j => (ofO ds[j]?).out fun old => (me ρ).out fun y => (f old y).out fun z => .nx (ρ.set i (some (.list (ds.set j z))))
  | _ => .stk
theorem ds_augI {f : D → D → Res D} {g : Int → Int → Int} {i : Nat} {x : Str} {op : Operator} {px p2 : Pos} (ho : PIp X op (ipI g)) (hf0 : ∀ x y, f x y = match x, y with | .int i, .int j => .ok (.int (g i j)) | _, _ => .stk) (hk : (κ i).mutb = true) (hN : X.N[i]? = some x) (hv : Vis X.env.scope x) (hb : DE X κ E b mk) (he : DE X κ E e me)
    (ha : ∀ ov iv new, augStore b ov iv new = (do holding [new, ov, iv] (setItem ov iv new); release [new, ov, iv] []; pure .next) := by intros; rfl)
    (hdb : (x == ("__debug__" : Str)) = false := by decide) (hcd : (x == ("__classdict__" : Str)) = false := by decide) : DS X κ E (.AugAssign (.Subscript (.Name x px) b p2) op e pos) (mAugI f i mk me) :=
  (ps_augS (pe_var hN hv hdb hcd) hb get_listP he ho set_list ha).imp fun Dn σ H ⟨F0, H0, F, ρ, S, k⟩ => by
    obtain ⟨ds, hd, k⟩ := getL_sat (out_sat k)
    obtain ⟨p, hs, fa, oa⟩ := own_at S hk hd
    refine ⟨.ref p, hs, F0, H0, F, ρ, S, Res.sat_imp (out_sat k) (fun dk _ k iv F1 H1 x1 r1 => ?_) fun x z => err_back S z⟩
    have S1 := S.mono x1
    cases r1 <;> try exact k.elim
    rename_i kk hq
    obtain ⟨j, hj, k⟩ := ofO_sat (out_sat k)
    obtain ⟨old, hold, k⟩ := ofO_sat (out_sat k)
    obtain ⟨vs, g1, r1⟩ := own_list (oa.keep x1.f fun o q => x1.h p o q)
    obtain ⟨vo, hvo, ro⟩ := r1.get hold
    refine ⟨p, vs, kk, vo, rfl, rfl, Evl.sq_of g1, by unfold atI; rw [r1.length, hj]; exact hvo, F0, H0, F1, ρ, S1, Res.sat_imp (out_sat k) (fun y _ k w F2 H2 x2 r2 => ?_) fun x z => err_back S1 z⟩
    have k := out_sat k
    rw [hf0] at k
    cases ro <;> try exact k.elim
    cases r2 <;> try exact k.elim
    obtain ⟨vs2, g2, rr2⟩ := own_list ((oa.keep x1.f fun o q => x1.h p o q).keep x2.f fun o q => x2.h p o q)
    have gg := x2.h _ _ g1
    rw [g2] at gg
    cases gg
    refine ⟨_, _, rfl, rfl, p, vs, kk, j, rfl, rfl, g2, by rw [rr2.length]; exact hj, k _ F2 _ (x1.f.trans x2.f) ?_⟩
    exact (S1.mono x2).mut hk hd hs (.inl ⟨_, _, rfl, upd_same, rr2.set (.int _) j⟩)
theorem ds_incI {i : Nat} {x : Str} {px p2 : Pos} (hk : (κ i).mutb = true) (hN : X.N[i]? = some x) (hv : Vis X.env.scope x) (hb : DE X κ E b mk) (he : DE X κ E e me)
    (ha : ∀ ov iv new, augStore b ov iv new = (do holding [new, ov, iv] (setItem ov iv new); release [new, ov, iv] []; pure .next) := by intros; rfl)
    (hdb : (x == ("__debug__" : Str)) = false := by decide) (hcd : (x == ("__classdict__" : Str)) = false := by decide) : DS X κ E (.AugAssign (.Subscript (.Name x px) b p2) .Add e pos) (mAugI incD i mk me) := ds_augI ip_add (fun x y => by cases x <;> cases y <;> rfl) hk hN hv hb he ha hdb hcd
/-! x.index(e) -/
def idxD (x y : D) : Res D := match x with
  | .list ds => if flatD y = true ∧ ds.all flatD = true then (ofO ((ds.map vOf).findIdx? fun z => eqV z (vOf y))).bind fun j => .ok (.int (j : Nat)) else .stk
  | _ => .stk
theorem idxD_ne : ∀ x y z, idxD x y ≠ .err z := fun x y z h => by
  unfold idxD at h
  split at h
  · split at h
    · exact bind_ne h ofO_ne fun _ h => nomatch h
    · cases h
  · cases h
def mIdx (ma mb : Env → Res D) : Env → Res D := fun ρ => (ma ρ).bind fun x => match x with
  | .list ds => (mb ρ).bind fun y => idxD (.list ds) y
  | _ => .stk
theorem de_index {apos cpos : Pos} (ha : DB X κ E a ma) (hb : DB X κ E b mb)
    (hx : PE X (.Call (.Attribute a "index" apos) [b] [] cpos) (tBM X.K "list" (rIndex X.K) (rdB X.mg X.K κ E ma) (tCons (rdB X.mg X.K κ E mb) tNil)) := by exact pe_bm PySem.F.plainAttrs_list PySem.F.slot_list_index PySem.F.type_list_index mt_index (by assumption) (pa_cons (by assumption) pa_nil)) :
    DE X κ E (.Call (.Attribute a "index" apos) [b] [] cpos) (mIdx ma mb) :=
  hx.imp fun σ H Q ⟨F0, H0, F, ρ, S, c⟩ => by
    refine ⟨F0, H0, F, ρ, S, Res.sat_imp (Res.sat_bind c) (fun dx _ c1 x F1 H1 e1 r1 => ?_) fun _ z => z⟩
    cases dx with
    | list ds =>
      obtain ⟨p, vs, rfl, h1, rr1⟩ := r1.list e1.s
      refine ⟨.inl ⟨rfl, vs, h1⟩, F0, H0, F1, ρ, S.mono e1, Res.sat_imp (Res.sat_bind c1) (fun dy _ c2 y F2 H2 e2 r2 => ?_) fun x z => z.mono e1⟩
      unfold idxD at c2
      simp only at c2
      split at c2
      · rename_i fl
        obtain ⟨f1, f2⟩ := fl
        obtain ⟨j, hj, c2⟩ := ofO_sat (Res.sat_bind c2)
        obtain ⟨ev, fv⟩ := flat_vs rr1 f2
        obtain ⟨ey, fy⟩ : y = vOf dy ∧ flatV y = true := by
          have w := r2.whole e2.s
          exact flat_v w f1
        subst ey
        rw [← ev] at hj
        rw [List.findIdx?_eq_some_iff_getElem] at hj
        obtain ⟨hlt, p1, p2⟩ := hj
        refine ⟨p, vs, _, j, vs[j], rfl, rfl, ex_l e2.h h1, fy, fv, List.getElem?_eq_getElem hlt, p1, fun m z' hm hz => ?_, c2 _ F2 H2 (e1.trans e2) (.int _)⟩
        rw [List.getElem?_eq_getElem (by omega)] at hz
        cases hz
        exact Bool.eq_false_iff.mpr (p2 m hm)
      · exact c2.elim
    | _ => exact c1.elim
/-! x = {k: v} -/
theorem Ext.newAt {F H F' H' : Hp} {p : Addr} {o1 o2 : HO} (x : Ext F (upd H p o1) F' H') (hp : H p = none) (fp : F' p = none) : Ext F H F' (upd H' p o2) :=
  ⟨x.f, fun b u q => by
    have nb : b ≠ p := fun z => by rw [z, hp] at q; cases q
    rw [upd_ne nb]
    exact x.h b u (by rw [upd_ne nb]; exact q), fun b h1 h2 => x.o b h1 (by
    by_cases z : b = p
    · rw [z]; exact fun w => h2 (by rw [z]; exact hp)
    · rw [upd_ne z]; exact h2), fun b u q => by rw [upd_ne (ne_of_none q fp)]; exact x.s b u q, x.n⟩
/-- a new dict, owned by slot i -/
theorem Stt.setD {K : Frag} {F0 H0 F H F' H' : Hp} {σ : L2.St} {ρ : Env} (S : Stt K κ F0 H0 F H σ ρ) {i : Nat} {p : Addr} {kvs : List (Key × V)} {ds : List (D × D)} (hk : κ i = .ow) (hp : H p = none) (x : Ext F H F' H') (fp : F' p = none) (g : H' p = some (.dK kvs)) (r : RpK K F' kvs ds) :
    Stt K κ F0 H0 F' H' (σ.set i (some (.ref p))) (ρ.set i (some (.dict ds))) :=
  (S.mono x).setO hk (fresh_back S.h0 hp) fp (.inr ⟨kvs, ds, rfl, g, r⟩) fun j d w hj _ ej ow => ((S.slotAt hj ej).owned (Owns.back (S.slotAt hj ej) (fun a _ o q => x.h a o q) (fun a o q => x.s a o (x.f a o q)) ow)).2.2 hp
def mSetD1 (i : Nat) (mk mv : Env → Res D) : Env → Out := fun ρ => (mk ρ).out fun k => (mv ρ).out fun v => (ofO (keyOf k)).out fun _ => .nx (ρ.set i (some (.dict [(k, v)])))
theorem ds_setD1 {i : Nat} {x : Str} {kx vx : Expr} {pos' p2 : Pos} (hk : κ i = .ow) (hN : X.N.Nodup) (hi : X.N[i]? = some x) (hx : Loc X.env.scope x) (h1 : DE X κ E kx mk) (h2 : DE X κ E vx mv) (hs : swapsWith (.Dict [some kx] [vx] p2) (some (.Name x pos')) pos.line X.env = pure false := by rfl)
    (hf : X.fn x = true ∨ X.env.scope.names.lookup x = some .local := by first | exact .inl rfl | exact .inr rfl | assumption) : DS X κ E (.Assign [.Name x pos'] (.Dict [some kx] [vx] p2) pos) (mSetD1 i mk mv) :=
  (ps_set (i := i) hN hi hx (pe_disp (pps_cons h1 h2 pps_nil) rfl rfl (by simp) (by show 1 ≤ 15; decide)) hs hf).imp fun Dn σ H ⟨F0, H0, F, ρ, S, k⟩ => fun p hp => by
    have x0 := Ext.newO (o := .dK []) S.sub hp
    have S0 := S.mono x0
    refine ⟨F0, H0, F, ρ, S0, Res.sat_imp (out_sat k) (fun dk _ k y F1 H1 x1 r1 => ?_) fun x z => err_back S0 z⟩
    have S1 := S0.mono x1
    refine ⟨F0, H0, F1, ρ, S1, Res.sat_imp (out_sat k) (fun dv _ k v F2 H2 x2 r2 => ?_) fun x z => err_back S1 z⟩
    obtain ⟨kk, hkk, k⟩ := ofO_sat (out_sat k)
    obtain ⟨e1, e2, ko⟩ := r1.key hkk
    subst e1 e2
    have x02 := (x1.trans x2)
    have fp : F2 p = none := x02.o p (none_of_ex S.sub hp) (by rw [upd_same]; exact fun z => nomatch z)
    refine ⟨x02.h _ _ upd_same, [(kk, v)], rfl, by show 1 ≤ 15; decide, ?_⟩
    have e0 : mergeK [] [(kk, v)] = [(kk, v)] := rfl
    rw [e0]
    exact k _ F2 _ ((x0.trans x02).f) (S.setD hk hp (Ext.newAt x02 hp fp) fp upd_same (.cons ko r2 .nil))
/-! for k in d -/
def mKeysX (m : Env → Res D) : Env → Res (List D) := fun ρ => (m ρ).bind fun d => match d with
  | .dict ds => .ok (ds.map (·.1))
  | _ => .stk
theorem walk_keys {K : Frag} {F : Hp} {d : Addr} {ob : Obj} {kvs : List (Key × V)} {ds : List (D × D)} (h : F d = some (.frz ob (.dK kvs))) (r : RpK K F kvs ds) : WalkD K (fun F2 H2 => Ex F F2) (Itk d ob kvs) (ds.map (·.1)) := fun i F2 H2 g s hi => by
  have hl := r.keysA.length
  rw [List.length_map] at hl
  have hd : H2 d = some (.frz ob (.dK kvs)) := s _ _ (g _ _ h)
  refine ⟨fun hlt => ⟨⟨hd, by omega⟩, fun x H3 ⟨e, k, v, hk, ex⟩ => ?_⟩, fun e => ⟨hd, by omega⟩⟩
  subst e ex
  have hg : (kvs.map fun kv => kV kv.1)[i]? = some (kV k) := by rw [List.getElem?_map, hk]; rfl
  obtain ⟨dd, h1, h2⟩ := (r.mono g).keysA.getV hg
  exact ⟨dd, F2, h1, Ext.refl s, h2⟩
theorem di_keys {tg : Expr} (ha : DE X κ E e ma) : DI X κ E tg e (mKeysX ma) :=
  (pi_keys ha).imp fun σ H R ⟨F0, H0, F, ρ, S, k⟩ => ⟨F0, H0, F, ρ, S, Res.sat_imp (Res.sat_bind k) (fun d _ k v F' H' x r => by
    cases r with
    | @dct p kvs ds h a =>
      rcases h with h | ⟨ob, h⟩
      · exact absurd h ((x.n S.nf) p kvs)
      · exact ⟨p, ob, rfl, .inl ⟨kvs, x.s _ _ h, k _ F' H' x (walk_keys h a)⟩⟩
    | _ => exact k.elim) fun _ z => z⟩
/-! x = {k: v for t in it} -/
def compDL (g : D → Env → Option Env) (t : Env → Res Bool) (mk mv : Env → Res D) (ρ : Env) : List D → List (D × D) → Res (List (D × D))
  | [], acc => .ok acc
  | d :: ds, acc =>
    match g d ρ with
    | none => .stk
    | some ρ1 => (noErr (t ρ1)).bind fun b => if b = true then (noErr (mk ρ1)).bind fun k => (ofO (keyOf k)).bind fun kk => (noErr (mv ρ1)).bind fun v => if acc.length < sizeLine then compDL g t mk mv ρ ds (putD acc kk v) else .stk else compDL g t mk mv ρ ds acc
def mDc (it : Env → Res (List D)) (g : D → Env → Option Env) (t : Env → Res Bool) (mk mv : Env → Res D) (vs : List Nat) : Env → Res (List (D × D)) := fun ρ =>
  (it ρ).bind fun ds => noErr (compDL g t mk mv (forget vs ρ) ds [])
/-- a new dict, owned by whoever takes it -/
def rdND (mg : Mg) (K : Frag) (κ : Nat → Kd) (E : EX) (m : Env → Res (List (D × D))) : TE := fun σ H Q => ∃ F0 H0 F ρ, Stt K κ F0 H0 F H σ ρ ∧
  (m ρ).sat (fun ds => ∀ p vs F' H', Ext F H F' H' → H p = none → F' p = none → H' p = some (.dK vs) → RpK K F' vs ds → Q (.ref p) H') (ErrOk mg K (E.err σ) F H)
theorem dc_read {mg : Mg} {K : Frag} {mi : Env → Res (List D)} {is vs : List Nat} {g : D → Env → Option Env} {mt : Env → Res Bool} {mk me : Env → Res D} (his : ∀ i ∈ is, i ∈ vs) : ∀ σ H Q, rdND mg K κ E (mDc mi g mt mk me vs) σ H Q →
    tDc (rdIp mg K κ E mi) (rdG K κ is g) (rdT mg K κ EX0 mt) (rdE mg K κ EX0 mk) (rdE mg K κ EX0 me) vs σ H Q :=
  fun σ H Q ⟨F0, H0, F, ρ, S, k⟩ => ⟨F0, H0, F, ρ, S, Res.sat_imp (Res.sat_bind k) (fun ds _ k J F1 H1 x1 w Dl hD => by
    have k := noErr_sat (R' := fun _ => False) k
    cases hc : compDL g mt mk me (forget vs ρ) ds [] with
    | err x => rw [hc] at k; exact k.elim
    | stk => rw [hc] at k; exact k.elim
    | ok out =>
      rw [hc] at k
      have fD : F1 Dl = none := none_of_ex x1.s hD
      have SW := (S.mono x1).wipe vs
      refine ⟨fun i m H2 => m = ds.length - i ∧ i ≤ ds.length ∧ ∃ F2 acc ads, Ext F1 H1 F2 H2 ∧ F2 Dl = none ∧ H2 Dl = some (.dK acc) ∧ RpK K F2 acc ads ∧ compDL g mt mk me (forget vs ρ) (ds.drop i) ads = .ok out,
        ⟨ds.length, rfl, Nat.zero_le _, F1, [], [], .newO x1.s hD, fD, upd_same, .nil, hc⟩, ?_⟩
      rintro i m H2 ⟨rfl, hi, F2, acc, ads, x2, f2, h2, r2, c2⟩
      obtain ⟨w1, w2⟩ := w i F2 H2 x2 x2.s hi
      by_cases hlt : i < ds.length
      · obtain ⟨go, yl⟩ := w1 hlt
        have ed : ds.drop i = ds[i] :: ds.drop (i + 1) := List.drop_eq_getElem_cons hlt
        refine .inr ⟨go, fun H3 => ∃ F3 acc ads, Ext F1 H1 F3 H3 ∧ F3 Dl = none ∧ H3 Dl = some (.dK acc) ∧ RpK K F3 acc ads ∧ compDL g mt mk me (forget vs ρ) (ds.drop (i + 1)) ads = .ok out,
          fun H3 ⟨F3, acc, ads, z⟩ => ⟨ds.length - (i + 1), by omega, rfl, hlt, F3, acc, ads, z⟩, fun x H3 y => ?_⟩
        obtain ⟨d, F3, ed2, x3, r3⟩ := yl x H3 y
        have hd : ds[i] = d := by
          have := List.getElem?_eq_getElem hlt
          rw [this] at ed2
          exact Option.some.inj ed2
        rw [ed, hd] at c2
        unfold compDL at c2
        cases q : g d (forget vs ρ) with
        | none => rw [q] at c2; cases c2
        | some ρ1 =>
          simp only [q] at c2
          obtain ⟨b, hb, c2⟩ := bind_ok c2
          have hb := noErr_ok hb
          have x13 := x2.trans x3
          refine ⟨F0, H0, F3, forget vs ρ, d, ρ1, SW.mono x13, r3, q, fun σ4 F4 H4 x4 S4 l4 o4 => ⟨wipe_eq (by rw [l4, wipe_length]) o4 his, F0, H0, F4, ρ1, S4, ?_⟩⟩
          rw [hb]
          intro F5 H5 x5
          have x15 := (x13.trans x4).trans x5
          have nD : H2 Dl ≠ none := by rw [h2]; exact fun z => nomatch z
          have x25 := (x3.trans x4).trans x5
          have f5 : F5 Dl = none := x25.o Dl f2 nD
          cases b with
          | false =>
            exact ⟨F5, acc, ads, x15, f5, x25.h _ _ h2, r2.mono x25.f, c2⟩
          | true =>
            obtain ⟨dk, hdk, c2⟩ := bind_ok c2
            have hdk := noErr_ok hdk
            obtain ⟨kk, hkk, c2⟩ := bind_ok c2
            have hkk : keyOf dk = some kk := by
              cases z : keyOf dk with
              | none => rw [z] at hkk; cases hkk
              | some y => rw [z] at hkk; cases hkk; rfl
            obtain ⟨y, hy, c2⟩ := bind_ok c2
            have hy := noErr_ok hy
            by_cases hsz : ads.length < sizeLine
            case neg => rw [if_neg hsz] at c2; cases c2
            rw [if_pos hsz] at c2
            have S5 := S4.mono x5
            refine ⟨F0, H0, F5, ρ1, S5, ?_⟩
            rw [hdk]
            intro kv F6 H6 x6 r6
            refine ⟨F0, H0, F6, ρ1, S5.mono x6, ?_⟩
            rw [hy]
            intro yv F7 H7 x7 r7
            obtain ⟨e1, e2, ko⟩ := r6.key hkk
            have x27 := (x25.trans x6).trans x7
            have f7 : F7 Dl = none := x27.o Dl f2 nD
            have sub7 : Ex F7 (upd H7 Dl (.dK (putK acc kk yv))) := fun b u q => by rw [upd_ne (ne_of_none q f7)]; exact x27.s b u q
            have x17 := (x15.trans x6).trans x7
            refine ⟨acc, kk, e1, x27.h _ _ h2, by rw [r2.length]; exact hsz, F7, putK acc kk yv, putD ads kk y, ⟨x17.f, Ex.mut x17.h hD, x17.o, sub7, x17.n⟩, f7, upd_same, (r2.mono x27.f).put ko r7, c2⟩
      · have e : i = ds.length := by omega
        have ed : ds.drop i = [] := by rw [e, List.drop_length]
        rw [ed] at c2
        cases c2
        exact .inl ⟨w2 e, k Dl acc F2 H2 (x1.trans x2) (fresh_back x1.h hD) f2 h2 r2⟩) fun _ z => z⟩
theorem dnd_dc {kx vx tg iter : Expr} {ifs : List Expr} {scope : Scope} {own : List (Str × Nat)} {mi : Env → Res (List D)} {is : List Nat} {g : D → Env → Option Env} {mt : Env → Res Bool} (hc : X.calm = true) (hN : X.N.Nodup) (hi : DIp X κ E tg iter mi) (ok : BlkOk X.N X.env.scope scope own) (his : ∀ i ∈ is, i ∈ own.map (·.2))
    (hg : ∀ (s : Shared) (H : Hp) (C : Addr) (cl : List (Str × Addr)) (fp : List Addr), DG (X.blk s H scope (compEnvC scope cl C X.env) fp) κ tg is g) (ht : ∀ (s : Shared) (H : Hp) (C : Addr) (cl : List (Str × Addr)) (fp : List Addr), DTs (X.blk s H scope (compEnvC scope cl C X.env) fp) κ EX0 ifs mt)
    (hk : ∀ (s : Shared) (H : Hp) (C : Addr) (cl : List (Str × Addr)) (fp : List Addr), DE (X.blk s H scope (compEnvC scope cl C X.env) fp) κ EX0 kx mk)
    (he : ∀ (s : Shared) (H : Hp) (C : Addr) (cl : List (Str × Addr)) (fp : List Addr), DE (X.blk s H scope (compEnvC scope cl C X.env) fp) κ EX0 vx mv) (hs : ∀ x, foldedSetIterable iter X.env x = pure x := by intro _; rfl) :
    PE X (.DictComp kx vx [⟨tg, iter, ifs, 0⟩] scope pos) (rdND X.mg X.K κ E (mDc mi g mt mk mv (own.map (·.2)))) :=
  (pe_dc (wi := rdIp X.mg X.K κ E mi) (g := rdG X.K κ is g) (tt := rdT X.mg X.K κ EX0 mt) (tk := rdE X.mg X.K κ EX0 mk) (tv := rdE X.mg X.K κ EX0 mv) hc hN hi ok hg ht hk he hs).imp (dc_read his)
def mAsgD (i : Nat) (m : Env → Res (List (D × D))) : Env → Out := fun ρ => (m ρ).out fun ds => .nx (ρ.set i (some (.dict ds)))
theorem ds_setND {i : Nat} {x : Str} {pos' : Pos} {m : Env → Res (List (D × D))} (hk : κ i = .ow) (hN : X.N.Nodup) (hi : X.N[i]? = some x) (hx : Loc X.env.scope x) (h : PE X e (rdND X.mg X.K κ E m)) (hs : swapsWith e (some (.Name x pos')) pos.line X.env = pure false := by rfl)
    (hf : X.fn x = true ∨ X.env.scope.names.lookup x = some .local := by first | exact .inl rfl | exact .inr rfl | assumption) : DS X κ E (.Assign [.Name x pos'] e pos) (mAsgD i m) :=
  (ps_set (i := i) hN hi hx h hs hf).imp fun Dn σ H ⟨F0, H0, F, ρ, S, k⟩ => ⟨F0, H0, F, ρ, S, Res.sat_imp (out_sat k) (fun ds _ k p vs F' H' x hp fp hv r => k _ F' H' x.f (S.setD hk hp x fp hv r)) fun x z => err_back S z⟩
/-! y = {k: v for ..} on one row: the name is stored within the walk's own step -/
theorem sw_dc {kx vx : Expr} {cs : List Comprehension} {sc : Scope} {q qy : Pos} {z : Str} {row : Nat} {en : PySem.Env} (h1 : en.scope.kind = .function) (h2 : en.scope.names.lookup z = some .local) (h3 : (qy.line == q.line) = true)
    (h4 : (sc.names.any fun (n, k) => n == z && (k == .local || k == .cell)) = false) : swapsWith (.DictComp kx vx cs sc q) (some (.Name z qy)) row en = pure true := by
  have w1 : en.kindOf z = some .local := h2
  have w2 : en.blockKind = .function := by unfold Env.blockKind; rw [h1]; rfl
  unfold swapsWith
  simp only [w2, w1, h4, Expr.pos, h3]; rfl
theorem ds_setDc {i : Nat} {y : Str} {py spos : Pos} {kx vx tg iter : Expr} {ifs : List Expr} {scope : Scope} {own : List (Str × Nat)} {mi : Env → Res (List D)} {is : List Nat} {g : D → Env → Option Env} {mt : Env → Res Bool} (hk' : κ i = .ow) (hc : X.calm = true) (hN : X.N.Nodup) (hy : X.N[i]? = some y) (hyl : X.env.scope.names.lookup y = some .local)
    (hsw : swapsWith (.DictComp kx vx [⟨tg, iter, ifs, 0⟩] scope pos) (some (.Name y py)) spos.line X.env = pure true) (hi : DIp X κ E tg iter mi) (ok : BlkOk X.N X.env.scope scope own) (his : ∀ i ∈ is, i ∈ own.map (·.2))
    (hg : ∀ (s : Shared) (H : Hp) (C : Addr) (cl : List (Str × Addr)) (fp : List Addr), DG (X.blk s H scope (compEnvC scope cl C X.env) fp) κ tg is g) (ht : ∀ (s : Shared) (H : Hp) (C : Addr) (cl : List (Str × Addr)) (fp : List Addr), DTs (X.blk s H scope (compEnvC scope cl C X.env) fp) κ EX0 ifs mt)
    (hk : ∀ (s : Shared) (H : Hp) (C : Addr) (cl : List (Str × Addr)) (fp : List Addr), DE (X.blk s H scope (compEnvC scope cl C X.env) fp) κ EX0 kx mk)
    (he : ∀ (s : Shared) (H : Hp) (C : Addr) (cl : List (Str × Addr)) (fp : List Addr), DE (X.blk s H scope (compEnvC scope cl C X.env) fp) κ EX0 vx mv) (hs : ∀ x, foldedSetIterable iter X.env x = pure x := by intro _; rfl) :
    DS X κ E (.Assign [.Name y py] (.DictComp kx vx [⟨tg, iter, ifs, 0⟩] scope pos) spos) (mAsgD i (mDc mi g mt mk mv (own.map (·.2)))) := by
  refine ⟨fun pins s σ H D I hh => ?_⟩
  obtain ⟨F0, H0, F, ρ, S, k⟩ := hh
  have hyp : tDc (rdIp X.mg X.K κ E mi) (rdG X.K κ is g) (rdT X.mg X.K κ EX0 mt) (rdE X.mg X.K κ EX0 mk) (rdE X.mg X.K κ EX0 mv) (own.map (·.2)) σ H (fun u J => D.nx (σ.set i (some u)) J) :=
    dc_read (mg := X.mg) (K := X.K) (E := E) his σ H _ ⟨F0, H0, F, ρ, S, Res.sat_imp (out_sat k) (fun ds _ k p vs F' H' x hp fp hv r => k _ F' H' x.f (S.setD hk' hp x fp hv r)) fun x z => err_back S z⟩
  rw [exec_Assign_Name_used _ _ _ _ hsw]
  refine wpAny_bind (wpAny_standAt (wpAny_bind ?_))
  show wpAny _ X.A (do let _ ← comprehension (.DictComp kx vx [⟨tg, iter, ifs, 0⟩] scope pos) scope X.env (firstIterPos [⟨tg, iter, ifs, 0⟩] pos) newDict false (eval iter X.env) (some (assign (.Name y py) X.env))) _ _ s
  refine wpAny_bind (thn (dc_core (Qf := fun _ t => SP X pins D .next t) (wi := rdIp X.mg X.K κ E mi) (g := rdG X.K κ is g) (tt := rdT X.mg X.K κ EX0 mt) (tk := rdE X.mg X.K κ EX0 mk) (tv := rdE X.mg X.K κ EX0 mv) hc hN I hi ok hg ht hk he hs hyp fun L C t m J I1 q1 nC fC => ?_) fun _ t ht => wpAny_pure (wpAny_pure ht))
  show wpAny _ _ (assign (.Name y py) X.env (.ref L)) _ _ _
  obtain ⟨p0, p1, p2, p3, p4, p5⟩ := fC
  refine wpAny_assign_Name (store_ok2 (v := V.ref L) I1 hN hy (.inl hyl) rfl (fun t2 I2 w => ?_) (.inr hyl))
  obtain ⟨l, same, hl⟩ := w
  have nl : C ≠ l := by
    rcases hl with z | z
    · rw [z]; exact p1
    · exact Ne.symm fun e => p4 y l z e
  refine ⟨m, nC.sameBut same nl, fun t3 same3 => ⟨_, J, I2.turned (t' := t2.toks) (fun b o hb e => ?_) p0 p1 p3 p4 p5, q1⟩⟩
  exact (same3.2 b hb).trans e
theorem de_addW {mb : Env → Res (D × Env)} (ha : DE X κ E a ma) (hb : DWE X κ E b mb) : DWE X κ E (.BinOp a .Add b pos) (mBinW addD ma mb) := de_opW op_addA op2_add addD_ne ha hb
/-! what goes straight on -/
theorem sg_retW {j : Nat} {m : Env → Res D} : Straight (mRetW j m) := fun ρ => sg_out fun _ => sg_out fun _ => sg_rt
theorem sg_asgW {i : Nat} {m : Env → Res (D × Env)} : Straight (mAsgW i m) := fun ρ => sg_out fun _ => sg_nx
theorem sg_exprW {m : Env → Res (D × Env)} : Straight (mExprW m) := fun ρ => sg_out fun _ => sg_nx
theorem sg_asgGW {g : D → Env → Option Env} {m : Env → Res (D × Env)} : Straight (mAsgGW g m) := fun ρ => sg_out fun _ => sg_out fun _ => sg_nx
theorem sg_asgD {i : Nat} {m : Env → Res (List (D × D))} : Straight (mAsgD i m) := fun ρ => sg_out fun _ => sg_nx
theorem sg_setD1 {i : Nat} {mk mv : Env → Res D} : Straight (mSetD1 i mk mv) := fun ρ => sg_out fun _ => sg_out fun _ => sg_out fun _ => sg_nx
theorem sg_augI {f : D → D → Res D} {i : Nat} {mk me : Env → Res D} : Straight (mAugI f i mk me) := fun ρ => sg_out fun ds => sg_out fun dk => by
  cases dk <;> first | exact sg_stk | exact sg_out fun _ => sg_out fun _ => sg_out fun _ => sg_out fun _ => sg_nx
theorem fn_stuckW {P : Program} {w : World} {K : Frag} {mg : Mg} {base : Heap} {f : Addr} {fd : FuncData} {ps : List Str} {j : Nat} (k : Nat) : FnOk P w K mg base (L2N.CX P w) k f fd ps (spW mg K ps.length j (fun _ => .stk)) :=
  ⟨fun vs H Q E h => h.1, fun A outer s H args us vs Q E _ _ _ _ h => by
    obtain ⟨_, F, a, ds, _, _, _, _, _, _, _, c⟩ := h
    exact c.elim⟩
end
end WD

/-! walks from behind -/
namespace WD
open PySem PySem.Spec PyProof.Rows L2
open Evl (Ex Ex.refl Ex.trans Ex.new Ex.mut ex_l ex_t fresh_back)
section
variable {X : Cx} {κ : Nat → Kd} {E : EX} {a b c e o : Expr} {es : List Expr} {pos p : Pos} {ma mb mk mv me : Env → Res D}
theorem rev_get {α : Type} {ds : List α} {i : Nat} (h : i < ds.length) : ds.reverse[i]? = ds[ds.length - 1 - i]? := List.getElem?_reverse h
theorem walk_revL {K : Frag} {F : Hp} {q : Addr} {vs : List V} {ds : List D} (h : SqL K F q vs) (r : RpA K F vs ds) : WalkD K (fun F2 H2 => Ex F F2) (Itv K q vs.length) ds.reverse := fun i F2 H2 g s hi => by
  have hl := r.length
  rw [List.length_reverse] at hi ⊢
  have hd : SqL K H2 q vs := ex_l s (ex_l g h)
  refine ⟨fun hlt => ?_, fun e => by show vs.length ≤ i; omega⟩
  have hv : vs[vs.length - 1 - i]? = some vs[vs.length - 1 - i] := List.getElem?_eq_getElem (by omega)
  obtain ⟨d, h1, h2⟩ := (r.mono g).getV hv
  refine ⟨⟨by omega, vs, _, hd, hv⟩, fun x H3 ⟨e, hx⟩ => ?_⟩
  subst e
  have ex := hx vs hd
  rw [hv] at ex
  cases ex
  exact ⟨d, F2, by rw [rev_get hlt, ← hl]; exact h1, Ext.refl s, h2⟩
theorem walk_revT {K : Frag} {F : Hp} {q : Addr} {vs : List V} {ds : List D} (h : SqT K F q vs) (r : RpA K F vs ds) : WalkD K (fun F2 H2 => Ex F F2) (RT.ItvT K q vs.length) ds.reverse := fun i F2 H2 g s hi => by
  have hl := r.length
  rw [List.length_reverse] at hi ⊢
  have hd : SqT K H2 q vs := ex_t s (ex_t g h)
  refine ⟨fun hlt => ?_, fun e => by show vs.length ≤ i; omega⟩
  have hv : vs[vs.length - 1 - i]? = some vs[vs.length - 1 - i] := List.getElem?_eq_getElem (by omega)
  obtain ⟨d, h1, h2⟩ := (r.mono g).getV hv
  refine ⟨⟨by omega, vs, _, hd, hv⟩, fun x H3 ⟨e, hx⟩ => ?_⟩
  subst e
  have ex := hx vs hd
  rw [hv] at ex
  cases ex
  exact ⟨d, F2, by rw [rev_get hlt, ← hl]; exact h1, Ext.refl s, h2⟩
def mRev (m : Env → Res D) : Env → Res (List D) := fun ρ => (m ρ).bind fun d => (seqD d).bind fun ds => .ok ds.reverse
theorem di_rev {tg : Expr} (hg : Gl X "reversed") (hm : X.mg "reversed" = none) (ha : DE X κ E e ma) (hs : starEach [e] X.env = (false, eval e X.env) :: starEach [] X.env := by rfl) : DI X κ E tg (.Call (.Name "reversed" p) [e] [] pos) (mRev ma) :=
  (RT.pi_revA hg hm ha hs).imp fun σ H R ⟨F0, H0, F, ρ, S, k⟩ => ⟨F0, H0, F, ρ, S, Res.sat_imp (Res.sat_bind k) (fun d _ k v F' H' x r => by
    cases r with
    | @lst q vs ds h a => exact ⟨q, vs, rfl, .inl ⟨ex_l x.s h, k _ F' H' x (walk_revL h a)⟩⟩
    | @tup q vs ds h a => exact ⟨q, vs, rfl, .inr ⟨ex_t x.s h, k _ F' H' x (walk_revT h a)⟩⟩
    | _ => exact k.elim) fun _ z => z⟩
end
end WD

namespace PySem
open Sem (wp)
/-- what is left of a list behind `del xs[a:b]` -/
def cutOut (a b : Int) (xs : Array Value) : Array Value := (xs.toList.zipIdx.filterMap fun p => if (decide (a ≤ (p.2 : Int)) && decide ((p.2 : Int) < b) && (((p.2 : Int) - a) % 1 == 0)) = true then none else some p.1).toArray
theorem cutOut_size (a b : Int) (xs : Array Value) : (cutOut a b xs).size ≤ xs.size := by
  unfold cutOut
  rw [List.size_toArray]
  refine Nat.le_trans (List.length_filterMap_le _ _) ?_
  simp
theorem cut_tail {α : Type} (k : Nat) : ∀ (xs : List α) (j : Nat), (xs.zipIdx j).filterMap (fun p => if (decide ((k : Int) ≤ (p.2 : Int)) && decide ((p.2 : Int) < ((j + xs.length : Nat) : Int)) && (((p.2 : Int) - (k : Int)) % 1 == 0)) = true then none else some p.1) = xs.take (k - j)
  | [], j => by simp
  | x :: xs, j => by
    have ih := cut_tail k xs (j + 1)
    have e : (j + (x :: xs).length) = (j + 1 + xs.length) := by simp; omega
    rw [List.zipIdx_cons, List.filterMap_cons, e, ih]
    have m : ∀ z : Int, z % 1 = 0 := fun z => Int.emod_one z
    by_cases h : k ≤ j
    · have c : (decide ((k : Int) ≤ (j : Int)) && decide ((j : Int) < ((j + 1 + xs.length : Nat) : Int)) && (((j : Int) - (k : Int)) % 1 == 0)) = true := by
        rw [m]; simp; omega
      simp only [c, if_true]
      rw [show k - (j + 1) = 0 by omega, show k - j = 0 by omega]; simp
    · have c : (decide ((k : Int) ≤ (j : Int)) && decide ((j : Int) < ((j + 1 + xs.length : Nat) : Int)) && (((j : Int) - (k : Int)) % 1 == 0)) = false := by
        have : ¬ ((k : Int) ≤ (j : Int)) := by omega
        simp [this]
      simp only [c, Bool.false_eq_true, if_false]
      rw [show k - j = (k - (j + 1)) + 1 by omega, List.take_succ_cons]
section
variable {prog : Program} {w : World} {A : Around} {E : Value → Shared → Prop} {s : Shared}
theorem wd_delSlice {q z : Addr} {its : Array Value} {n : Nat} {v1 v2 : Value} {b1 b2 : Option Int} {Q : Unit → Shared → Prop} (hq : s.heap.get? q = some { cls := .type "list", data := .seq its n })
    (hz : s.heap.IsSliceOf z v1 v2 .none) (p1 : IsPart v1 b1) (p2 : IsPart v2 b2) (hsz : its.size ≤ sizeLine)
    (h : ∀ f : Array Value → Array Value, (∀ xs, f xs = cutOut (sliceBounds b1 b2 none its.size).1 (sliceBounds b1 b2 none its.size).2.1 xs) → Q () { s with heap := s.heap.update q (Obj.mapSeq f) }) : wpAny (model prog w) A (delItem (.ref q) (.ref z)) Q E s := by
  obtain ⟨oz, hoz, hcz, hdz⟩ := id hz
  have tz : s.TypeIs (.ref z) "slice" := ⟨oz, hoz, hcz⟩
  refine wpAny_delItem_slot ⟨_, hq, rfl⟩ (by decide) F.slot_list_delitem (wpAny_call_entry F.slot_list_delitem ⟨_, hq, rfl⟩ F.entry_list_delitem ?_ (F.args_list_delitem_2 _ _))
  show wpAny _ _ (Builtin.List.listSubscript? (.ref z) >>= _) _ _ s
  refine wpAny_bind ?_; unfold Builtin.List.listSubscript?
  refine wpAny_bind (wpAny_specialOf tz slice_no_index ?_)
  simp only [if_true, Option.isNone_none]
  refine wpAny_pure ?_
  show wpAny _ _ (typeOf (.ref z) >>= _) _ _ s
  refine wpAny_bind (wpAny_typeOf tz ?_)
  rw [if_neg (by decide)]
  rw [listSliceParts_eq]
  refine wpAny_bind (wpAny_bind (wpAny_field hoz hdz (x := .none) rfl (wpAny_bind (wpAny_listPart .none ?_))))
  rw [if_neg (show ¬ ((rawPart none == rawInt 0) = true) from Bool.false_ne_true)]
  refine wpAny_bind (wpAny_field hoz hdz (x := v1) rfl (wpAny_bind (wpAny_listPart p1 ?_)))
  refine wpAny_bind (wpAny_field hoz hdz (x := v2) rfl (wpAny_bind (wpAny_listPart p2 (wpAny_pure ?_))))
  refine wpAny_bind (m := Builtin.List.listItems (.ref q)) ?_; unfold Builtin.List.listItems
  refine wpAny_bind (wpAny_seqItems hq rfl (wpAny_pure ?_))
  refine wpAny_bind (wpAny_of_eq (sliceIndices_raw b1 b2 none its.size (by simp)) ?_)
  refine wpAny_bind (m := Builtin.List.listUpdate (.ref q) _) ?_
  unfold Builtin.List.listUpdate
  refine wpAny_updateSeq hq rfl ?_ (hz := hsz) (_hz' := ?_)
  · refine wpAny_bind (wpAny_letGo ?_)
    exact wpAny_pure ⟨_, rfl, h _ fun xs => rfl⟩
  · exact Nat.le_trans (cutOut_size (sliceBounds b1 b2 none its.size).1 (sliceBounds b1 b2 none its.size).2.1 its) (Nat.le_succ_of_le hsz)
end
end PySem
namespace WD
open PySem PySem.Spec PyProof.Rows L2
open Evl (Ex Ex.refl Ex.trans Ex.new Ex.mut ex_l ex_t fresh_back)
section
variable {X : Cx} {κ : Nat → Kd} {E : EX} {a b c e o : Expr} {es : List Expr} {pos p : Pos} {ma mb mk mv me : Env → Res D}
def tDelT (to ti : TE) : TS := fun D σ H => to σ H fun x H1 => ti σ H1 fun y H2 => ∃ (l : Addr) (xs : List V) (k : Nat), x = .ref l ∧ y = .int (k : Nat) ∧ H2 l = some (.lst xs) ∧ D.nx σ (upd H2 l (.lst (xs.take k)))
theorem ps_delTail {o e : Expr} {to ti : TE} {tpos sp : Pos} (ho : PE X o to) (he : PE X e ti) : PS X (.Delete [.Subscript o (.Slice (some e) none none sp) tpos] pos) (tDelT to ti) := by
  refine ⟨fun pins s σ H D I h => ?_⟩
  refine wpAny_Delete (wpAny_deleteEach_cons (wpAny_delete_Subscript (thn (ho.run pins s σ H _ I h) fun u s1 ⟨x, H1, I1, rx, q1⟩ => wpAny_Slice ?_)))
  refine thn (he.run pins s1 σ H1 _ I1 q1) fun iv s2 w => ?_
  obtain ⟨y, H2, I2, ry, l, xs, k, ex, ey, hH, q2⟩ := w
  subst ex ey
  cases (show u = Value.ref l from rx)
  obtain ⟨t, rfl⟩ := (show ∃ t, iv = Value.int (k : Int) t from ry)
  refine wpAny_pure (wpAny_pure ?_)
  have I3 : Inv X pins σ H2 { s2 with heap := s2.heap.push { cls := .type "slice", data := .fields #[.int (k : Int) t, .none, .none] }, toks := s2.toks } := I2.kept fun b u q => Heap.get?_push_of_some _ q
  obtain ⟨z, its, n, r, hl, eo⟩ := I3.lstM hH
  refine wd_delSlice eo (Heap.IsSliceOf.new ..) (.int _ _) .none (by rw [List.size_toArray]; omega) fun f hf => ?_
  refine wpAny_deleteEach_nil ⟨σ, _, I3.lset (its' := its.take k) (t' := s2.toks) hH eo ?_ (r.take k) ?_, q2⟩
  · rw [hf]
    unfold cutOut sliceBounds
    simp only [Option.getD_none, List.size_toArray]
    have e1 : max (0 : Int) (min (if (k : Int) < 0 then (k : Int) + (its.length : Int) else (k : Int)) (its.length : Int)) = ((min k its.length : Nat) : Int) := by
      rw [if_neg (by omega)]; omega
    have e2 := cut_tail (min k its.length) its 0
    rw [Nat.zero_add, Nat.sub_zero] at e2
    simp only [show (1 : Int) > 0 from by decide, if_true, e1]
    rw [e2]
    congr 1
    exact (List.take_eq_take_min ..).symm
  · rw [List.length_take]; omega
/-- del x[k:] -/
def mDelT (i : Nat) (mk : Env → Res D) : Env → Out := fun ρ => (getL i ρ).out fun ds => (mk ρ).out fun dk => match dk with
  | .int k => if 0 ≤ k then .nx (ρ.set i (some (.list (ds.take k.toNat)))) else .stk
  | _ => .stk
theorem ds_delTail {i : Nat} {x : Str} {px tpos sp : Pos} (hk : (κ i).mutb = true) (hN : X.N[i]? = some x) (hv : Vis X.env.scope x) (hb : DE X κ E b mk)
    (hdb : (x == ("__debug__" : Str)) = false := by decide) (hcd : (x == ("__classdict__" : Str)) = false := by decide) : DS X κ E (.Delete [.Subscript (.Name x px) (.Slice (some b) none none sp) tpos] pos) (mDelT i mk) :=
  (ps_delTail (pe_var hN hv hdb hcd) hb).imp fun Dn σ H ⟨F0, H0, F, ρ, S, k⟩ => by
    obtain ⟨ds, hd, k⟩ := getL_sat (out_sat k)
    obtain ⟨p, hs, fa, oa⟩ := own_at S hk hd
    refine ⟨.ref p, hs, F0, H0, F, ρ, S, Res.sat_imp (out_sat k) (fun dk _ k iv F1 H1 x1 r1 => ?_) fun x z => err_back S z⟩
    cases r1 with
    | int kk =>
      simp only at k
      by_cases h0 : 0 ≤ kk
      · rw [if_pos h0] at k
        obtain ⟨vs, g1, r2⟩ := own_list (oa.keep x1.f fun o q => x1.h p o q)
        refine ⟨p, vs, kk.toNat, rfl, by rw [Int.toNat_of_nonneg h0], g1, k _ F1 _ x1.f ?_⟩
        exact (S.mono x1).mut hk hd hs (.inl ⟨_, _, rfl, upd_same, r2.take kk.toNat⟩)
      · rw [if_neg h0] at k; exact k.elim
    | _ => exact k.elim
theorem sg_delT {i : Nat} {mk : Env → Res D} : Straight (mDelT i mk) := fun ρ => sg_out fun ds => sg_out fun dk => by
  cases dk <;> first | exact sg_stk | exact sg_ite sg_nx sg_stk
end
end WD

/-! a def that changes a parameter, called with something new there that nobody else has -/
namespace WD
open PySem PySem.Spec PyProof.Rows L2
open Evl (Ex Ex.refl Ex.trans Ex.new Ex.mut ex_l ex_t fresh_back)
section
variable {X : Cx} {κ : Nat → Kd} {E : EX} {a b c e o : Expr} {es : List Expr} {pos p : Pos} {ma mb mk mv me mf : Env → Res D}
def rdF (mg : Mg) (K : Frag) (κ : Nat → Kd) (E : EX) (m : Env → Res D) : TE := fun σ H Q => ∃ F0 H0 F ρ, Stt K κ F0 H0 F H σ ρ ∧
  (m ρ).sat (fun d => ∀ q F' H', Ext F H F' H' → H q = none → F' q = none → OwnAt K F' H' q d → Q (.ref q) H') (ErrOk mg K (E.err σ) F H)
def DF (X : Cx) (κ : Nat → Kd) (E : EX) (e : Expr) (m : Env → Res D) : Prop := PE X e (rdF X.mg X.K κ E m)
theorem df_list {m : Env → Res (List D)} (h : DN X κ E e m) : DF X κ E e (mList m) := h.imp fun σ H Q ⟨F0, H0, F, ρ, S, c⟩ =>
  ⟨F0, H0, F, ρ, S, Res.sat_imp (Res.sat_bind c) (fun ds _ k q vs F' H' x hq fq hv r => k q F' H' x hq fq (.inl ⟨vs, ds, rfl, hv, r⟩)) fun _ z => z⟩
theorem df_dict : DF X κ E (.Dict [] [] pos) (mC (.dict [])) := (pe_dnewK).imp fun σ H Q ⟨F0, H0, F, ρ, S, c⟩ => fun q hq =>
  c q F _ (Ext.newO S.sub hq) hq (none_of_ex S.sub hq) (.inr ⟨[], [], rfl, upd_same, .nil⟩)
def rdAF (mg : Mg) (K : Frag) (κ : Nat → Kd) (E : EX) (ma : Env → Res (List D)) (mf : Env → Res D) : TA := fun σ H Q => ∃ F0 H0 F ρ, Stt K κ F0 H0 F H σ ρ ∧
  (ma ρ).sat (fun ds => (mf ρ).sat (fun d => ∀ vs q F' H', Ext F H F' H' → H q = none → F' q = none → OwnAt K F' H' q d → RpA K F' vs ds → Q (vs ++ [.ref q]) H') (ErrOk mg K (E.err σ) F H)) (ErrOk mg K (E.err σ) F H)
def DAF (X : Cx) (κ : Nat → Kd) (E : EX) (es : List Expr) (ma : Env → Res (List D)) (mf : Env → Res D) : Prop := PA X es (rdAF X.mg X.K κ E ma mf)
theorem daf_one (h : DF X κ E e mf) (hst : starEach [e] X.env = (false, eval e X.env) :: starEach [] X.env := by rfl) : DAF X κ E [e] mNil mf :=
  (pa_cons h pa_nil hst).imp fun σ H Q ⟨F0, H0, F, ρ, S, c⟩ => ⟨F0, H0, F, ρ, S, Res.sat_imp c (fun d _ k q F' H' x hq fq o => k [] q F' H' x hq fq o .nil) fun _ z => z⟩
theorem daf_cons {m : Env → Res D} {ma : Env → Res (List D)} (h : DE X κ E e m) (hs : DAF X κ E es ma mf) (hst : starEach (e :: es) X.env = (false, eval e X.env) :: starEach es X.env := by rfl) : DAF X κ E (e :: es) (mCons m ma) mf :=
  (pa_cons h hs hst).imp fun σ H Q ⟨F0, H0, F, ρ, S, c⟩ => ⟨F0, H0, F, ρ, S, Res.sat_imp (Res.sat_bind c) (fun d _ k v F' H' x r =>
    ⟨F0, H0, F', ρ, S.mono x, Res.sat_imp (Res.sat_bind k) (fun ds _ k => Res.sat_imp k (fun df _ k vs q F2 H2 x2 hq fq o r2 => k (v :: vs) q F2 H2 (x.trans x2) (fresh_back x.h hq) fq o (.cons (r.mono x2.f) r2)) fun y z => z.mono x) fun y z => z.mono x⟩) fun _ z => z⟩
def fstD : D → Res D
  | .tuple [x, _] => .ok x
  | _ => .stk
def mCallF (m : List D → Res D) (ma : Env → Res (List D)) (mf : Env → Res D) : Env → Res D := fun ρ => (ma ρ).bind fun ds => (mf ρ).bind fun d => (noErr (m (ds ++ [d]))).bind fstD
theorem de_callF {k j : Nat} {x : Str} {ps : List Str} {m : List D → Res D} {ma : Env → Res (List D)} (G : FnW X.prog X.w X.K X.mg X.base k x ps j m) (hr : Room k X.A) (hx : ∀ σ, PassesAt (L2N.CX X.prog X.w) X σ (E.err σ)) (hg : Gl X x) (ha : DAF X κ E (e :: es) ma mf)
    (hma : ∀ ρ ds, ma ρ = .ok ds → ds.length = j) (hj : j + 1 = ps.length)
    (hdb : (x == ("__debug__" : Str)) = false := by decide) (he : starEach (e :: es) X.env = (false, eval e X.env) :: starEach es X.env := by rfl) (hpl : (backTo pos (starEach es X.env)).any (·.1) = false := by rfl) :
    DE X κ E (.Call (.Name x p) (e :: es) [] pos) (mCallF m ma mf) := by
  obtain ⟨f, fd, hm, hkp, hb, hF⟩ := G.ex
  refine (pe_callS hF hr hg hm hkp hb hx ha hdb he hpl).imp fun σ H Q ⟨F0, H0, F, ρ, S, c⟩ => ⟨F0, H0, F, ρ, S, Res.sat_imp (Res.sat_bind c) (fun ds q1 c => Res.sat_imp (Res.sat_bind c) (fun d _ c vs q F' H' x hq fq o r => ?_) fun _ z => z) fun _ z => z⟩
  have l1 := hma ρ ds q1
  have e1 := r.length
  have c := noErr_sat (R' := fun _ => False) (Res.sat_bind c)
  refine ⟨by rw [List.length_append, List.length_singleton]; omega, F', q, ds ++ [d], x.s, x.n S.nf, fq, by rw [List.getElem?_append_right (by omega), show j - vs.length = 0 by omega]; rfl, by rw [List.length_append, List.length_singleton]; omega, fun d' hd => ?_, fun i d' ni hd => ?_, Res.sat_imp c (fun rr _ k x1 x2 v F2 H2 er y2 rv fa2 o2 => ?_) fun _ z => z⟩
  · rw [List.getElem?_append_right (by omega), show j - ds.length = 0 by omega] at hd
    cases hd
    exact o
  · have hi : i < ds.length := by
      refine Classical.byContradiction fun z => ?_
      rw [List.getElem?_append_right (by omega), show i - ds.length = (i - ds.length - 1) + 1 by omega] at hd
      simp at hd
    rw [List.getElem?_append_left hi] at hd
    obtain ⟨v, g1, g2⟩ := r.get hd
    exact ⟨v, by rw [List.getElem?_append_left (by omega)]; exact g1, g2⟩
  · subst er
    refine k v F2 H2 ⟨x.f.trans y2.f, fun b u hu => ?_, fun b h1 h2 => ?_, y2.s, fun n => y2.n (x.n n)⟩ rv
    · have nb : b ≠ q := fun z => by rw [z, hq] at hu; cases hu
      exact y2.h b u (by rw [delH_ne nb]; exact x.h b u hu)
    · have nb : b ≠ q := fun z => h2 (by rw [z]; exact hq)
      have h3 := x.o b h1 h2
      refine y2.o b h3 ?_
      rw [delH_ne nb]
      obtain ⟨u, hu⟩ := Option.ne_none_iff_exists'.mp h2
      rw [x.h b u hu]
      simp
end
end WD

/-! sorted(d), the keys whole numbers -/
namespace WD
open PySem PySem.Spec PyProof.Rows L2
open Evl (Ex Ex.refl Ex.trans Ex.new Ex.mut ex_l ex_t fresh_back)
section
variable {X : Cx} {κ : Nat → Kd} {E : EX} {a b c e o : Expr} {es : List Expr} {pos p : Pos} {ma mb mk mv me : Env → Res D}
def keyIs : List (D × D) → Option (List Int)
  | [] => some []
  | (.int i, _) :: ds => (keyIs ds).map (i :: ·)
  | _ => none
def srtI (ks : List Int) : List Int := ks.mergeSort fun i j => decide (i ≤ j)
theorem srtI_perm (ks : List Int) : (srtI ks).Perm ks := List.mergeSort_perm _ _
theorem srtI_pair (ks : List Int) : (srtI ks).Pairwise (· ≤ ·) := by
  have := List.pairwise_mergeSort (le := fun i j : Int => decide (i ≤ j)) (fun a b c h1 h2 => by simp at *; omega) (fun a b => by simp; omega) ks
  exact this.imp fun h => by simpa using h
theorem pair_uniq : ∀ {xs ys : List Int}, xs.Perm ys → xs.Pairwise (· ≤ ·) → ys.Pairwise (· ≤ ·) → xs = ys
  | [], ys, h, _, _ => by rw [List.nil_perm.mp h]
  | x :: xs, [], h, _, _ => by have := h.length_eq; simp at this
  | x :: xs, y :: ys, h, h1, h2 => by
    obtain ⟨a1, a2⟩ := List.pairwise_cons.mp h1
    obtain ⟨b1, b2⟩ := List.pairwise_cons.mp h2
    have hx : x ∈ y :: ys := h.mem_iff.mp (by simp)
    have hy : y ∈ x :: xs := h.mem_iff.mpr (by simp)
    have e : x = y := by
      rcases List.mem_cons.mp hx with z | z
      · exact z
      · rcases List.mem_cons.mp hy with w | w
        · exact w.symm
        · have := b1 x z
          have := a1 y w
          omega
    subst e
    rw [pair_uniq ((List.perm_cons x).mp h) a2 b2]
theorem keyIs_v {K : Frag} {F : Hp} : ∀ {kvs : List (Key × V)} {ds : List (D × D)} {ks : List Int}, RpK K F kvs ds → keyIs ds = some ks → kvs.map (·.1) = ks.map Sum.inl
  | _, _, ks, .nil, h => by cases h; rfl
  | _, _, ks, .cons (k := k) ko r a, h => by
    cases k with
    | inl i =>
      obtain ⟨rs, h1, h2⟩ := Option.map_eq_some_iff.mp (show (keyIs _).map (i :: ·) = some ks from h)
      subst h2
      rw [List.map_cons, List.map_cons, keyIs_v a h1]
    | inr x => cases h
def mSortD (m : Env → Res D) : Env → Res (List D) := fun ρ => (m ρ).bind fun d => match d with
  | .dict ds => (ofO (keyIs ds)).bind fun ks => if ks.length < 64 then .ok ((srtI ks).map PyData.int) else .stk
  | _ => .stk
theorem ints_rpA {K : Frag} {F : Hp} : ∀ ns : List Int, RpA K F (ns.map V.int) (ns.map PyData.int)
  | [] => .nil
  | n :: ns => .cons (.int n) (ints_rpA ns)
theorem dn_sortD (hc : X.calm = true) (hg : Gl X "sorted") (hm : X.mg "sorted" = none) (ha : DB X κ E e ma) (hv : bootBuiltins "sorted" = some (.builtin "sorted") := by decide +kernel) (he : starEach [e] X.env = (false, eval e X.env) :: starEach [] X.env := by rfl) (hpl : (backTo pos (starEach [] X.env)).any (·.1) = false := by rfl) : DN X κ E (.Call (.Name "sorted" p) [e] [] pos) (mSortD ma) :=
  (pe_callB (call_sortedDI hc) hg hm hv (pa_cons ha pa_nil he) (by decide) (by decide) he hpl).imp fun σ H Q ⟨F0, H0, F, ρ, S, c⟩ => ⟨F0, H0, F, ρ, S, Res.sat_imp (Res.sat_bind c) (fun d _ k v F' H' x r => by
    cases d with
    | dict ds =>
      obtain ⟨ks, hk, k⟩ := ofO_sat (Res.sat_bind k)
      by_cases z : ks.length < 64
      · simp only [if_pos z] at k
        obtain ⟨q, kvs, rfl, h, rk⟩ := r.dict x.s
        refine ⟨q, kvs, ks, rfl, h, keyIs_v rk hk, z, fun ys q2 hp hs hq => ?_⟩
        have e : ys = srtI ks := pair_uniq (hp.trans (srtI_perm ks).symm) hs (srtI_pair ks)
        subst e
        exact k q2 _ F' _ (x.trans (.newO x.s hq)) (fresh_back x.h hq) (none_of_ex x.s hq) upd_same (ints_rpA _)
      · simp only [if_neg z] at k; exact k.elim
    | _ => exact k.elim) fun _ z => z⟩
end
end WD

/-! x[k] = e, x a list that is owned -/
namespace WD
open PySem PySem.Spec PyProof.Rows L2
open Evl (Ex Ex.refl Ex.trans Ex.new Ex.mut ex_l ex_t fresh_back)
section
variable {X : Cx} {κ : Nat → Kd} {E : EX} {a b c e o : Expr} {es : List Expr} {pos p : Pos} {ma mb mk mv me : Env → Res D}
def mLPut (i : Nat) (mk mv : Env → Res D) : Env → Out := fun ρ => (mv ρ).out fun v => (getL i ρ).out fun ds => (mk ρ).out fun dk => match dk with
  | .int k => (ofO (ixN ds.length k)).out fun j => .nx (ρ.set i (some (.list (ds.set j v))))
  | _ => .stk
theorem ds_lput {i : Nat} {x : Str} {px p2 : Pos} (hk : (κ i).mutb = true) (hN : X.N[i]? = some x) (hv : Vis X.env.scope x) (hb : DE X κ E b mk) (he : DE X κ E e mv) (hs : swapsWithSole [.Subscript (.Name x px) b p2] e pos.line X.env = pure false := by rfl) (hw : swappedStores [.Subscript (.Name x px) b p2] e X.env = pure none := by rfl)
    (h1 : (assignEach [.Subscript (.Name x px) b p2] X.env).map (·.2) = [assign (.Subscript (.Name x px) b p2) X.env] := by rfl)
    (ha : ∀ w, assign (.Subscript (.Name x px) b p2) X.env w = (do let o1 ← holding [w] (eval (.Name x px) X.env); let i1 ← holding [w, o1] (eval b X.env); standAt p2; holding [w, o1, i1] (setItem o1 i1 w); release [w, o1, i1] []) := by intro _; rfl)
    (hdb : (x == ("__debug__" : Str)) = false := by decide) (hcd : (x == ("__classdict__" : Str)) = false := by decide) : DS X κ E (.Assign [.Subscript (.Name x px) b p2] e pos) (mLPut i mk mv) :=
  (ps_asg he (pg_sub (pe_var hN hv hdb hcd) hb set_list ha) hs hw h1).imp fun Dn σ H ⟨F0, H0, F, ρ, S, k⟩ => ⟨F0, H0, F, ρ, S, Res.sat_imp (out_sat k) (fun dv _ k v F1 H1 x1 rv => by
    obtain ⟨ds, hd, k⟩ := getL_sat (out_sat k)
    have S1 := S.mono x1
    obtain ⟨q, hs', fa, o⟩ := own_at S1 hk hd
    refine ⟨.ref q, hs', F0, H0, F1, ρ, S1, Res.sat_imp (out_sat k) (fun dk _ k y F2 H2 x2 ry => ?_) fun x z => err_back S1 z⟩
    cases ry with
    | int kk =>
      simp only at k
      obtain ⟨j, hj, k⟩ := ofO_sat (out_sat k)
      obtain ⟨vs, g, r⟩ := own_list (o.keep x2.f fun u w => x2.h q u w)
      exact ⟨q, vs, kk, j, rfl, rfl, g, by rw [r.length]; exact hj, k _ F2 _ (x1.trans x2).f ((S1.mono x2).mut hk hd hs' (.inl ⟨_, _, rfl, upd_same, r.set (rv.mono x2.f) j⟩))⟩
    | _ => exact k.elim) fun x z => err_back S z⟩
theorem sg_lput {i : Nat} {mk mv : Env → Res D} : Straight (mLPut i mk mv) := fun ρ => sg_out fun _ => sg_out fun _ => sg_out fun dk => by
  cases dk <;> first | exact sg_stk | exact sg_out fun _ => sg_nx
end
end WD

/-! == of dicts with plain values -/
namespace WD
open PySem PySem.Spec PyProof.Rows L2
open Evl (Ex Ex.refl Ex.trans Ex.new Ex.mut ex_l ex_t fresh_back)
/-- how deep the values of compared dicts go at most -/
abbrev vdeep : Nat := 30
def plainK (ds : List (D × D)) : Bool := ds.all fun p => plainD vdeep p.2
def eqK (es : List (D × D)) : List (D × D) → Bool
  | [] => true
  | p :: ds => (match keyOf p.1 with
    | some k => (match valD es k with
      | some d => PyData.eqv p.2 d && eqK es ds
      | none => false)
    | none => false)
def eqKL (ds es : List (D × D)) : Bool := ds.length == es.length && eqK es ds
section
variable {K : PySem.W.Frag} {H : Hp}
theorem plainK_cons {p : D × D} {ds : List (D × D)} : plainK (p :: ds) = true ↔ plainD vdeep p.2 = true ∧ plainK ds = true := by
  unfold plainK
  rw [List.all_cons, Bool.and_eq_true]
theorem plain_val {es : List (D × D)} {k : Key} {d : D} (hp : plainK es = true) (h : valD es k = some d) : plainD vdeep d = true := by
  unfold valD at h
  obtain ⟨p, hp2, rfl⟩ := Option.map_eq_some_iff.mp h
  exact List.all_eq_true.mp hp p (List.mem_of_find?_eq_some hp2)
end
section
variable {X : Cx} {pins : List (Addr × Obj)} {σ : L2.St} {H : Hp} {s : Shared}
theorem eq_at_plain (I : Inv X pins σ H s) {A : Around} (hu : A.units + 40 < cLine) {x y : V} {d e : D} {v u : Value} (rx : Rp X.K H x d) (ry : Rp X.K H y e) (px : plainD vdeep d = true) (py : plainD vdeep e = true) (r1 : RelV x v) (r2 : RelV y u) : SeqAt.EqAt A s v u (PyData.eqv d e) := by
  have a := Rp.dp vdeep d x rx px
  have b := Rp.dp vdeep e y ry py
  obtain ⟨as, w1⟩ := Dp.reads I d x v a.1 r1
  obtain ⟨bs, w2⟩ := Dp.reads I e y u b.1 r2
  have l1 : d.depth ≤ 30 := plain_depth vdeep d px
  have l2 : min d.depth e.depth ≤ d.depth := Nat.min_le_left _ _
  exact SeqAt.eqAt_reads d e A s v u as bs w1 w2 a.2 b.2 (by omega)
theorem hits_plain (I : Inv X pins σ H s) {A : Around} (hu : A.units + 40 < cLine) {ls : List (Key × V)} {es : List (D × D)} (re : RpK X.K H ls es) (pe : plainK es = true) {vb : List (Key × Value)} (rb : KV ls vb) : ∀ {ks : List (Key × V)} {ds : List (D × D)} {va : List (Key × Value)}, RpK X.K H ks ds → plainK ds = true → KV ks va → PySem.W.KeqHits A s vb va (eqK es ds) := by
  intro ks ds va rd
  induction ks generalizing ds va with
  | nil =>
    cases rd
    intro _ ra
    cases ra
    exact .nil
  | cons p ks ih =>
    intro pd ra
    cases rd with
    | @cons k v _ d ds hk h1 h2 =>
      obtain ⟨p1, p2⟩ := plainK_cons.mp pd
      cases ra with
      | @cons _ q _ qs h t =>
        obtain ⟨e1, e2⟩ := h
        obtain ⟨kq, vq⟩ := q
        have e1 : k = kq := e1
        subst e1
        have e2 : RelV v vq := e2
        have rest := ih h2 p2 t
        have hv := rb.val k
        have he : eqK es ((keyD k, d) :: ds) = (match valD es k with
          | some e => PyData.eqv d e && eqK es ds
          | none => false) := by
          show (match keyOf (keyD k) with | some k => _ | none => false) = _
          rw [keyOf_keyD]
        rw [he]
        rcases re.val k with ⟨n1, n2⟩ | ⟨u, e, n1, n2, r⟩
        · rw [n1] at hv
          rw [n2]
          refine .miss ?_
          cases q : valueAt vb k with
          | none => rfl
          | some z => rw [q] at hv; cases hv
        · rw [n1] at hv
          rw [n2]
          obtain ⟨z, hz, rz⟩ := hv.some_of
          exact .hit hz (eq_at_plain I hu h1 r p1 (plain_val pe n2) e2 rz) rest
end
def rEqKd (K : PySem.W.Frag) (f : Bool → Bool) : R2 := fun x y H Q => ∃ a b ks ls ds es, x = .ref a ∧ y = .ref b ∧ Rd H a (.dK ks) ∧ Rd H b (.dK ls) ∧ RpK K H ks ds ∧ RpK K H ls es ∧ plainK ds = true ∧ plainK es = true ∧ Q (.bl (f (eqKL ds es))) H
theorem RpK.len2 {K : PySem.W.Frag} {F : Hp} : ∀ {kvs : List (Key × V)} {ds : List (D × D)}, RpK K F kvs ds → kvs.length = ds.length
  | [], _, h => by cases h; rfl
  | _ :: kvs, _, h => by
    cases h with
    | cons _ _ r => rw [List.length_cons, List.length_cons, RpK.len2 r]
section
variable {X : Cx}
theorem op_eqKd (hu : X.A.units + 64 < cLine) : OpR X (compareOp .Eq) (rEqKd X.K id) := by
  intro pins s σ H x y v u Q I rx ry h
  obtain ⟨a, b, ks, ls, ds, es, rfl, rfl, ha, hb, r1, r2, p1, p2, q⟩ := h
  obtain rfl : v = Value.ref a := rx
  obtain rfl : u = Value.ref b := ry
  obtain ⟨_, ya, va, ra, da⟩ := dk_rd I.hok ha
  obtain ⟨_, yb, vb, rb, db⟩ := dk_rd I.hok hb
  have la : va.length = ds.length := by rw [← ra.length]; exact RpK.len2 r1
  have lb : vb.length = es.length := by rw [← rb.length]; exact RpK.len2 r2
  refine PySem.W.keq_eq (knd := mixKind X.prog X.w) ya yb da db (by omega) (fun _ => hits_plain I (A := X.A.in1) (by show X.A.units + 1 + 40 < cLine; omega) r2 p2 rb r1 p1 ra) (fin_bl I q ?_)
  rw [la, lb]
  rfl
theorem op_neKd (hu : X.A.units + 64 < cLine) : OpR X (compareOp .NotEq) (rEqKd X.K not) := by
  intro pins s σ H x y v u Q I rx ry h
  obtain ⟨a, b, ks, ls, ds, es, rfl, rfl, ha, hb, r1, r2, p1, p2, q⟩ := h
  obtain rfl : v = Value.ref a := rx
  obtain rfl : u = Value.ref b := ry
  obtain ⟨_, ya, va, ra, da⟩ := dk_rd I.hok ha
  obtain ⟨_, yb, vb, rb, db⟩ := dk_rd I.hok hb
  have la : va.length = ds.length := by rw [← ra.length]; exact RpK.len2 r1
  have lb : vb.length = es.length := by rw [← rb.length]; exact RpK.len2 r2
  refine PySem.W.keq_ne (knd := mixKind X.prog X.w) ya yb da db (by omega) (fun _ => hits_plain I (A := X.A.in1) (by show X.A.units + 1 + 40 < cLine; omega) r2 p2 rb r1 p1 ra) (fin_bl I q ?_)
  rw [la, lb]
  rfl
end
def eqX (x y : D) : Res D := match x, y with
  | .dict ds, .dict es => if plainK ds = true ∧ plainK es = true then .ok (.bool (eqKL ds es)) else .stk
  | x, y => eqD x y
def neX (x y : D) : Res D := match x, y with
  | .dict ds, .dict es => if plainK ds = true ∧ plainK es = true then .ok (.bool (!eqKL ds es)) else .stk
  | x, y => neD x y
theorem eqX_ne : ∀ x y z, eqX x y ≠ .err z := fun x y z h => by
  unfold eqX at h
  split at h
  · split at h <;> cases h
  · exact eqD_ne _ _ _ h
theorem neX_ne : ∀ x y z, neX x y ≠ .err z := fun x y z h => by
  unfold neX at h
  split at h
  · split at h <;> cases h
  · exact neD_ne _ _ _ h
theorem eqX_b : ∀ x y d, eqX x y = .ok d → ∃ b, d = .bool b := fun x y d h => by
  unfold eqX at h
  split at h
  · split at h <;> cases h; exact ⟨_, rfl⟩
  · exact eqD_b _ _ _ h
theorem neX_b : ∀ x y d, neX x y = .ok d → ∃ b, d = .bool b := fun x y d h => by
  unfold neX at h
  split at h
  · split at h <;> cases h; exact ⟨_, rfl⟩
  · exact neD_b _ _ _ h
theorem op2_eqX {K : PySem.W.Frag} : Op2 K (fun x y H Q => rEqD K x y H Q ∨ rEqKd K id x y H Q) eqX := fun F H x y dx dy s rx ry Q k => by
  unfold eqX at k
  split at k
  · rename_i ds es
    split at k
    · rename_i h
      obtain ⟨a, ks, rfl, ha, r1⟩ := rx.dict s
      obtain ⟨b, ls, rfl, hb, r2⟩ := ry.dict s
      exact .inr ⟨a, b, ks, ls, ds, es, rfl, rfl, ha, hb, r1.mono s, r2.mono s, h.1, h.2, k _ F H (Ext.refl s) (.bl _)⟩
    · exact k.elim
  · exact .inl (op2_eq F H x y _ _ s rx ry Q k)
theorem op2_neX {K : PySem.W.Frag} : Op2 K (fun x y H Q => rNeD K x y H Q ∨ rEqKd K not x y H Q) neX := fun F H x y dx dy s rx ry Q k => by
  unfold neX at k
  split at k
  · rename_i ds es
    split at k
    · rename_i h
      obtain ⟨a, ks, rfl, ha, r1⟩ := rx.dict s
      obtain ⟨b, ls, rfl, hb, r2⟩ := ry.dict s
      exact .inr ⟨a, b, ks, ls, ds, es, rfl, rfl, ha, hb, r1.mono s, r2.mono s, h.1, h.2, k _ F H (Ext.refl s) (.bl _)⟩
    · exact k.elim
  · exact .inl (op2_ne F H x y _ _ s rx ry Q k)
section
variable {X : Cx} {κ κe : Nat → Kd} {E : EX} {a b : Expr} {pos : Pos} {ma mb : Env → Res D}
theorem de_eqX {k : Nat} (hr : Room k X.A) (ha : DB X κ E a ma) (hb : DB X κ E b mb) : DE X κ E (.Compare a [.Eq] [b] pos) (mBin eqX ma mb) := de_cmp ((op_eqD hr.units).or (op_eqKd hr.units)) op2_eqX eqX_ne ha hb (nomark _)
theorem de_neX {k : Nat} (hr : Room k X.A) (ha : DB X κ E a ma) (hb : DB X κ E b mb) : DE X κ E (.Compare a [.NotEq] [b] pos) (mBin neX ma mb) := de_cmp ((op_neD hr.units).or (op_neKd hr.units)) op2_neX neX_ne ha hb (nomark _)
theorem dt_eqX {k : Nat} (hr : Room k X.A) (ha : DB X κ E a ma) (hb : DB X κ E b mb) : DT X κ E (.Compare a [.Eq] [b] pos) (mTru (mBin eqX ma mb)) := dt_cmp ((op_eqD hr.units).or (op_eqKd hr.units)) op2_eqX eqX_ne eqX_b ha hb (nomark _)
theorem dt_neX {k : Nat} (hr : Room k X.A) (ha : DB X κ E a ma) (hb : DB X κ E b mb) : DT X κ E (.Compare a [.NotEq] [b] pos) (mTru (mBin neX ma mb)) := dt_cmp ((op_neD hr.units).or (op_neKd hr.units)) op2_neX neX_ne neX_b ha hb (nomark _)
end
end WD

/-! zip of two, a list or a tuple each -/
namespace WD
open PySem PySem.Spec PyProof.Rows L2
open Evl (Ex Ex.refl Ex.trans Ex.new Ex.mut ex_l ex_t fresh_back)
/-- pairs of what g1 and g2 give -/
def ItZ (n : Nat) (g1 g2 : Nat → Option V) (G : Hp → Prop) : It :=
  ⟨fun i H => G H ∧ i < n, fun i H v H' => ∃ T x y, v = .ref T ∧ H T = none ∧ H' = upd H T (.tup [x, y]) ∧ g1 i = some x ∧ g2 i = some y, fun i H => G H ∧ i = n⟩
/-- one side of a zip: its iterator stands at it; its cells keep away from av -/
structure Src (P : Program) (w : World) (K : PySem.W.Frag) (av : List Addr) (it : Addr) (n : Nat) (g : Nat → Option V) (G : Hp → Prop) (inn : Nat → Heap → Prop) : Prop where
  obj : ∀ i h, inn i h → ∃ o, h.get? it = some o ∧ ∀ v, o.data ≠ .cell v
  keep : ∀ i (h h' : Heap), inn i h → (∀ o, h.get? it = some o → h'.get? it = some o) → inn i h'
  draw : ∀ (X : Cx), X.prog = P → X.w = w → X.K = K → X.calm = true → ∀ (i : Nat) (pins : List (Addr × Obj)) (s : Shared) (σ : L2.St) (H : Hp), Inv X pins σ H s → G H → inn i s.heap →
    ∃ fp Pv S, Draws P w X.A.in1 it fp n Pv S ∧ S i s.heap ∧ it ∈ fp ∧ (∀ b ∈ fp, b = it ∨ b ∉ av) ∧ (∀ j x, Pv j x → ∃ v, g j = some v ∧ RelV v x) ∧ ∀ j h, S j h → inn j h
theorem src_tuple {P : Program} {w : World} {K : PySem.W.Frag} {av : List Addr} {it a : Addr} {xs : List V} (ha : a ∉ av) : Src P w K av it xs.length (fun i => xs[i]?) (fun H => SqT K H a xs) (fun i h => h.IsTupleIter it a i) where
  obj := fun i h st => by
    obtain ⟨o, ho, hc, hd⟩ := st
    exact ⟨o, ho, fun v q => by rw [hd] at q; cases q⟩
  keep := fun i h h' st k => st.at fun o q => k o q
  draw := by
    intro X hP hw hK hc i pins s σ H I hG hit
    subst hP hw hK
    obtain ⟨its, rv, p, hz⟩ := I.tuple hG
    obtain ⟨o, ho, hcls, n, hd⟩ := id p
    have ne1 : a ≠ it := fun z => by
      obtain ⟨o2, ho2, hc2, hd2⟩ := hit
      rw [z] at ho
      rw [ho] at ho2; cases ho2
      rw [hc2] at hcls; simp at hcls
    have hn : its.toArray.size = xs.length := by simpa using rv.length.symm
    have D := Draws.tuple (A := X.A.in1) (prog := X.prog) (w := X.w) (I.ok.hd hc) it a ne1 its.toArray
    rw [hn] at D
    refine ⟨_, _, _, D, ⟨hit, ⟨o, ho, hcls, n, hd⟩⟩, by simp, fun b hb => ?_, fun j x hx => ?_, fun j h st => st.1⟩
    · have hb' : b = it ∨ b = a := by simpa using hb
      rcases hb' with z | z
      · exact .inl z
      · exact .inr (by rw [z]; exact ha)
    · have hx : its[j]? = some x := by simpa using hx
      have hj : j < xs.length := by
        rw [← hn]
        have := (List.getElem?_eq_some_iff.mp hx).1
        simpa using this
      obtain ⟨u, hu, ru⟩ := rv.get (List.getElem?_eq_getElem hj)
      rw [hx] at hu; cases hu
      exact ⟨_, List.getElem?_eq_getElem hj, ru⟩
theorem src_list {P : Program} {w : World} {K : PySem.W.Frag} {av : List Addr} {it a : Addr} {xs : List V} (ha : a ∉ av) : Src P w K av it xs.length (fun i => xs[i]?) (fun H => SqL K H a xs) (fun i h => h.IsListIter it a i) where
  obj := fun i h st => by
    obtain ⟨o, ho, hc, hd⟩ := st
    exact ⟨o, ho, fun v q => by rw [hd] at q; cases q⟩
  keep := fun i h h' st k => st.at fun o q => k o q
  draw := by
    intro X hP hw hK hc i pins s σ H I hG hit
    subst hP hw hK
    obtain ⟨its, rv, p, hz⟩ := I.list hG
    obtain ⟨o, ho, hcls, n, hd⟩ := id p.isList
    have ne1 : a ≠ it := fun z => by
      obtain ⟨o2, ho2, hc2, hd2⟩ := hit
      rw [z] at ho
      rw [ho] at ho2; cases ho2
      rw [hc2] at hcls; simp at hcls
    have hn : its.toArray.size = xs.length := by simpa using rv.length.symm
    have D := Draws.list (A := X.A.in1) (prog := X.prog) (w := X.w) (I.ok.hd hc) it a ne1 its.toArray
    rw [hn] at D
    refine ⟨_, _, _, D, ⟨hit, p.isList⟩, by simp, fun b hb => ?_, fun j x hx => ?_, fun j h st => st.1⟩
    · have hb' : b = it ∨ b = a := by simpa using hb
      rcases hb' with z | z
      · exact .inl z
      · exact .inr (by rw [z]; exact ha)
    · have hx : its[j]? = some x := by simpa using hx
      have hj : j < xs.length := by
        rw [← hn]
        have := (List.getElem?_eq_some_iff.mp hx).1
        simpa using this
      obtain ⟨u, hu, ru⟩ := rv.get (List.getElem?_eq_getElem hj)
      rw [hx] at hu; cases hu
      exact ⟨_, List.getElem?_eq_getElem hj, ru⟩
theorem sep_of {z TI TO i1 i2 : Addr} {fp1 fp2 : List Addr} (N : [z, TI, TO, i1, i2].Nodup) (m1 : i1 ∈ fp1) (m2 : i2 ∈ fp2) (a1 : ∀ b ∈ fp1, b = i1 ∨ b ∉ [z, TI, TO, i1, i2]) (a2 : ∀ b ∈ fp2, b = i2 ∨ b ∉ [z, TI, TO, i1, i2]) : ZipSep2 z TI TO i1 i2 fp1 fp2 := by
  simp only [List.nodup_cons, List.mem_cons, List.not_mem_nil, or_false, not_or] at N
  obtain ⟨⟨n1, n2, n3, n4⟩, ⟨n5, n6, n7⟩, ⟨n8, n9⟩, n10, -⟩ := N
  refine ⟨Ne.symm n1, Ne.symm n2, n5, n6, m1, fun h => ?_, fun h => ?_, n7, m2, fun h => ?_, fun h => ?_, fun h => ?_, fun h => ?_⟩
  · rcases a1 _ h with q | q
    · exact n3 q
    · exact q (by simp)
  · rcases a1 _ h with q | q
    · exact n8 q
    · exact q (by simp)
  · rcases a2 _ h with q | q
    · exact n4 q
    · exact q (by simp)
  · rcases a2 _ h with q | q
    · exact n9 q
    · exact q (by simp)
  · rcases a2 _ h with q | q
    · exact n10 q
    · exact q (by simp)
  · rcases a1 _ h with q | q
    · exact n10 q.symm
    · exact q (by simp)
theorem turn_zipG {P : Program} {w : World} {K : PySem.W.Frag} {elts : List Expr} {kk : Nat} {tpos : Pos} {z TI TO i1 i2 : Addr} {n1 n2 : Nat} {g1 g2 : Nat → Option V} {G1 G2 : Hp → Prop} {inn1 inn2 : Nat → Heap → Prop} (N : [z, TI, TO, i1, i2].Nodup)
    (S1 : Src P w K [z, TI, TO, i1, i2] i1 n1 g1 G1 inn1) (S2 : Src P w K [z, TI, TO, i1, i2] i2 n2 g2 G2 inn2) :
    Turn P w K (.Tuple elts kk tpos) (ItZ (min n1 n2) g1 g2 fun H => G1 H ∧ G2 H) [z, TI, TO, i1, i2] z (fun i h => IsZip h z TI TO .none ∧ IsTupOf2 h TI (.ref i1) (.ref i2) ∧ (∃ a b, IsTupOf2 h TO a b) ∧ inn1 i h ∧ inn2 i h) where
  mem := by simp
  obj := fun i h st c hc => by
    obtain ⟨st1, st2, ⟨a, b, st3⟩, st4, st5⟩ := st
    have e : c = z ∨ c = TI ∨ c = TO ∨ c = i1 ∨ c = i2 := by simpa using hc
    rcases e with q | q | q | q | q
    · rw [q]; exact ⟨_, st1, fun v y => nomatch y⟩
    · rw [q]; exact ⟨_, st2, fun v y => nomatch y⟩
    · rw [q]; exact ⟨_, st3, fun v y => nomatch y⟩
    · rw [q]; exact S1.obj i h st4
    · rw [q]; exact S2.obj i h st5
  keep := fun i h h' st k => by
    obtain ⟨st1, st2, ⟨a, b, st3⟩, st4, st5⟩ := st
    exact ⟨k z (by simp) _ st1, k TI (by simp) _ st2, ⟨a, b, k TO (by simp) _ st3⟩, S1.keep i h h' st4 fun o q => k i1 (by simp) o q, S2.keep i h h' st5 fun o q => k i2 (by simp) o q⟩
  item := by
    intro X hP hw hK hc i pins s σ H E I hf st hg
    obtain ⟨st1, st2, ⟨a0, b0, st3⟩, st4, st5⟩ := st
    obtain ⟨⟨gA, gB⟩, hi⟩ := hg
    obtain ⟨fp1, Pv1, T1, D1, hT1, m1, av1, v1, in1⟩ := S1.draw X hP hw hK hc i pins s σ H I gA st4
    obtain ⟨fp2, Pv2, T2, D2, hT2, m2, av2, v2, in2⟩ := S2.draw X hP hw hK hc i pins s σ H I gB st5
    have sep := sep_of N m1 m2 av1 av2
    subst hP hw hK
    have zlt : z < s.heap.objs.size := Heap.lt_size st1
    refine wpAny_pyNext_zipD2_item sep D1 D2 st1 st2 st3 hT1 hT2 (by omega) (by omega) fun x1 x2 h' tk p1 p2 zz to1 t1 t2 nt hsz hk => ?_
    obtain ⟨u1, e1, r1⟩ := v1 i x1 p1
    obtain ⟨u2, e2, r2⟩ := v2 i x2 p2
    refine ⟨_, rfl, wpAny_letOwnedTupleGo_zip (s := { s with heap := h', toks := tk }) zz fun h2 zz2 sb => ?_⟩
    have own : h2.get? s.heap.objs.size = some { cls := .type "tuple", data := .seq #[x1, x2] } := (sb.2 _ (Nat.ne_of_gt zlt)).trans nt
    have newO : ObjOk X.prog X.w (upd H s.heap.objs.size (.tup [u1, u2])) h2 s.heap.objs.size (.tup [u1, u2]) := ⟨by show 2 ≤ sizeLine; decide, [x1, x2], .cons r1 (.cons r2 .nil), ⟨_, own, rfl, _, rfl⟩⟩
    have I1 : Inv X pins σ (upd H s.heap.objs.size (.tup [u1, u2])) { s with heap := h2, toks := tk } := by
      refine I.turnedNew (ch := [z, TI, TO, i1, i2]) (fun c o hb q => ?_) hf (Nat.le_refl _) newO
      have h1 : c ≠ z := fun y => hb (by simp [y])
      exact (sb.2 c h1).trans (hk c o h1 (fun y => hb (by simp [y])) (fun y => hb (by simp [y])) (fun y => hb (by simp [y])) q)
    have lt : ∀ c ∈ [z, TI, TO, i1, i2], c < s.heap.objs.size := fun c hc2 => by
      have e : c = z ∨ c = TI ∨ c = TO ∨ c = i1 ∨ c = i2 := by simpa using hc2
      rcases e with q | q | q | q | q
      · rw [q]; exact zlt
      · rw [q]; exact Heap.lt_size st2
      · rw [q]; exact Heap.lt_size st3
      · rw [q]; obtain ⟨o, y, _⟩ := S1.obj i _ st4; exact Heap.lt_size y
      · rw [q]; obtain ⟨o, y, _⟩ := S2.obj i _ st5; exact Heap.lt_size y
    refine ⟨.ref s.heap.objs.size, _, I1, rfl, ⟨_, u1, u2, rfl, I.hok.fresh (Nat.le_refl _), rfl, e1, e2⟩, ⟨zz2, ?_, ⟨x1, x2, ?_⟩, ?_, ?_⟩, fun c hcm => ?_⟩
    · exact (sb.2 _ sep.TIz).trans (hk _ _ sep.TIz sep.TITO sep.TIi1 sep.TIi2 st2)
    · exact (sb.2 _ sep.TOz).trans to1
    · exact S1.keep _ _ _ (in1 _ _ t1) fun o q => (sb.2 _ (Ne.symm sep.zi1)).trans q
    · exact S2.keep _ _ _ (in2 _ _ t2) fun o q => (sb.2 _ (Ne.symm sep.zi2)).trans q
    · rw [upd_ne (Nat.ne_of_lt (lt c hcm))]
      exact (hf c hcm).1
  done := by
    intro X hP hw hK hc i pins s σ H E I hf st hg
    obtain ⟨st1, st2, ⟨a0, b0, st3⟩, st4, st5⟩ := st
    obtain ⟨⟨gA, gB⟩, hi⟩ := hg
    obtain ⟨fp1, Pv1, T1, D1, hT1, m1, av1, v1, in1⟩ := S1.draw X hP hw hK hc i pins s σ H I gA st4
    obtain ⟨fp2, Pv2, T2, D2, hT2, m2, av2, v2, in2⟩ := S2.draw X hP hw hK hc i pins s σ H I gB st5
    have sep := sep_of N m1 m2 av1 av2
    subst hP hw hK
    refine wpAny_pyNext_zipD2_end sep D1 D2 st1 st2 st3 hT1 hT2 (by omega) (by omega) (by omega) fun h' tk hk => ⟨rfl, I.turnedL (t' := tk) (ch := [z, TI, TO, i1, i2]) (fun c o hb q => ?_) hf⟩
    exact hk c o (fun y => hb (by simp [y])) (fun y => hb (by simp [y])) (fun y => hb (by simp [y])) (fun y => hb (by simp [y])) q
  self := fun A i s Q E st h => wpAny_pyIter_zip st.1 h

theorem walk_zipG {n : Nat} {g1 g2 : Nat → Option V} {G : Hp → Prop} : Walk (ItZ n g1 g2 G) n G (YPair g1 g2) := by
  refine ⟨fun i _ hi q => ⟨q, hi⟩, fun _ q => ⟨q, rfl⟩, fun i H v H' _ q y => ?_⟩
  obtain ⟨T, x, y, h1, h2, h3, h4, h5⟩ := y
  exact ⟨T, x, y, h1, h2, h3, h4, h5⟩
/-- a list, or a tuple -/
def SqA (k : Bool) (K : PySem.W.Frag) (H : Hp) (a : Addr) (xs : List V) : Prop := match k with
  | true => SqT K H a xs
  | false => SqL K H a xs
def iZipG (K : PySem.W.Frag) (ta : TA) : TI := fun σ H R => ta σ H fun vs H1 => ∃ k1 k2 a b xs ys, vs = [.ref a, .ref b] ∧ SqA k1 K H1 a xs ∧ SqA k2 K H1 b ys ∧ R (ItZ (min xs.length ys.length) (fun i => xs[i]?) (fun i => ys[i]?) fun H => SqA k1 K H a xs ∧ SqA k2 K H b ys) H1
/-- how such an object begins to be walked through -/
theorem begins_of {X : Cx} {pins : List (Addr × Obj)} {σ : L2.St} {H : Hp} {s : Shared} (I : Inv X pins σ H s) {k : Bool} {a : Addr} {xs : List V} (h : SqA k X.K H a xs) :
    ∃ o Hb, Begins (.ref a) o Hb ∧ Hb s.heap ∧ a < s.heap.objs.size ∧ ∃ inn : Addr → Nat → Heap → Prop, (∀ (it : Addr) (h' : Heap), h'.get? it = some o → inn it 0 h') ∧ ∀ (it : Addr) (av : List Addr), a ∉ av → Src X.prog X.w X.K av it xs.length (fun i => xs[i]?) (fun H => SqA k X.K H a xs) (inn it) := by
  cases k with
  | true =>
    obtain ⟨its, rv, p, _⟩ := I.tuple h
    refine ⟨_, _, begins_tuple a its.toArray, p, by obtain ⟨o, q, _⟩ := id p; exact Heap.lt_size q, fun it i h => h.IsTupleIter it a i, fun it h' q => ⟨_, q, rfl, rfl⟩, fun it av ha => src_tuple ha⟩
  | false =>
    obtain ⟨its, rv, p, _⟩ := I.list h
    refine ⟨_, _, begins_list a its.toArray, p.isList, p.lt, fun it i h => h.IsListIter it a i, fun it h' q => ⟨_, q, rfl, rfl⟩, fun it av ha => src_list ha⟩
theorem pi_zipG {X : Cx} {e e2 : Expr} {ta : TA} {p pos tpos : Pos} {elts : List Expr} {kk : Nat} (hg : Gl X "zip") (hm : X.mg "zip" = none) (ha : PA X [e, e2] ta)
    (hs : starEach [e, e2] X.env = (false, eval e X.env) :: starEach [e2] X.env := by rfl) (hpl : (backTo pos (starEach [e2] X.env)).any (·.1) = false := by rfl) :
    PI X (.Tuple elts kk tpos) (.Call (.Name "zip" p) [e, e2] [] pos) (iZipG X.K ta) := by
  refine ⟨fun pins s σ H R I h => Call_ (ld_blt I hg hm boot_zip (PyProof.Rows.callWith_type1 (thn (ha.run pos pins s σ H _ I h) fun us s1 ⟨vs, H1, I1, rel, q1⟩ => ?_) hs hpl))⟩
  obtain ⟨k1, k2, a, b, xs, ys, rfl, hx, hy, q⟩ := q1
  cases rel with
  | cons ra rest =>
    cases rest with
    | cons rb rest =>
      cases rest
      cases ra
      cases rb
      obtain ⟨o1, P1, B1, b1, lt1, inn1, st1, src1⟩ := begins_of I1 hx
      obtain ⟨o2, P2, B2, b2, lt2, inn2, st2, src2⟩ := begins_of I1 hy
      refine zip_begins2 B1 B2 b1 b2 fun h' zz zTI zTO g1 g2 hsz hk => wpAny_pyIter_zip zz ?_
      have I2 : Inv X pins σ H1 { s1 with heap := h' } := I1.kept (t' := s1.toks) hk
      have fresh : ∀ c, s1.heap.objs.size ≤ c → FpOk X pins H1 c := fun c hle => I1.fpOk hle (I1.hok.fresh hle)
      generalize s1.heap.objs.size = n at *
      have N : [n + 4, n + 2, n + 3, n, n + 1].Nodup := by simp
      have av : ∀ c, c < n → c ∉ [n + 4, n + 2, n + 3, n, n + 1] := fun c hc y => by
        simp only [List.mem_cons, List.not_mem_nil, or_false] at y
        omega
      refine ⟨n + 4, [n + 4, n + 2, n + 3, n, n + 1], _, _, H1, rfl, I2, turn_zipG N (src1 n _ (av a lt1)) (src2 (n + 1) _ (av b lt2)), ⟨zz, zTI, ⟨_, _, zTO⟩, st1 _ _ g1, st2 _ _ g2⟩, fun c hc => ?_, q⟩
      have hc' : c = n + 4 ∨ c = n + 2 ∨ c = n + 3 ∨ c = n ∨ c = n + 1 := by simpa using hc
      have low : n ≤ c := by rcases hc' with y | y | y | y | y <;> rw [y] <;> first | exact Nat.le_refl _ | exact Nat.le_add_right _ _
      exact fresh c low
section
variable {X : Cx} {κ : Nat → Kd} {E : EX} {a b : Expr} {pos : Pos} {ms : Env → Res (List D)}
def sqX : D → Option (Bool × List D)
  | .list xs => some (false, xs)
  | .tuple xs => some (true, xs)
  | _ => none
def zipXD : List D → Res (List D)
  | [x, y] => (ofO (sqX x)).bind fun p => (ofO (sqX y)).bind fun q => .ok (zipD p.2 q.2)
  | _ => .stk
theorem Rp.sqA {K : PySem.W.Frag} {F : Hp} {v : V} {d : D} {k : Bool} {ds : List D} (r : Rp K F v d) (h : sqX d = some (k, ds)) : ∃ a vs, v = .ref a ∧ SqA k K F a vs ∧ RpA K F vs ds := by
  cases d with
  | list xs =>
    cases h
    cases r with
    | lst h1 h2 => exact ⟨_, _, rfl, h1, h2⟩
  | tuple xs =>
    cases h
    cases r with
    | tup h1 h2 => exact ⟨_, _, rfl, h1, h2⟩
  | _ => cases h
theorem SqA.ex {k : Bool} {K : PySem.W.Frag} {F F' : Hp} {a : Addr} {vs : List V} (e : Ex F F') (h : SqA k K F a vs) : SqA k K F' a vs := by
  cases k with
  | true => exact ex_t e h
  | false => exact ex_l e h
theorem di_zipX {p tpos : Pos} {elts : List Expr} {kk : Nat}
    (h : PI X (.Tuple elts kk tpos) (.Call (.Name "zip" p) [a, b] [] pos) (iZipG X.K (rdA X.mg X.K κ E ms))) : DI X κ E (.Tuple elts kk tpos) (.Call (.Name "zip" p) [a, b] [] pos) (mBindA zipXD ms) :=
  h.imp fun σ H R ⟨F0, H0, F, ρ, S, c⟩ => ⟨F0, H0, F, ρ, S, Res.sat_imp (Res.sat_bind c) (fun ds _ k vs F' H' x r => by
    unfold zipXD at k
    split at k
    · rename_i dx dy
      obtain ⟨⟨kx, xs⟩, hx, k⟩ := ofO_sat (Res.sat_bind k)
      obtain ⟨⟨ky, ys⟩, hy, k⟩ := ofO_sat (Res.sat_bind k)
      cases r with
      | cons r1 r2 =>
        cases r2 with
        | cons r2 r3 =>
          cases r3
          obtain ⟨a, vs, rfl, h1, h2⟩ := r1.sqA hx
          obtain ⟨b, ws, rfl, h3, h4⟩ := r2.sqA hy
          refine ⟨kx, ky, a, b, vs, ws, rfl, h1.ex x.s, h3.ex x.s, k _ F' H' x (walkd_pair walk_zipG (by rw [zipD_len, h2.length, h4.length]) (fun F2 H2 p s => ⟨h1.ex (p.trans s), h3.ex (p.trans s)⟩) fun i F2 H2 x y p hi e1 e2 => ?_)⟩
          obtain ⟨d, hd, rd⟩ := h2.getV e1
          obtain ⟨d', hd', rd'⟩ := h4.getV e2
          exact ⟨d, d', zipD_get _ _ _ _ _ hd hd', rd.mono p, rd'.mono p⟩
    · exact k.elim) fun _ z => z⟩
end
end WD

/-! lists of pairs, each with a list of its own behind: x = [], x.append((v, [])), x[-1][1].append(v), x == [] -/
namespace WD
open PySem PySem.Spec PyProof.Rows L2
open Evl (Ex Ex.refl Ex.trans Ex.new Ex.mut ex_l ex_t fresh_back)
section
variable {K : Frag} {κ : Nat → Kd} {F0 H0 F H : Hp} {σ : L2.St} {ρ : Env}
theorem OpK.app : ∀ {bs bs' : List Addr} {ws ws' : List V} {ds ds' : List D}, OpK K H0 F H bs ws ds → OpK K H0 F H bs' ws' ds' → OpK K H0 F H (bs ++ bs') (ws ++ ws') (ds ++ ds')
  | _, _, _, _, _, _, .nil, h => h
  | _, _, _, _, _, _, .cons f1 h1 r h2 h3 h4 h5 h6, h => .cons f1 h1 r h2 h3 h4 h5 (h6.app h)
/-- the last pair -/
theorem OpK.last : ∀ {ds0 : List D} {x : D} {bs : List Addr} {ws : List V}, OpK K H0 F H bs ws (ds0 ++ [x]) → ∃ bs0 b ws0 t v vs d xs, bs = bs0 ++ [b] ∧ ws = ws0 ++ [.ref t] ∧ x = .tuple [d, .list xs] ∧ OpK K H0 F H bs0 ws0 ds0 ∧
    F t = some (.tup [v, .ref b]) ∧ H t = some (.tup [v, .ref b]) ∧ Rp K F v d ∧ H0 b = none ∧ F b = none ∧ H b = some (.lst vs) ∧ RpA K F vs xs
  | [], x, bs, ws, h => by
    rw [List.nil_append] at h
    cases h with
    | @cons t b v vs d xs bs ws ds f1 h1 r h2 h3 h4 h5 h6 =>
      cases h6
      exact ⟨[], b, [], t, v, vs, d, xs, rfl, rfl, rfl, .nil, f1, h1, r, h2, h3, h4, h5⟩
  | y :: ds0, x, bs, ws, h => by
    rw [List.cons_append] at h
    cases h with
    | @cons t b v vs d xs bs ws ds f1 h1 r h2 h3 h4 h5 h6 =>
      obtain ⟨bs0, b', ws0, t', v', vs', d', xs', e1, e2, e3, g, g1⟩ := h6.last
      subst e1 e2
      exact ⟨b :: bs0, b', .ref t :: ws0, t', v', vs', d', xs', rfl, rfl, e3, .cons f1 h1 r h2 h3 h4 h5 g, g1⟩
theorem op_at (S : Stt K κ F0 H0 F H σ ρ) {i : Nat} {d : D} (hk : κ i = .op) (h : ρ[i]? = some (some d)) :
    ∃ a bs ws ds, d = .list ds ∧ σ[i]? = some (some (.ref a)) ∧ H0 a = none ∧ F a = none ∧ H a = some (.lst ws) ∧ OpK K H0 F H bs ws ds ∧ bs.Nodup ∧ a ∉ bs := by
  obtain ⟨v, h1, h2⟩ := S.slot i _ h
  rw [hk] at h2
  obtain ⟨a, bs, ws, ds, e, h0, f0, e2, g, ok, n1, n2⟩ := h2
  exact ⟨a, bs, ws, ds, e2, by rw [h1, e], h0, f0, g, ok, n1, n2⟩
/-- a new pair is laid behind -/
theorem op_new (S : Stt K κ F0 H0 F H σ ρ) {i : Nat} {a p t : Addr} {ws : List V} {ds : List D} {v : V} {vs : List V} {d : D} {xs : List D} (hk : κ i = .op) (hd : ρ[i]? = some (some (.list ds))) (hs : σ[i]? = some (some (.ref a)))
    (g : H a = some (.lst ws)) (hp0 : H0 p = none) (fp : F p = none) (hp : H p = some (.lst vs)) (ft : F t = some (.tup [v, .ref p])) (rv : Rp K F v d) (r : RpA K F vs xs) (hno : ∀ j dj w, ρ[j]? = some (some dj) → σ[j]? = some (some w) → ¬ Owns (κ j) H w p) :
    Stt K κ F0 H0 F (upd H a (.lst (ws ++ [.ref t]))) σ (ρ.set i (some (.list (ds ++ [.tuple [d, .list xs]])))) := by
  obtain ⟨a', bs, ws', ds', e0, e1, a0, fa, g', ok, n1, n2⟩ := op_at S hk hd
  cases e0
  rw [hs] at e1
  cases e1
  rw [g] at g'
  cases g'
  have ht : H t = some (.tup [v, .ref p]) := S.sub t _ ft
  have pa : p ≠ a := fun z => hno i _ _ hd hs (by rw [hk, z]; exact .inl rfl)
  have pb : p ∉ bs := fun z => hno i _ _ hd hs (by
    rw [hk]
    obtain ⟨_, t2, x, m, q⟩ := ok.at z
    exact .inr ⟨a, ws, t2, x, rfl, g, m, q⟩)
  have ta : t ≠ a := fun z => by rw [z, fa] at ft; cases ft
  have inF : ∀ c o, F c = some o → upd H a (.lst (ws ++ [.ref t])) c = some o := fun c o e => by rw [upd_ne (ne_of_none e fa)]; exact S.sub c o e
  refine S.chg hd hs (Ex.refl F) inF S.nf (fun _ h _ => h) (fun b x hx nb => ?_) ?_ fun b ob => ?_
  · rw [upd_ne (fun z => nb (by rw [hk, z]; exact .inl rfl))]; exact hx
  · rw [hk]
    refine ⟨a, bs ++ [p], _, _, rfl, a0, fa, rfl, upd_same, ?_, ?_, ?_⟩
    · refine (ok.mono (Ex.refl F) inF (fun b hb => (ok.at hb).1.2.1) fun b hb o ho => by rw [upd_ne fun z => n2 (by rw [← z]; exact hb)]; exact ho).app ?_
      exact .cons ft (by rw [upd_ne ta]; exact ht) rv hp0 fp (by rw [upd_ne pa]; exact hp) r .nil
    · rw [List.nodup_append]
      exact ⟨n1, by simp, fun x hx y hy => by rw [List.mem_singleton] at hy; rw [hy]; exact fun z => pb (by rw [← z]; exact hx)⟩
    · intro hm
      rcases List.mem_append.mp hm with hm | hm
      · exact n2 hm
      · exact pa (List.mem_singleton.mp hm).symm
  · rw [hk] at ob ⊢
    rcases (show V.ref a = .ref b ∨ ∃ a2 w2 t2 x, V.ref a = .ref a2 ∧ upd H a (.lst (ws ++ [.ref t])) a2 = some (.lst w2) ∧ V.ref t2 ∈ w2 ∧ upd H a (.lst (ws ++ [.ref t])) t2 = some (.tup [x, .ref b]) from ob) with z | ⟨a2, w2, t2, x, e1, e2, e3, e4⟩
    · exact .inl (.inl z)
    · cases e1
      rw [upd_same] at e2
      cases e2
      have t2a : t2 ≠ a := fun z => by rw [z, upd_same] at e4; cases e4
      rw [upd_ne t2a] at e4
      rcases List.mem_append.mp e3 with e3 | e3
      · exact .inl (.inr ⟨a, ws, t2, x, rfl, g, e3, e4⟩)
      · refine .inr fun j dj w nj hj ej => ?_
        have e5 := V.ref.inj (List.mem_singleton.mp e3)
        subst e5
        rw [ht] at e4
        have e6 := HO.tup.inj (Option.some.inj e4)
        simp only [List.cons.injEq, V.ref.injEq, and_true] at e6
        rw [← e6.2]
        exact hno j dj w hj ej
/-- the list behind the last pair grows -/
theorem op_grow (S : Stt K κ F0 H0 F H σ ρ) {i : Nat} {ds0 : List D} {d : D} {xs : List D} (hk : κ i = .op) (hd : ρ[i]? = some (some (.list (ds0 ++ [.tuple [d, .list xs]])))) :
    ∃ a ws0 t b v vs, σ[i]? = some (some (.ref a)) ∧ H a = some (.lst (ws0 ++ [.ref t])) ∧ H t = some (.tup [v, .ref b]) ∧ H b = some (.lst vs) ∧ RpA K F vs xs ∧ ∀ F' H' vs' xs', Ext F H F' H' → RpA K F' vs' xs' → Stt K κ F0 H0 F' (upd H' b (.lst vs')) σ (ρ.set i (some (.list (ds0 ++ [.tuple [d, .list xs']])))) := by
  obtain ⟨a, bs, ws, ds, e0, e1, a0, fa, g, ok, n1, n2⟩ := op_at S hk hd
  cases e0
  obtain ⟨bs0, b, ws0, t, v, vs, d', xs0, e2, e3, e4, ok0, ft, ht, rv, hb0, fb, hb, rx⟩ := ok.last
  have e5 := PyData.tuple.inj e4
  simp only [List.cons.injEq, PyData.list.injEq, and_true] at e5
  obtain ⟨e5, e6⟩ := e5
  subst e5 e6 e2 e3
  refine ⟨a, ws0, t, b, v, vs, e1, g, ht, hb, rx, fun F' H' vs' xs' x r => ?_⟩
  have S' := S.mono x
  have fb' : F' b = none := x.o b fb (some_ne hb)
  have fa' : F' a = none := x.o a fa (some_ne g)
  have ab : a ≠ b := fun z => n2 (by rw [z]; simp)
  have b0 : b ∉ bs0 := fun z => by
    rw [List.nodup_append] at n1
    exact n1.2.2 b z b (by simp) rfl
  have tb : t ≠ b := fun z => by rw [z, fb] at ft; cases ft
  have own : Owns (κ i) H' (.ref a) b := by rw [hk]; exact .inr ⟨a, ws0 ++ [.ref t], t, v, rfl, x.h _ _ g, by simp, x.h _ _ ht⟩
  have inF : ∀ c o, F' c = some o → upd H' b (.lst vs') c = some o := fun c o e => by rw [upd_ne (ne_of_none e fb')]; exact x.s c o e
  refine S'.chg hd e1 (Ex.refl F') inF S'.nf (fun _ h _ => h) (fun c y hy nb => ?_) ?_ fun c oc => .inl ?_
  · rw [upd_ne (fun z => nb (by rw [z]; exact own))]; exact hy
  · rw [hk]
    refine ⟨a, bs0 ++ [b], ws0 ++ [.ref t], _, rfl, a0, fa', rfl, by rw [upd_ne ab]; exact x.h _ _ g, ?_, n1, n2⟩
    refine (ok0.mono x.f (fun c o e => inF c o (x.f c o e)) (fun c hc => x.o c (ok0.at hc).1.2.1 (some_ne (ok0.at hc).1.2.2.choose_spec)) fun c hc o ho => by rw [upd_ne fun z => b0 (by rw [← z]; exact hc)]; exact x.h _ _ ho).app ?_
    exact .cons (x.f _ _ ft) (by rw [upd_ne tb]; exact x.h _ _ ht) (rv.mono x.f) hb0 fb' upd_same r .nil
  · rw [hk] at oc ⊢
    rcases (show V.ref a = .ref c ∨ ∃ a2 w2 t2 y, V.ref a = .ref a2 ∧ upd H' b (.lst vs') a2 = some (.lst w2) ∧ V.ref t2 ∈ w2 ∧ upd H' b (.lst vs') t2 = some (.tup [y, .ref c]) from oc) with z | ⟨a2, w2, t2, y, e3, e4, e5, e6⟩
    · exact .inl z
    · cases e3
      rw [upd_ne ab] at e4
      have t2b : t2 ≠ b := fun z => by rw [z, upd_same] at e6; cases e6
      rw [upd_ne t2b] at e6
      exact .inr ⟨a, w2, t2, y, rfl, e4, e5, e6⟩
end
section
variable {X : Cx} {κ : Nat → Kd} {E : EX} {a b c e o : Expr} {es : List Expr} {pos : Pos} {ma mb mk mv me m : Env → Res D}
/-- x = [] -/
def mNewP (i : Nat) : Env → Out := fun ρ => .nx (ρ.set i (some (.list [])))
theorem ds_setP0 {i : Nat} {x : Str} {pos' p2 : Pos} (hk : κ i = .op) (hN : X.N.Nodup) (hi : X.N[i]? = some x) (hx : Loc X.env.scope x) (hs : swapsWith (.List [] p2) (some (.Name x pos')) pos.line X.env = pure false := by rfl)
    (hf : X.fn x = true ∨ X.env.scope.names.lookup x = some .local := by first | exact .inl rfl | exact .inr rfl | assumption) : DS X κ E (.Assign [.Name x pos'] (.List [] p2) pos) (mNewP i) :=
  (ps_set (i := i) hN hi hx (pe_lst pa_nil) hs hf).imp fun Dn σ H ⟨F0, H0, F, ρ, S, k⟩ => ⟨Nat.zero_le _, fun p hp => by
    have x := Ext.newO (o := .lst []) S.sub hp
    refine k _ F _ (Ex.refl F) ((S.mono x).setW ?_ fun j c dj w hj ej nj oi oj => ?_)
    · rw [hk]
      exact ⟨p, [], [], [], rfl, fresh_back S.h0 hp, none_of_ex S.sub hp, rfl, upd_same, .nil, .nil, by simp⟩
    · have hc : c = p := by
        rw [hk] at oi
        rcases (show V.ref p = .ref c ∨ ∃ a ws t y, V.ref p = .ref a ∧ upd H p (.lst []) a = some (.lst ws) ∧ V.ref t ∈ ws ∧ upd H p (.lst []) t = some (.tup [y, .ref c]) from oi) with z | ⟨a, ws, t, y, e1, e2, e3, _⟩
        · cases z; rfl
        · cases e1; rw [upd_same] at e2; cases e2; simp at e3
      subst hc
      have g := S.slotAt hj ej
      exact (g.owned (Owns.back g (fun a _ o q => x.h a o q) (fun a o q => x.s a o (x.f a o q)) oj)).2.2 hp⟩
/-- x.append((v, [])) -/
def mAppP (i : Nat) (m : Env → Res D) : Env → Out := fun ρ => (getL i ρ).out fun ds => (m ρ).out fun d => if ds.length < sizeLine then .nx (ρ.set i (some (.list (ds ++ [.tuple [d, .list []]])))) else .stk
theorem ds_appP {i : Nat} {x : Str} {px : Pos} {apos cpos pos p3 tpos : Pos} {x1} (hk : κ i = .op) (hN : X.N[i]? = some x) (hv : Vis X.env.scope x)
    (hx : PE X (.Call (.Attribute (.Name x px) "append" apos) [.Tuple [e, .List [] p3] x1 tpos] [] cpos) (tBM X.K "list" rAppend (tVar i) (tCons (tTup (tCons (rdE X.mg X.K κ E m) (tCons (tLst tNil) tNil))) tNil)))
    (hs : swapsWith (.Call (.Attribute (.Name x px) "append" apos) [.Tuple [e, .List [] p3] x1 tpos] [] cpos) none pos.line X.env = pure false := by rfl) : DS X κ E (.Expr (.Call (.Attribute (.Name x px) "append" apos) [.Tuple [e, .List [] p3] x1 tpos] [] cpos) pos) (mAppP i m) :=
  (ps_expr hx hs).imp fun Dn σ H ⟨F0, H0, F, ρ, S, k⟩ => by
    obtain ⟨ds, hd, k⟩ := getL_sat (out_sat k)
    obtain ⟨a, bs, ws, ds', e0, hs', a0, fa, g, ok, n1, n2⟩ := op_at S hk hd
    cases e0
    refine ⟨.ref a, hs', .inl ⟨rfl, ws, Evl.sq_of g⟩, F0, H0, F, ρ, S, Res.sat_imp (out_sat k) (fun d _ k v F1 H1 x1 rv => ?_) fun x z => err_back S z⟩
    by_cases z : ds.length < sizeLine
    · simp only [if_pos z] at k
      refine ⟨Nat.zero_le _, fun p hp => ⟨by rw [sizeLine_eq]; show 2 ≤ _; omega, fun t ht => ?_⟩⟩
      have S1 := S.mono x1
      have y1 := Ext.newO (o := .lst []) x1.s hp
      have y2 := Ext.new (o := .tup [v, .ref p]) y1.s ht
      have y3 := y1.trans y2
      have S3 := S1.mono y3
      have fp1 : F1 p = none := none_of_ex x1.s hp
      have tp : t ≠ p := fun q => by rw [q, upd_same] at ht; cases ht
      have g3 : upd (upd H1 p (.lst [])) t (.tup [v, .ref p]) a = some (.lst ws) := (x1.trans y3).h _ _ g
      refine ⟨a, ws, .ref t, rfl, rfl, g3, by rw [ok.len]; exact z, k _ (upd F1 t (.tup [v, .ref p])) _ (x1.trans y3).f ?_⟩
      refine op_new S3 hk hd hs' g3 (fresh_back S1.h0 hp) (by rw [upd_ne (Ne.symm tp)]; exact fp1) (by rw [upd_ne (Ne.symm tp), upd_same]) upd_same (rv.mono y3.f) .nil fun j dj w hj ej ow => ?_
      have gs := S1.slotAt hj ej
      exact (gs.owned (Owns.back gs (fun a _ o q => y3.h a o q) (fun a o q => y3.s a o (y3.f a o q)) ow)).2.2 hp
    · simp only [if_neg z] at k
      exact k.elim
/-- x[-1][1].append(v) -/
def lastP (ds : List D) : Res (List D × D × List D) := match ds.getLast? with
  | some (.tuple [d, .list xs]) => .ok (ds.dropLast, d, xs)
  | _ => .stk
theorem lastP_sat {ds : List D} {P : List D × D × List D → Prop} {R : Exn → Prop} (h : (lastP ds).sat P R) : ∃ ds0 d xs, ds = ds0 ++ [.tuple [d, .list xs]] ∧ P (ds0, d, xs) := by
  unfold lastP at h
  split at h
  · rename_i d xs e
    refine ⟨ds.dropLast, d, xs, ?_, h⟩
    have hne : ds ≠ [] := fun z => by rw [z] at e; cases e
    rw [List.getLast?_eq_some_getLast hne] at e
    rw [← Option.some.inj e]
    exact (List.dropLast_concat_getLast hne).symm
  · exact h.elim
def isI (d : D) (k : Int) : Res Unit := match d with
  | .int i => if i = k then .ok () else .stk
  | _ => .stk
theorem isI_sat {d : D} {k : Int} {P : Unit → Prop} {R : Exn → Prop} (h : (isI d k).sat P R) : d = .int k ∧ P () := by
  unfold isI at h
  split at h
  · split at h
    · rename_i e; rw [e]; exact ⟨rfl, h⟩
    · exact h.elim
  · exact h.elim
def mAppQ (i : Nat) (mk ml m : Env → Res D) : Env → Out := fun ρ => (getL i ρ).out fun ds => (lastP ds).out fun q => (mk ρ).out fun dk => (isI dk (-1)).out fun _ => (ml ρ).out fun dl => (isI dl 1).out fun _ => (m ρ).out fun y => if q.2.2.length < sizeLine then .nx (ρ.set i (some (.list (q.1 ++ [.tuple [q.2.1, .list (q.2.2 ++ [y])]])))) else .stk
theorem ds_appQ {i : Nat} {x : Str} {px : Pos} {apos cpos pos p3 p4 : Pos} {ml : Env → Res D} (hk : κ i = .op) (hN : X.N[i]? = some x) (hv : Vis X.env.scope x)
    (hx : PE X (.Call (.Attribute (.Subscript (.Subscript (.Name x px) a p3) b p4) "append" apos) [e] [] cpos) (tBM X.K "list" rAppend (tOp (rIxT X.K) (tOp (rIxL X.K) (tVar i) (rdE X.mg X.K κ E mk)) (rdE X.mg X.K κ E ml)) (tCons (rdE X.mg X.K κ E m) tNil)))
    (hs : swapsWith (.Call (.Attribute (.Subscript (.Subscript (.Name x px) a p3) b p4) "append" apos) [e] [] cpos) none pos.line X.env = pure false := by rfl) : DS X κ E (.Expr (.Call (.Attribute (.Subscript (.Subscript (.Name x px) a p3) b p4) "append" apos) [e] [] cpos) pos) (mAppQ i mk ml m) :=
  (ps_expr hx hs).imp fun Dn σ H ⟨F0, H0, F, ρ, S, k⟩ => by
    obtain ⟨ds, hd, k⟩ := getL_sat (out_sat k)
    obtain ⟨ds0, d, xs, e0, k2⟩ := lastP_sat (out_sat k)
    subst e0
    obtain ⟨a, ws0, t, b, v, vs, h1, h2, h3, h4, h5, gr⟩ := op_grow S hk hd
    refine ⟨.ref a, h1, F0, H0, F, ρ, S, Res.sat_imp (out_sat k2) (fun dk _ k y1 F1 H1 x1 r1 => ?_) fun x z => err_back S z⟩
    have S1 := S.mono x1
    obtain ⟨rfl, k⟩ := isI_sat (out_sat k)
    cases r1
    refine ⟨a, ws0 ++ [.ref t], -1, .ref t, rfl, rfl, Evl.sq_of (x1.h _ _ h2), atI_last _ _, F0, H0, F1, ρ, S1, Res.sat_imp (out_sat k) (fun dl _ k y2 F2 H2 x2 r2 => ?_) fun x z => err_back S1 z⟩
    have S2 := S1.mono x2
    obtain ⟨rfl, k⟩ := isI_sat (out_sat k)
    cases r2
    have x12 := x1.trans x2
    refine ⟨t, [v, .ref b], 1, .ref b, rfl, rfl, Evl.st_of (x12.h _ _ h3), rfl, .inl ⟨rfl, vs, Evl.sq_of (x12.h _ _ h4)⟩, F0, H0, F2, ρ, S2, Res.sat_imp (out_sat k) (fun dy _ k y3 F3 H3 x3 r3 => ?_) fun x z => err_back S2 z⟩
    have x123 := x12.trans x3
    by_cases z : xs.length < sizeLine
    · simp only [if_pos z] at k
      exact ⟨b, vs, y3, rfl, rfl, x123.h _ _ h4, by rw [h5.length]; exact z, k _ F3 _ x123.f (gr F3 H3 _ _ x123 ((h5.mono x123.f).append (.cons r3 .nil)))⟩
    · simp only [if_neg z] at k; exact k.elim
/-- x == [], x != [] -/
def mEqP (f : D → D → Res D) (i : Nat) : Env → Res D := fun ρ => (mVar i ρ).bind fun d => f d (.list [])
theorem mEqP_read {r : R2} {f : D → D → Res D} {mg : Mg} {K : Frag} {i : Nat} (hk : κ i = .op) (hf : Op2 K r f) (ne : ∀ x y z, f x y ≠ .err z) (hb : ∀ x y d, f x y = .ok d → ∃ b, d = .bool b) : ∀ σ H Q, rdE mg K κ E (mEqP f i) σ H Q → tOp r (tVar i) (tLst tNil) σ H Q :=
  fun σ H Q ⟨F0, H0, F, ρ, S, c⟩ => by
    have c1 := Res.sat_bind c
    obtain ⟨d, hd, c2⟩ := ofO_sat c1
    obtain ⟨a, bs, ws, ds, e0, hs, a0, fa, g, ok, n1, n2⟩ := op_at S hk (join_some hd)
    subst e0
    refine ⟨.ref a, hs, Nat.zero_le _, fun p hp => ?_⟩
    have x := Ext.newO (o := .lst []) S.sub hp
    refine hf H (upd H p (.lst [])) (.ref a) (.ref p) (.list ds) (.list []) (Ex.new hp) (.inl (.lst (Evl.sq_of g) (ok.still S.sub fun _ _ => rfl))) (.inr ⟨p, rfl, .inl ⟨[], [], rfl, upd_same, .nil⟩⟩) Q ?_
    have c3 := sat_post (ne (.list ds) (.list [])) c2
    refine Res.sat_imp c3 (fun d hfd k v F' H' e r => ?_) fun _ z => z
    obtain ⟨b, rfl⟩ := hb _ _ _ hfd
    cases r
    exact k (.bl b) F H' ⟨Ex.refl F, x.h.trans e.h, fun _ h _ => h, fun c o q => e.h _ _ (x.s _ _ q), id⟩ (.bl b)
theorem de_eqP {n i : Nat} {x : Str} {px p2 : Pos} (hr : Room n X.A) (hk : κ i = .op) (hN : X.N[i]? = some x) (hv : Vis X.env.scope x) (hdb : (x == ("__debug__" : Str)) = false := by decide) (hcd : (x == ("__classdict__" : Str)) = false := by decide) : DE X κ E (.Compare (.Name x px) [.Eq] [.List [] p2] pos) (mEqP eqD i) :=
  (pe_cmpR (op_eqD hr.units) (pe_var hN hv hdb hcd) (pe_lst pa_nil) (nomark _)).imp (mEqP_read hk op2_eq eqD_ne eqD_b)
theorem dt_eqP {n i : Nat} {x : Str} {px p2 : Pos} (hr : Room n X.A) (hk : κ i = .op) (hN : X.N[i]? = some x) (hv : Vis X.env.scope x) (hdb : (x == ("__debug__" : Str)) = false := by decide) (hcd : (x == ("__classdict__" : Str)) = false := by decide) : DT X κ E (.Compare (.Name x px) [.Eq] [.List [] p2] pos) (mTru (mEqP eqD i)) :=
  (pt_cmpR (op_eqD hr.units) (pe_var hN hv hdb hcd) (pe_lst pa_nil) (nomark _)).imp fun σ H Q ⟨F0, H0, F, ρ, S, c⟩ => by
    refine mEqP_read (mg := X.mg) hk op2_eq eqD_ne eqD_b σ H _ ⟨F0, H0, F, ρ, S, Res.sat_imp (bool_of c fun d hd => ?_) (fun d _ k v F' H' e r => ?_) fun _ z => z⟩
    · unfold mEqP at hd
      cases q : mVar i ρ with
      | ok x => rw [q] at hd; exact eqD_b _ _ _ hd
      | err x => rw [q] at hd; cases hd
      | stk => rw [q] at hd; cases hd
    · obtain ⟨b, rfl, k⟩ := k
      cases r
      exact ⟨b, rfl, k F' H' e⟩
/-! in, over items of any depth -/
def rInY (K : PySem.W.Frag) (f : Bool → Bool) : R2 := fun x y H Q => ∃ d dy ds, (dy = .list ds ∨ dy = .tuple ds) ∧ Dp K H x d ∧ Dp K H y dy ∧ SeqAt.shaped d = true ∧ SeqAt.shaped dy = true ∧ Q (.bl (f (ds.any fun z => PyData.eqv z d))) H
theorem op_inY (hu : X.A.units + 65 < cLine) : OpR X (compareOp .In) (rInY X.K fun b => b) := by
  intro pins s σ H x y v u Q I rx ry h
  obtain ⟨d, dy, ds, hy, hd, he, sd, se, q⟩ := h
  obtain ⟨as, r1⟩ := Dp.reads I d x v hd rx
  obtain ⟨bs, r2⟩ := Dp.reads I dy y u he ry
  rcases hy with rfl | rfl
  · exact SeqAt.in_list_reads r2 r1 (SeqAt.canLay_of_shaped se) (SeqAt.canLay_of_shaped sd) (room_in_shaped sd hu) ⟨.bl _, H, I, rfl, q⟩
  · exact SeqAt.in_tuple_reads r2 r1 (SeqAt.canLay_of_shaped se) (SeqAt.canLay_of_shaped sd) (room_in_shaped sd hu) ⟨.bl _, H, I, rfl, q⟩
theorem op_notInY (hu : X.A.units + 65 < cLine) : OpR X (compareOp .NotIn) (rInY X.K fun b => !b) := by
  intro pins s σ H x y v u Q I rx ry h
  obtain ⟨d, dy, ds, hy, hd, he, sd, se, q⟩ := h
  obtain ⟨as, r1⟩ := Dp.reads I d x v hd rx
  obtain ⟨bs, r2⟩ := Dp.reads I dy y u he ry
  rcases hy with rfl | rfl
  · exact SeqAt.notIn_list_reads r2 r1 (SeqAt.canLay_of_shaped se) (SeqAt.canLay_of_shaped sd) (room_in_shaped sd hu) ⟨.bl _, H, I, rfl, q⟩
  · exact SeqAt.notIn_tuple_reads r2 r1 (SeqAt.canLay_of_shaped se) (SeqAt.canLay_of_shaped sd) (room_in_shaped sd hu) ⟨.bl _, H, I, rfl, q⟩
def inYf (f : Bool → Bool) (x y : D) : Res D := match y with
  | .list ys => if plainD deep x = true ∧ plainD deep y = true then .ok (.bool (f (ys.any fun z => PyData.eqv z x))) else .stk
  | .tuple ys => if plainD deep x = true ∧ plainD deep y = true then .ok (.bool (f (ys.any fun z => PyData.eqv z x))) else .stk
  | _ => .stk
abbrev inY : D → D → Res D := inYf fun b => b
abbrev notInY : D → D → Res D := inYf fun b => !b
theorem inYf_ne (f : Bool → Bool) : ∀ x y z, inYf f x y ≠ .err z := fun x y z h => by
  unfold inYf at h
  split at h
  · split at h <;> cases h
  · split at h <;> cases h
  · cases h
theorem inYf_b (f : Bool → Bool) : ∀ x y d, inYf f x y = .ok d → ∃ b, d = .bool b := fun x y z h => by
  unfold inYf at h
  split at h
  · split at h <;> cases h; exact ⟨_, rfl⟩
  · split at h <;> cases h; exact ⟨_, rfl⟩
  · cases h
theorem op2_inY {K : Frag} (f : Bool → Bool) : Op2 K (rInY K f) (inYf f) := fun F H x y dx dy s rx ry Q k => by
  unfold inYf at k
  split at k
  · split at k
    · rename_i ys h
      have a := rx.dp s (by decide) h.1
      have b := ry.dp s (by decide) h.2
      exact ⟨dx, _, ys, .inl rfl, a.1, b.1, a.2, b.2, k _ F H (Ext.refl s) (.bl _)⟩
    · exact k.elim
  · split at k
    · rename_i ys h
      have a := rx.dp s (by decide) h.1
      have b := ry.dp s (by decide) h.2
      exact ⟨dx, _, ys, .inr rfl, a.1, b.1, a.2, b.2, k _ F H (Ext.refl s) (.bl _)⟩
    · exact k.elim
  · exact k.elim
theorem u65 {n : Nat} (hr : Room n X.A) : X.A.units + 65 < cLine := by have := hr.un; omega
theorem de_inY {n : Nat} (hr : Room n X.A) (ha : DB X κ E a ma) (hb : DB X κ E b mb) (hm : behindInMarks .In b = false := by rfl) : DE X κ E (.Compare a [.In] [b] pos) (mBin inY ma mb) := de_cmp (op_inY (u65 hr)) (op2_inY _) (inYf_ne _) ha hb hm
theorem de_notInY {n : Nat} (hr : Room n X.A) (ha : DB X κ E a ma) (hb : DB X κ E b mb) (hm : behindInMarks .NotIn b = false := by rfl) : DE X κ E (.Compare a [.NotIn] [b] pos) (mBin notInY ma mb) := de_cmp (op_notInY (u65 hr)) (op2_inY _) (inYf_ne _) ha hb hm
theorem dt_inY {n : Nat} (hr : Room n X.A) (ha : DB X κ E a ma) (hb : DB X κ E b mb) (hm : behindInMarks .In b = false := by rfl) : DT X κ E (.Compare a [.In] [b] pos) (mTru (mBin inY ma mb)) := dt_cmp (op_inY (u65 hr)) (op2_inY _) (inYf_ne _) (inYf_b _) ha hb hm
theorem dt_notInY {n : Nat} (hr : Room n X.A) (ha : DB X κ E a ma) (hb : DB X κ E b mb) (hm : behindInMarks .NotIn b = false := by rfl) : DT X κ E (.Compare a [.NotIn] [b] pos) (mTru (mBin notInY ma mb)) := dt_cmp (op_notInY (u65 hr)) (op2_inY _) (inYf_ne _) (inYf_b _) ha hb hm
theorem sg_newP {i : Nat} : Straight (mNewP i) := fun ρ => ⟨fun ρ' h => (by cases h), fun ρ' h => (by cases h)⟩
end
end WD

/-! enumerate(v, start=k) -/
namespace WD
open PySem PySem.Spec PyProof.Rows L2
open Evl (Ex Ex.refl Ex.trans Ex.new Ex.mut ex_l ex_t fresh_back)
theorem inner_list {P : Program} {w : World} {K : PySem.W.Frag} {e it a : Addr} {xs : List V} {k0 : Int} (ne : e ≠ it) : Inner P w K e it xs.length k0 (fun i => xs[i]?) (fun H => SqL K H a xs) (fun i h => h.IsListIter it a i) where
  ne := ne
  obj := fun i h st => by
    obtain ⟨o, ho, hc, hd⟩ := st
    exact ⟨o, ho, fun v q => by rw [hd] at q; cases q⟩
  keep := fun i h h' st k => st.at fun o q => k o q
  draw := by
    intro X hP hw hK hc i pins s σ H c old I hG hit he
    subst hP hw hK
    obtain ⟨its, rv, pl, hz⟩ := I.list hG
    have p := pl.isList
    obtain ⟨o, ho, hcls, n, hd⟩ := id p
    have ne1 : a ≠ it := fun z => by
      obtain ⟨o2, ho2, hc2, hd2⟩ := hit
      rw [z] at ho
      rw [ho] at ho2; cases ho2
      rw [hc2] at hcls; simp at hcls
    have ne2 : e ≠ a := fun z => by
      rw [← z] at ho
      have := he.symm.trans ho
      cases this
      simp at hcls
    have hn : its.toArray.size = xs.length := by simpa using rv.length.symm
    have hA : X.A.in1.handled = none := I.ok.hd hc
    have D := Draws.list (prog := X.prog) (w := X.w) hA it a ne1 its.toArray
    rw [hn] at D
    refine ⟨_, _, _, D, ⟨hit, p⟩, by simp [ne, ne2], fun j x hx => ?_, fun j h st => st.1⟩
    have hx : its[j]? = some x := by simpa using hx
    have hj : j < xs.length := by
      rw [← hn]
      have := (List.getElem?_eq_some_iff.mp hx).1
      simpa using this
    obtain ⟨u, hu, ru⟩ := rv.get (List.getElem?_eq_getElem hj)
    rw [hx] at hu; cases hu
    exact ⟨_, List.getElem?_eq_getElem hj, ru⟩
/-- a call of a type with keywords: by the library's rule for what keeps the frame -/
theorem typeKw {M : Model} {A : Around} {E : Value → Shared → Prop} {s : Shared} {env : PySem.Env} {q : Pos} {T : String} {a : Expr} {ks : List Keyword} {R : Value → Shared → Prop}
    (hall : (backToKw q (keywordEach ks env)).all (·.1.isSome) = true) (hpl : ((backTo q (starEach [a] env)).any (·.1) || (backToKw q (keywordEach ks env)).any (·.1.isNone)) = false) (he : starEach [a] env = (false, eval a env) :: starEach [] env)
    (go : wpAny M A (spliced (backTo q (starEach [a] env))) (fun us s1 => wpAny M A (evalAll ((backToKw q (keywordEach ks env)).map (·.2))) (fun ws s2 => wpAny M A (call (.type T) us (((backToKw q (keywordEach ks env)).filterMap (·.1)).zip ws)) R E s2) E s1) E s) :
    wpAny M A (callWith q (.type T) [] (backTo q (starEach [a] env)) (backToKw q (keywordEach ks env))) R E s :=
  PySem.W.callWith_of (P := fun _ => True) hpl (fun _ _ => ⟨_, .inr (.inl rfl), fun _ _ _ _ _ q => wpAny_pure q⟩) (evalArgs_kw2 hall (thn go fun us s1 h1 => thn h1 fun ws s2 h2 => ⟨trivial, h2⟩) he)
def iEnumS (K : PySem.W.Frag) (k : Int) (ta : TA) : TI := fun σ H R => ta σ H fun vs H1 => ∃ a xs, vs = [.ref a] ∧ ((SqL K H1 a xs ∧ R (ItP xs.length k (fun i => xs[i]?) fun H => SqL K H a xs) H1) ∨ (SqT K H1 a xs ∧ R (ItP xs.length k (fun i => xs[i]?) fun H => SqT K H a xs) H1))
theorem pi_enumS {X : Cx} {e : Expr} {ta : TA} {p pos tpos cp kp : Pos} {j} {elts : List Expr} {kk : Nat} {k : Int} (hg : Gl X "enumerate") (hm : X.mg "enumerate" = none) (ha : PA X [e] ta) (hk0 : -(2 ^ 63) ≤ k) (hk1 : k < 2 ^ 63)
    (he : starEach [e] X.env = (false, eval e X.env) :: starEach [] X.env := by rfl) (hpl : ((backTo pos (starEach [e] X.env)).any (·.1) || (backToKw pos (keywordEach [⟨some "start", .Constant (.int k) j cp, kp⟩] X.env)).any (·.1.isNone)) = false := by rfl) :
    PI X (.Tuple elts kk tpos) (.Call (.Name "enumerate" p) [e] [⟨some "start", .Constant (.int k) j cp, kp⟩] pos) (iEnumS X.K k ta) := by
  refine ⟨fun pins s σ H R I h => ?_⟩
  refine wpAny_Call_Name_kw (ld_blt I hg hm boot_enumerate (typeKw rfl hpl he (thn (ha.run pos pins s σ H _ I h) fun us s1 ⟨vs, H1, I1, r1, q1⟩ => ?_)))
  have pk : PK X [⟨some "start", .Constant (.int k) j cp, kp⟩] (tCons (tC (.int k)) tNil) := pk_cons pe_int pk_nil
  refine thn (pk.run pos pins s1 σ H1 (fun zs H2 => zs = [.int k] ∧ H2 = H1) I1 ⟨rfl, rfl⟩) fun ws s2 ⟨zs, H2, I2, rz, e1, e2⟩ => ?_
  subst e1 e2
  obtain ⟨t, rfl⟩ : ∃ t, ws = [.int k t] := by
    cases rz with
    | cons ra rb =>
      cases rb
      obtain ⟨t, rfl⟩ := ra
      exact ⟨t, rfl⟩
  have fp : ∀ {h' : Heap}, Inv X pins σ H2 { s2 with heap := h' } → ∀ b ∈ [s2.heap.objs.size + 1, s2.heap.objs.size], FpOk X pins H2 b := fun _ b hb => by
    have e' : b = s2.heap.objs.size + 1 ∨ b = s2.heap.objs.size := by simpa using hb
    have hle : s2.heap.objs.size ≤ b := by
      rcases e' with z | z
      · rw [z]; exact Nat.le_add_right _ _
      · rw [z]; exact Nat.le_refl _
    exact I2.fpOk hle (I2.hok.fresh hle)
  obtain ⟨a, xs, ex, q1⟩ := q1
  subst ex
  cases r1 with
  | cons r rr =>
    cases rr
    cases r
    rcases q1 with ⟨hq, q⟩ | ⟨hq, q⟩
    · obtain ⟨its, rv, p', hz⟩ := I2.list hq
      refine enum_begins_start (begins_list a its.toArray) p'.isList hk0 hk1 fun h' he hit hsz hk => wpAny_pyIter_enum he ?_
      have I3 : Inv X pins σ H2 { s2 with heap := h' } := I2.kept (t' := s2.toks) hk
      refine ⟨s2.heap.objs.size + 1, [s2.heap.objs.size + 1, s2.heap.objs.size], _, _, H2, rfl, I3, turn_enumP (inner_list (Nat.succ_ne_self _)), ⟨⟨.none, ?_⟩, ⟨_, hit, rfl, rfl⟩⟩, fp I3, q⟩
      have e0 : k + ((0 : Nat) : Int) = k := by omega
      rw [e0]; exact he
    · obtain ⟨its, rv, p', hz⟩ := I2.tuple hq
      refine enum_begins_start (begins_tuple a its.toArray) p' hk0 hk1 fun h' he hit hsz hk => wpAny_pyIter_enum he ?_
      have I3 : Inv X pins σ H2 { s2 with heap := h' } := I2.kept (t' := s2.toks) hk
      refine ⟨s2.heap.objs.size + 1, [s2.heap.objs.size + 1, s2.heap.objs.size], _, _, H2, rfl, I3, turn_enumP (inner_tuple (Nat.succ_ne_self _)), ⟨⟨.none, ?_⟩, ⟨_, hit, rfl, rfl⟩⟩, fp I3, q⟩
      have e0 : k + ((0 : Nat) : Int) = k := by omega
      rw [e0]; exact he
def enumK (k : Int) (ds : List D) : List D := ds.zipIdx.map fun p => .tuple [.int (k + (p.2 : Int)), p.1]
def enumSD (k : Int) : List D → Res (List D)
  | [.list ds] => .ok (enumK k ds)
  | [.tuple ds] => .ok (enumK k ds)
  | _ => .stk
theorem enumK_len (k : Int) (ds : List D) : (enumK k ds).length = ds.length := by simp [enumK]
theorem enumK_get {k : Int} {ds : List D} {i : Nat} {d : D} (h : ds[i]? = some d) : (enumK k ds)[i]? = some (.tuple [.int (k + (i : Int)), d]) := by
  unfold enumK
  rw [List.getElem?_map, List.getElem?_zipIdx, h]
  simp
section
variable {X : Cx} {κ κe : Nat → Kd} {E : EX} {a b c e tg o : Expr} {es : List Expr} {pos : Pos} {st : Stmt} {ma mb mc : Env → Res D} {ms : Env → Res (List D)}
theorem di_enumS {p tpos cp kp : Pos} {j} {elts : List Expr} {kk : Nat} {i0 : Int} (hg : Gl X "enumerate") (hm : X.mg "enumerate" = none) (ha : DA X κ E [a] ms) (hk : -(2 ^ 63) ≤ i0 ∧ i0 < 2 ^ 63 := by decide) (he : starEach [a] X.env = (false, eval a X.env) :: starEach [] X.env := by rfl) (hpl : ((backTo pos (starEach [a] X.env)).any (·.1) || (backToKw pos (keywordEach [⟨some "start", .Constant (.int i0) j cp, kp⟩] X.env)).any (·.1.isNone)) = false := by rfl) :
    DI X κ E (.Tuple elts kk tpos) (.Call (.Name "enumerate" p) [a] [⟨some "start", .Constant (.int i0) j cp, kp⟩] pos) (mBindA (enumSD i0) ms) :=
  (pi_enumS hg hm ha hk.1 hk.2 he hpl).imp fun σ H R ⟨F0, H0, F, ρ, S, c⟩ => ⟨F0, H0, F, ρ, S, Res.sat_imp (Res.sat_bind c) (fun ds _ k vs F' H' x r => by
    unfold enumSD at k
    split at k
    · rename_i ds
      cases r with
      | cons r1 r2 =>
        cases r2
        cases r1 with
        | @lst a vs _ h1 h2 =>
          refine ⟨a, vs, rfl, .inl ⟨ex_l x.s h1, k _ F' H' x (walkd_pair walk_enumP (by rw [enumK_len, h2.length]) (fun F2 H2 p s => ex_l (p.trans s) h1) fun i F2 H2 x y p hi e1 e2 => ?_)⟩⟩
          cases e1
          obtain ⟨d, hd, rd⟩ := h2.getV e2
          exact ⟨.int (i0 + (i : Int)), d, enumK_get hd, .int _, rd.mono p⟩
    · rename_i ds
      cases r with
      | cons r1 r2 =>
        cases r2
        cases r1 with
        | @tup a vs _ h1 h2 =>
          refine ⟨a, vs, rfl, .inr ⟨ex_t x.s h1, k _ F' H' x (walkd_pair walk_enumP (by rw [enumK_len, h2.length]) (fun F2 H2 p s => ex_t (p.trans s) h1) fun i F2 H2 x y p hi e1 e2 => ?_)⟩⟩
          cases e1
          obtain ⟨d, hd, rd⟩ := h2.getV e2
          exact ⟨.int (i0 + (i : Int)), d, enumK_get hd, .int _, rd.mono p⟩
    · exact k.elim) fun _ z => z⟩
end
end WD

/-! defs that return a list that is new: who calls may change it -/
namespace WD
open PySem PySem.Spec PyProof.Rows L2
open Evl (Ex Ex.refl Ex.trans Ex.new Ex.mut ex_l ex_t fresh_back)
def spN (mg : Mg) (K : Frag) (n : Nat) (m : List D → Res D) : Sp := fun vs H Q E => vs.length = n ∧ ∃ F ds, Ex F H ∧ NF F ∧ RpA K F vs ds ∧
  (m ds).sat (fun d => ∃ xs, d = .list xs ∧ ∀ p ws F' H', Ext F H F' H' → H p = none → F' p = none → H' p = some (.lst ws) → RpA K F' ws xs → Q (.ref p) H') (ErrOk mg K E F H)
abbrev eXN (K : Frag) (E : XK) : EX := ⟨fun _ => E, fun H0 d v F H => ∃ p ws xs, d = .list xs ∧ v = .ref p ∧ H0 p = none ∧ F p = none ∧ H p = some (.lst ws) ∧ RpA K F ws xs⟩
structure FnN (P : Program) (w : World) (K : Frag) (mg : Mg) (base : Heap) (k : Nat) (x : Str) (ps : List Str) (m : List D → Res D) : Prop where
  ex : ∃ f fd, mg x = some (.ref f) ∧ PySem.W.keepIn K (.ref f) = true ∧ Binds K fd ps [] ∧ FnOk P w K mg base (L2N.CX P w) k f fd ps (spN mg K ps.length m)
def lsD : D → Res (List D)
  | .list ds => .ok ds
  | _ => .stk
theorem lsD_sat {d : D} {P : List D → Prop} {R : Exn → Prop} (h : (lsD d).sat P R) : ∃ ds, d = .list ds ∧ P ds := by
  cases d <;> first | exact ⟨_, rfl, h⟩ | exact h.elim
def mLs (m : Env → Res D) : Env → Res (List D) := fun ρ => (m ρ).bind lsD
section
variable {X : Cx} {κ κe : Nat → Kd} {E : EX} {a b c e : Expr} {es : List Expr} {pos : Pos} {st : Stmt} {sts : List Stmt}
theorem ds_retNew {m : Env → Res (List D)} (h : DN X κ E e m) (hR : ∀ H0 p ws xs F H, H0 p = none → F p = none → H p = some (.lst ws) → RpA X.K F ws xs → E.ret H0 (.list xs) (.ref p) F H := by exact fun _ _ _ _ _ _ h1 h2 h3 h4 => ⟨_, _, _, rfl, rfl, h1, h2, h3, h4⟩) : DS X κ E (.Return (some e) pos) (mRet (mList m)) :=
  (ps_ret h).imp fun Dn σ H ⟨F0, H0, F, ρ, S, k⟩ => ⟨F0, H0, F, ρ, S, Res.sat_imp (Res.sat_bind (out_sat k)) (fun xs _ k p ws F' H' x hp fp hv r => k (.ref p) F' H' (S.ext.trans x) (hR _ _ _ _ _ _ (fresh_back S.h0 hp) fp hv r)) fun x z => err_back S z⟩
theorem fn_okN {P : Program} {w : World} {K : Frag} {mg : Mg} {base : Heap} {x qual : Str} {st : Stmt} {f : Addr} {fd : FuncData} {N ps : List Str} {k n : Nat} {body : Env → Out} (F : Fun K x qual st f fd) (S : FnScope N ps (defScope st)) (hn : N.length = n)
    (hk : ∀ i, i < ps.length → κ i = .im)
    (hbody : ∀ (cdv : Value) (A : Around) (outer : List PySem.Env) (s : Shared) (H : Hp) (E : XK), Room k (A.deeper (envOfC qual (defScope st) s.heap.objs.size f cdv)) →
      DSs2 (cxOf (L2N.CX P w) P w K mg base N qual (defScope st) f cdv A outer s H E) κ κe (eXN K E) (defBody st) body) : FnOk P w K mg base (L2N.CX P w) (k + 1) f fd ps (spN mg K ps.length (mkFn n body)) := by
  subst hn
  refine F.okQ S (fun vs H Q E h => h.1) fun cdv A outer s H vs Q E hr h => ⟨_, hbody cdv A outer s H E hr, ?_⟩
  obtain ⟨hl, F, ds, e, nf, r, c⟩ := h
  refine ⟨F, H, F, _, fn_start e nf r hl hk, ?_⟩
  unfold mkFn at c
  generalize ho : body (ds.map some ++ List.replicate (N.length - ds.length) none) = o at c ⊢
  cases o with
  | nx ρ => obtain ⟨xs, hx, _⟩ := c; cases hx
  | bk ρ => exact c.elim
  | ct ρ => exact c.elim
  | rt d =>
    obtain ⟨xs, hx, c⟩ := c
    subst hx
    intro v F' H' x ⟨p, ws, ys, hy, hv, h0, f0, g, r⟩
    cases hy
    subst hv
    exact c p ws F' H' x h0 f0 g r
  | err x => exact fun _ => c
  | stk => exact c
theorem dn_callN {k : Nat} {x : Str} {p : Pos} {ps : List Str} {m : List D → Res D} {ma : Env → Res (List D)} (G : FnN X.prog X.w X.K X.mg X.base k x ps m) (hr : Room k X.A) (hx : ∀ σ, PassesAt (L2N.CX X.prog X.w) X σ (E.err σ)) (hg : Gl X x) (ha : DA X κ E (e :: es) ma) (hlen : (e :: es).length = ps.length)
    (hma : ∀ ρ ds, ma ρ = .ok ds → ds.length = ps.length)
    (hdb : (x == ("__debug__" : Str)) = false := by decide) (he : starEach (e :: es) X.env = (false, eval e X.env) :: starEach es X.env := by rfl) (hpl : (backTo pos (starEach es X.env)).any (·.1) = false := by rfl) :
    DN X κ E (.Call (.Name x p) (e :: es) [] pos) (mLs (mCall m ma)) := by
  obtain ⟨f, fd, hm, hk, hb, hF⟩ := G.ex
  refine (pe_callS hF hr hg hm hk hb hx ha hdb he hpl).imp fun σ H Q ⟨F0, H0, F, ρ, S, c⟩ => ⟨F0, H0, F, ρ, S, Res.sat_imp (Res.sat_bind (Res.sat_bind c)) (fun ds q k vs F' H' x r => ?_) fun _ z => z⟩
  refine ⟨by rw [r.length, hma ρ ds q], F', ds, x.s, x.n S.nf, r, Res.sat_imp k (fun d _ k => ?_) fun _ z => z.mono x⟩
  obtain ⟨xs, hd, k⟩ := lsD_sat k
  exact ⟨xs, hd, fun p ws F2 H2 x2 hp fp hv rv => k p ws F2 H2 (x.trans x2) (fresh_back x.h hp) fp hv rv⟩
end
end WD

/-! try: if c: return a; ..; return b -/
namespace WD
open PySem PySem.Spec PyProof.Rows L2
open Evl (Ex Ex.refl Ex.trans Ex.new Ex.mut ex_l ex_t fresh_back)
section
variable {X : Cx} {κ : Nat → Kd} {E : EX} {c e : Expr} {sts : List Stmt} {pos p1 : Pos}
/-- statements that return m's value -/
def DR (X : Cx) (κ : Nat → Kd) (E : EX) (sts : List Stmt) (m : Env → Res D) : Prop := PSs X sts (fun Dn σ H => rdE X.mg X.K κ E m σ H fun v H' => Dn.rt v H')
theorem dr_ret {m : Env → Res D} (h : DE X κ E e m) : DR X κ E [.Return (some e) pos] m := pss_one (ps_ret h)
theorem dr_if {t : Env → Res Bool} {m1 m2 : Env → Res D} (hc : DT X κ E c t) (h1 : DE X κ E e m1) (h2 : DR X κ E sts m2) : DR X κ E (.If c [.Return (some e) p1] [] pos :: sts) (mIf t m1 m2) :=
  (pss_cons (ps_if hc (pss_one (ps_ret h1)) pss_nil) h2).imp fun Dn σ H ⟨F0, H0, F, ρ, S, k⟩ => ⟨F0, H0, F, ρ, S, Res.sat_imp (Res.sat_bind k) (fun b _ k F' H' x => by
    cases b with
    | true => exact ⟨F0, H0, F', ρ, S.mono x, Res.sat_imp k (fun d _ k v F2 H2 x2 r => k v F2 H2 (x.trans x2) r) fun _ z => z.mono x⟩
    | false => exact ⟨F0, H0, F', ρ, S.mono x, Res.sat_imp k (fun d _ k v F2 H2 x2 r => k v F2 H2 (x.trans x2) r) fun _ z => z.mono x⟩) fun _ z => z⟩
theorem ds_tryS {h0 : ExceptHandler} {hds : List ExceptHandler} {l : List Sut} {tb : Tbl} {me : Env → Res D}
    (hb : ∀ (W : WX) (pn : List (Addr × Obj)) (xe : Value → Shared → Prop), L2N.Takes (X.tr pn xe) W → DR (X.tr pn xe) κ ⟨WE W, E.ret⟩ sts me)
    (hd : HdsD X κ E (h0 :: hds) l) (ht : TblOk X.K X.mg tb) (hcl : ∀ n ∈ l, ∃ cv, X.mg n.cls = some cv) (hN : X.N.Nodup) (tk : L2N.Takes X (fun cls d σ H => E.err σ cls d H)) (hR : ∀ H0 d v F H, Rp X.K F v d → E.ret H0 d v F H := by exact fun _ _ _ _ _ h => h) (hs : X.stack = X.env :: X.outer := by rfl) (hf : X.env.frame = some X.env.locals := by rfl) :
    DS X κ E (.Try sts (h0 :: hds) [] [] pos) (mTry tb me (fun d _ => .rt d) l) := by
  obtain ⟨l', h⟩ := hds_of hd ht
  obtain ⟨h1, h2⟩ := h fun _ => hcl
  have hb' : ∀ (W : WX) (pn : List (Addr × Obj)) (xe : Value → Shared → Prop), L2N.Takes (X.tr pn xe) W → PSs (X.tr pn xe) sts (fun Dn σ H => rdE X.mg X.K κ ⟨WE W, E.ret⟩ me σ H fun v H' => Dn.rt v H') := hb
  refine (try_walk hs hf hN tk hb' h1).imp fun Dn σ H ⟨F0, H0, F, ρ, S, k⟩ => ⟨F0, H0, F, ρ, S, ?_⟩
  unfold mTry at k
  cases q : me ρ with
  | ok d =>
    simp only [q] at k
    exact fun v F' H' x r => k v F' H' (S.ext.trans x) (hR _ _ _ _ _ r)
  | err y =>
    simp only [q] at k
    exact fun F' H' c dd x rep => h2 Dn F0 H0 F' H' σ ρ y c dd (S.mono x) rep (OutOk.mono (H := H) x.f k)
  | stk => simp only [q] at k; exact k.elim
end
end WD

/-! try with except clauses that name nothing -/
namespace WD
open PySem PySem.Spec PyProof.Rows L2
open Evl (Ex Ex.refl Ex.trans Ex.new Ex.mut ex_l ex_t fresh_back)
structure SutN where
  cls : Str
  m : Env → Out
def hndlN (tb : Tbl) : List SutN → Exn → Env → Out
  | [], x, _ => .err x
  | s :: r, x, ρ => match tb x.cls s.cls with
    | none => .stk
    | some true => (match s.m ρ with
      | .err _ => .stk
      | o => o)
    | some false => hndlN tb r x ρ
def mTryN (tb : Tbl) (m : Env → Res D) (fin : D → Env → Out) (hs : List SutN) : Env → Out := fun ρ => match m ρ with
  | .ok d => fin d ρ
  | .err x => hndlN tb hs x ρ
  | .stk => .stk
section
variable {X : Cx} {κ : Nat → Kd} {E : EX} {sts : List Stmt} {pos : Pos}
inductive HdsND (X : Cx) (κ : Nat → Kd) (E : EX) : List ExceptHandler → List SutN → Prop
  | nil : HdsND X κ E [] []
  | cons {x : Str} {m : Env → Out} {b0 : Stmt} {suite : List Stmt} {np hp : Pos} {hds : List ExceptHandler} {l : List SutN} (hg : Gl X x) (hdb : (x == ("__debug__" : Str)) = false)
      (hsu : ∀ (a : Addr) (oe : Obj) (pn : List (Addr × Obj)), DSs (X.suite a ((a, oe) :: pn)) κ ⟨EX0.err, E.ret⟩ (b0 :: suite) m) (r : HdsND X κ E hds l) :
      HdsND X κ E (.ExceptHandler (some (.Name x np)) none (b0 :: suite) hp :: hds) (⟨x, m⟩ :: l)
theorem hds_ofN {hds : List ExceptHandler} {l : List SutN} (h : HdsND X κ E hds l) {tb : Tbl} (ht : TblOk X.K X.mg tb) :
    ∃ l' : List (Value × (Addr → Value → Option Addr → TS)), (l ≠ [] → ∀ n ∈ l, ∃ cv, X.mg n.cls = some cv) → L2N.HdsOk X hds l' ∧
      ∀ (Dn : Ends) (F0 H0 F H : Hp) (σ : L2.St) (ρ : Env) (x : Exn) (cls : Value) (d : Option Addr), Stt X.K κ F0 H0 F H σ ρ → ExRep X.mg X.K F H x cls d → OutOk X.mg X.K κ E F0 H0 F H Dn (hndlN tb l x ρ) →
        wMany X.K (fun cls d σ H => E.err σ cls d H) Dn l' cls d σ H := by
  induction h with
  | nil => exact ⟨[], fun _ => ⟨.nil, fun Dn F0 H0 F H σ ρ x cls d S r k => (show ∀ σ, ErrOk X.mg X.K (E.err σ) F0 H0 x from k) σ F H cls d S.ext r⟩⟩
  | @cons x m b0 suite np hp hds l hg hdb hsu r ih =>
    obtain ⟨l', ih⟩ := ih
    cases hcv : X.mg x with
    | none => exact ⟨[], fun z => by obtain ⟨cv, e⟩ := z (by simp) ⟨x, m⟩ (by simp); rw [hcv] at e; cases e⟩
    | some cv =>
      refine ⟨(cv, fun a cls d => fun D σ H => rdS X.mg X.K κ ⟨EX0.err, E.ret⟩ m D σ H) :: l', fun z => ?_⟩
      obtain ⟨h1, h2⟩ := ih fun _ n hn => z (by simp) n (by simp [hn])
      refine ⟨.cons ⟨hg, hdb, .inl hcv⟩ (fun a oe cls d pn hz hf => ⟨fun pins s σ H D I k => (hsu a oe pn).run pins s σ H D I k⟩) h1, fun Dn F0 H0 F H σ ρ y cls d S rep k => ?_⟩
      obtain ⟨C, e1, e2, _⟩ := id rep
      unfold hndlN at k
      cases htb : tb y.cls x with
      | none => simp only [htb] at k; exact k.elim
      | some b =>
        obtain ⟨cv', e3, e4⟩ := ht _ _ _ htb C e1
        rw [hcv] at e3
        cases e3
        refine ⟨b, by rw [e2]; exact e4, fun hb a na => ?_, fun hb => ?_⟩
        · subst hb
          simp only [htb] at k
          refine ⟨F0, H0, F, ρ, S, ?_⟩
          generalize m ρ = o at k ⊢
          cases o with
          | nx ρ' => exact k
          | bk ρ' => exact k
          | ct ρ' => exact k
          | rt d => exact k
          | err x => exact k.elim
          | stk => exact k.elim
        · subst hb
          simp only [htb] at k
          exact h2 Dn F0 H0 F H σ ρ y cls d S rep k
theorem ds_trySN {h0 : ExceptHandler} {hds : List ExceptHandler} {l : List SutN} {tb : Tbl} {me : Env → Res D}
    (hb : ∀ (W : WX) (pn : List (Addr × Obj)) (xe : Value → Shared → Prop), L2N.Takes (X.tr pn xe) W → DR (X.tr pn xe) κ ⟨WE W, E.ret⟩ sts me)
    (hd : HdsND X κ E (h0 :: hds) l) (ht : TblOk X.K X.mg tb) (hcl : ∀ n ∈ l, ∃ cv, X.mg n.cls = some cv) (tk : L2N.Takes X (fun cls d σ H => E.err σ cls d H)) (hR : ∀ H0 d v F H, Rp X.K F v d → E.ret H0 d v F H := by exact fun _ _ _ _ _ h => h) (hs : X.stack = X.env :: X.outer := by rfl) (hf : X.env.frame = some X.env.locals := by rfl) :
    DS X κ E (.Try sts (h0 :: hds) [] [] pos) (mTryN tb me (fun d _ => .rt d) l) := by
  obtain ⟨l', h⟩ := hds_ofN hd ht
  obtain ⟨h1, h2⟩ := h fun _ => hcl
  have hb' : ∀ (W : WX) (pn : List (Addr × Obj)) (xe : Value → Shared → Prop), L2N.Takes (X.tr pn xe) W → PassesOwn (model X.prog X.w) X.A X.env xe → PSs (X.tr pn xe) sts (fun Dn σ H => rdE X.mg X.K κ ⟨WE W, E.ret⟩ me σ H fun v H' => Dn.rt v H') := fun W pn xe t _ => hb W pn xe t
  refine (L2N.ps_try_many hs hf tk hb' h1).imp fun Dn σ H ⟨F0, H0, F, ρ, S, k⟩ => ⟨F0, H0, F, ρ, S, ?_⟩
  unfold mTryN at k
  cases q : me ρ with
  | ok d =>
    simp only [q] at k
    exact fun v F' H' x r => k v F' H' (S.ext.trans x) (hR _ _ _ _ _ r)
  | err y =>
    simp only [q] at k
    exact fun F' H' c dd x rep => h2 Dn F0 H0 F' H' σ ρ y c dd (S.mono x) rep (OutOk.mono (H := H) x.f k)
  | stk => simp only [q] at k; exact k.elim
theorem hclN_nil {mg : Mg} : ∀ n ∈ ([] : List SutN), ∃ cv, mg n.cls = some cv := fun n h => by simp at h
theorem hclN_cons {mg : Mg} {x : Str} {m : Env → Out} {l : List SutN} (h : ∃ cv, mg x = some cv) (r : ∀ n ∈ l, ∃ cv, mg n.cls = some cv) : ∀ n ∈ (⟨x, m⟩ :: l : List SutN), ∃ cv, mg n.cls = some cv := fun n hn => by
  rcases List.mem_cons.mp hn with rfl | hn
  · exact h
  · exact r n hn
end
end WD

/-! try with clauses of both kinds: that name what they catch, and that do not -/
namespace WD
open PySem PySem.Spec PyProof.Rows L2
open Evl (Ex Ex.refl Ex.trans Ex.new Ex.mut ex_l ex_t fresh_back)
def wHm (K : Frag) (Wout : WX) (D : Ends) : List (Value × Option Nat × Sui) → WX
  | [] => Wout
  | h :: r => fun cls d σ H => ∃ b, PySem.W.exmOne K cls h.1 = some b ∧ (b = true → ∀ a, H a = none → match h.2.1 with
      | some i => h.2.2 a cls d (endN D i) (σ.set i (some (.ref a))) H
      | none => h.2.2 a cls d D σ H) ∧ (b = false → wHm K Wout D r cls d σ H)
inductive HdsM (X : Cx) : List ExceptHandler → List (Value × Option Nat × Sui) → Prop
  | nil : HdsM X [] []
  | named {x n : Str} {c : Value} {i : Nat} {ts : Sui} {b0 : Stmt} {suite : List Stmt} {np hp : Pos} {hds : List ExceptHandler} {l : List (Value × Option Nat × Sui)} (hi : X.N[i]? = some n) (hl : X.env.kindOf n = some .local) (hc : Names X x c)
      (hsu : ∀ (a : Addr) (oe : Obj) (cls : Value) (d : Option Addr) (pn : List (Addr × Obj)), Zc cls d oe → (∃ vs, oe.data = .fields vs) → PSs (X.suite a ((a, oe) :: pn)) (b0 :: suite) (ts a cls d)) (r : HdsM X hds l) : HdsM X (.ExceptHandler (some (.Name x np)) (some n) (b0 :: suite) hp :: hds) ((c, some i, ts) :: l)
  | bare {x : Str} {c : Value} {ts : Sui} {b0 : Stmt} {suite : List Stmt} {np hp : Pos} {hds : List ExceptHandler} {l : List (Value × Option Nat × Sui)} (hc : Names X x c)
      (hsu : ∀ (a : Addr) (oe : Obj) (cls : Value) (d : Option Addr) (pn : List (Addr × Obj)), Zc cls d oe → (∃ vs, oe.data = .fields vs) → PSs (X.suite a ((a, oe) :: pn)) (b0 :: suite) (ts a cls d)) (r : HdsM X hds l) : HdsM X (.ExceptHandler (some (.Name x np)) none (b0 :: suite) hp :: hds) ((c, none, ts) :: l)
section
variable {X : Cx}
theorem try_walkM {body : List Stmt} {h0 : ExceptHandler} {hds : List ExceptHandler} {l : List (Value × Option Nat × Sui)} {pos : Pos} {tb : WX → TS} {Wout : WX} (hs : X.stack = X.env :: X.outer) (hf : X.env.frame = some X.env.locals) (hN : X.N.Nodup) (tk : L2N.Takes X Wout)
    (hb : ∀ (W : WX) (pn : List (Addr × Obj)) (xe : Value → Shared → Prop), L2N.Takes (X.tr pn xe) W → PSs (X.tr pn xe) body (tb W)) (hh : HdsM X (h0 :: hds) l) : PS X (.Try body (h0 :: hds) [] [] pos) (fun D σ H => tb (wHm X.K Wout D l) D σ H) := ⟨fun pins s σ H D I h => by
  have ok := I.ok
  have hfr : X.A.frames = some (X.env :: X.outer) := (congrArg some hs).symm ▸ ok.frames
  refine wpAny_Try_except (wpAny_mono ((hb (wHm X.K Wout D l) (X.pn ++ pins) (fun e s1 => wpAny (model X.prog X.w) X.A (noteFrame e X.env) (fun _ s2 => wpAny (model X.prog X.w) X.A (setFlight e none) (fun _ s3 => wpAny (model X.prog X.w) X.A (handleBy e X.env (h0 :: hds)) (SP X pins D) X.xe s3) X.xe s2) X.xe s1) (fun u s' xx => ?_)).run [] s σ H D (I.toTry _) h) (fun fl s1 q => ?_) fun _ _ he => he)
  · obtain ⟨a, B, sI, pins', σ', H', cls, d, rfl, J', nb, up, sky, na, os, ag, w⟩ := xx
    have J : Inv X pins σ' H' sI := J'.ofTry ok
    refine L2N.Sky.land L2N.Zn.steady hfr hf (show Sky B (X.env :: X.outer) a (L2N.Zn cls d) X.env.locals s'.heap from hs ▸ sky) fun h3 fl3 up3 => ?_
    have J3 : Inv X pins σ' H' { s' with heap := h3 } := J.landed nb fl3.1 (up.trans up3) os ag
    obtain ⟨o3, vs3, he3, hz3, hd3⟩ := fl3.there
    have nfr := not_framed fl3.2.2.1 he3 hd3
    have nL : a ≠ X.env.locals := fun z => nfr (List.mem_filterMap.mpr ⟨X.env, List.mem_cons_self, hf.trans (congrArg some z.symm)⟩)
    have nF : a ∉ X.fs := fun hm => let ⟨e, he, q⟩ := List.mem_filterMap.mp hm; nfr (List.mem_filterMap.mpr ⟨e, List.mem_cons_of_mem _ he, q⟩)
    have S3 := J3.suite he3 hd3 na nL nF
    have LT : PySem.W.Looks (model X.prog X.w) h3 (typeOf (.ref a)) cls := fun _ _ _ _ k q => wpAny_typeOf_ref (k _ _ he3) (hz3.1.symm ▸ q)
    have go : ∀ {ds : List ExceptHandler} {m : List (Value × Option Nat × Sui)}, HdsM X ds m → wHm X.K Wout D m cls d σ' H' → wpAny (model X.prog X.w) X.A (handleBy (.ref a) X.env ds) (SP X pins D) X.xe { s' with heap := h3 } := by
      intro ds m hk
      induction hk with
      | nil =>
        refine fun w => wpAny_handleBy_nil ?_
        obtain ⟨_, _, _, oe, vs, T, oT, ts', he, hz, hd, h1, hr⟩ := id fl3
        unfold PySem.passOn
        refine wpAny_bind (wpAny_field he hd h1 ?_)
        rw [if_neg (show ¬ ((Value.ref T == Value.none) = true) by simp)]
        have fin : wpAny (model X.prog X.w) X.A (setFlight (.ref a) X.env.frame) (fun _ s4 => wpAny (model X.prog X.w) X.A (throw (.ref a) : Sem Flow) (SP X pins D) X.xe s4) X.xe { s' with heap := h3 } := by
          rw [hf]
          exact HandSPX.setFlight_upZ fl3 fun h4 hh4 up4 => wpAny_throw (tk _ _ ⟨a, B, sI, pins, σ', H', cls, d, rfl, J, nb, (up.trans up3).trans up4, .inr (.inr (hs.symm ▸ hh4)), na, os, ag, w⟩)
        first | exact wpAny_bind (wpAny_pure (wpAny_bind fin)) | exact wpAny_bind fin
      | @named x n c i ts b0 suite np hp hds2 l2 hi hl hc hsu r ih =>
        rintro ⟨b, hb1, hyes, hno⟩
        have LM := PySem.W.exm_one (M := model X.prog X.w) (J3.kIn) LT hb1
        have test : ∀ {Q : Value → Shared → Prop} {E : Value → Shared → Prop}, Q c { s' with heap := h3 } → wpAny (model X.prog X.w) (X.A.mark (some (.ref a))) (eval (.Name x np) X.env) Q E { s' with heap := h3 } := fun {Q E} q => by
          obtain ⟨hg, hdbg, hm | ⟨hm, hv, hnn⟩⟩ := hc
          · exact ld_glob (X := X.suite a ((a, o3) :: (X.pn ++ pins))) S3 hg hm q hdbg
          · exact ld_blt (X := X.suite a ((a, o3) :: (X.pn ++ pins))) S3 hg hm hv q hnn hdbg
        refine wpAny_handleBy_cons (codeAny_handlers_test (test (LM.here ?_))) fun q => nomatch q
        cases b with
        | false => exact ih (hno rfl)
        | true =>
          refine codeAny_handlers_suite_as (HandSPX.lands_againZ fl3 fun h4 fl4 up4 => ?_)
          have J4 : Inv X pins σ' H' { s' with heap := h4 } := J.landed nb fl4.1 ((up.trans up3).trans up4) os ag
          obtain ⟨o4, vs4, he4, hz4, hd4⟩ := fl4.there
          refine store_ok (X := X.suite a ((a, o4) :: (X.pn ++ pins))) (v := .ref a) (J4.suite he4 hd4 na nL nF) hN hi (.inl hl) rfl (fun s5 S5 => ?_) (.inr hl)
          refine wpAny_mono ((hsu a o4 cls d (X.pn ++ pins) hz4.zc ⟨_, hd4⟩).run [] s5 _ H' _ S5 (hyes rfl a na)) (fun f s6 q => ?_) fun _ _ z => z.elim
          have fin : ∀ {σ6 : L2.St} {H6 : Hp} {Q : Shared → Prop}, Inv (X.suite a ((a, o4) :: (X.pn ++ pins))) [] σ6 H6 s6 → (∀ s7, Inv X pins (σ6.set i none) H6 s7 → Q s7) → wpAny (model X.prog X.w) X.A (do bindName X.env n .none; unbindBehindTheSuite X.env n hp) (fun _ s7 => Q s7) X.xe s6 :=
            fun S6 hq => gone_ok (S6.unsuite ok) hN hi hl hq
          cases f with
          | next => obtain ⟨σ6, H6, S6, q6⟩ := q; exact fin S6 fun s7 J7 => ⟨_, _, J7, q6⟩
          | brk => obtain ⟨σ6, H6, S6, q6⟩ := q; exact fin S6 fun s7 J7 => ⟨_, _, J7, q6⟩
          | cont => obtain ⟨σ6, H6, S6, q6⟩ := q; exact fin S6 fun s7 J7 => ⟨_, _, J7, q6⟩
          | ret u => obtain ⟨v6, σ6, H6, S6, r6, q6⟩ := q; exact fin S6 fun s7 J7 => ⟨_, _, _, J7, r6, q6⟩
      | @bare x c ts b0 suite np hp hds2 l2 hc hsu r ih =>
        rintro ⟨b, hb1, hyes, hno⟩
        have LM := PySem.W.exm_one (M := model X.prog X.w) (J3.kIn) LT hb1
        have test : ∀ {Q : Value → Shared → Prop} {E : Value → Shared → Prop}, Q c { s' with heap := h3 } → wpAny (model X.prog X.w) (X.A.mark (some (.ref a))) (eval (.Name x np) X.env) Q E { s' with heap := h3 } := fun {Q E} q => by
          obtain ⟨hg, hdbg, hm | ⟨hm, hv, hnn⟩⟩ := hc
          · exact ld_glob (X := X.suite a ((a, o3) :: (X.pn ++ pins))) S3 hg hm q hdbg
          · exact ld_blt (X := X.suite a ((a, o3) :: (X.pn ++ pins))) S3 hg hm hv q hnn hdbg
        refine wpAny_handleBy_cons (codeAny_handlers_test (test (LM.here ?_))) fun q => nomatch q
        cases b with
        | false => exact ih (hno rfl)
        | true =>
          refine codeAny_handlers_suite (HandSPX.lands_againZ fl3 fun h4 fl4 up4 => ?_)
          have J4 : Inv X pins σ' H' { s' with heap := h4 } := J.landed nb fl4.1 ((up.trans up3).trans up4) os ag
          obtain ⟨o4, vs4, he4, hz4, hd4⟩ := fl4.there
          refine wpAny_mono ((hsu a o4 cls d (X.pn ++ pins) hz4.zc ⟨_, hd4⟩).run [] _ _ H' _ (J4.suite he4 hd4 na nL nF) (hyes rfl a na)) (fun f s6 q => ?_) fun _ _ z => z.elim
          cases f with
          | next => obtain ⟨σ6, H6, S6, q6⟩ := q; exact ⟨_, _, S6.unsuite ok, q6⟩
          | brk => obtain ⟨σ6, H6, S6, q6⟩ := q; exact ⟨_, _, S6.unsuite ok, q6⟩
          | cont => obtain ⟨σ6, H6, S6, q6⟩ := q; exact ⟨_, _, S6.unsuite ok, q6⟩
          | ret u => obtain ⟨v6, σ6, H6, S6, r6, q6⟩ := q; exact ⟨_, _, _, S6.unsuite ok, r6, q6⟩
    exact go hh w
  · cases fl with
    | next => obtain ⟨σ', H', J', q⟩ := q; exact wpAny_execs_nil ⟨σ', H', J'.ofTry ok, q⟩
    | brk => obtain ⟨σ', H', J', q⟩ := q; exact ⟨σ', H', J'.ofTry ok, q⟩
    | cont => obtain ⟨σ', H', J', q⟩ := q; exact ⟨σ', H', J'.ofTry ok, q⟩
    | ret u => obtain ⟨v, σ', H', J', r, q⟩ := q; exact ⟨v, σ', H', J'.ofTry ok, r, q⟩⟩
end
structure SutM where
  cls : Str
  slot : Option Nat
  m : Str → Env → Out
def hndlM (tb : Tbl) : List SutM → Exn → Env → Out
  | [], x, _ => .err x
  | s :: r, x, ρ => match tb x.cls s.cls with
    | none => .stk
    | some true => (match s.slot with
      | some i => (match s.m x.cls (ρ.set i (some (xD x.fs))) with
        | .nx ρ' => .nx (ρ'.set i none)
        | .bk ρ' => .bk (ρ'.set i none)
        | .ct ρ' => .ct (ρ'.set i none)
        | .rt d => .rt d
        | _ => .stk)
      | none => (match s.m x.cls ρ with
        | .err _ => .stk
        | o => o))
    | some false => hndlM tb r x ρ
def mTryM (tb : Tbl) (m : Env → Res D) (fin : D → Env → Out) (hs : List SutM) : Env → Out := fun ρ => match m ρ with
  | .ok d => fin d ρ
  | .err x => hndlM tb hs x ρ
  | .stk => .stk
section
variable {X : Cx} {κ : Nat → Kd} {E : EX} {sts : List Stmt}
inductive HdsMD (X : Cx) (κ : Nat → Kd) (E : EX) : List ExceptHandler → List SutM → Prop
  | nil : HdsMD X κ E [] []
  | named {x n : Str} {i : Nat} {m : Str → Env → Out} {b0 : Stmt} {suite : List Stmt} {np hp : Pos} {hds : List ExceptHandler} {l : List SutM} (hk : κ i = .im) (hi : X.N[i]? = some n) (hl : X.env.kindOf n = some .local) (hg : Gl X x) (hdb : (x == ("__debug__" : Str)) = false)
      (hsu : ∀ (a : Addr) (oe : Obj) (C : Addr) (cn : Str) (d : Option Addr) (pn : List (Addr × Obj)), X.mg cn = some (.ref C) → Zc (.ref C) d oe → (∃ vs, oe.data = .fields vs) → DSs (X.suite a ((a, oe) :: pn)) (kdX κ i a d) ⟨EX0.err, E.ret⟩ (b0 :: suite) (m cn)) (r : HdsMD X κ E hds l) :
      HdsMD X κ E (.ExceptHandler (some (.Name x np)) (some n) (b0 :: suite) hp :: hds) (⟨x, some i, m⟩ :: l)
  | bare {x : Str} {m : Str → Env → Out} {b0 : Stmt} {suite : List Stmt} {np hp : Pos} {hds : List ExceptHandler} {l : List SutM} (hg : Gl X x) (hdb : (x == ("__debug__" : Str)) = false)
      (hsu : ∀ (a : Addr) (oe : Obj) (C : Addr) (cn : Str) (d : Option Addr) (pn : List (Addr × Obj)), X.mg cn = some (.ref C) → Zc (.ref C) d oe → (∃ vs, oe.data = .fields vs) → DSs (X.suite a ((a, oe) :: pn)) κ ⟨EX0.err, E.ret⟩ (b0 :: suite) (m cn)) (r : HdsMD X κ E hds l) :
      HdsMD X κ E (.ExceptHandler (some (.Name x np)) none (b0 :: suite) hp :: hds) (⟨x, none, m⟩ :: l)
/-- the suites, over plain data, keep what is asked of the exception -/
theorem hds_ofM {hds : List ExceptHandler} {l : List SutM} (h : HdsMD X κ E hds l) {tb : Tbl} (ht : TblOk X.K X.mg tb) :
    ∃ l' : List (Value × Option Nat × Sui), (l ≠ [] → ∀ n ∈ l, ∃ cv, X.mg n.cls = some cv) → HdsM X hds l' ∧
      ∀ (Dn : Ends) (F0 H0 F H : Hp) (σ : L2.St) (ρ : Env) (x : Exn) (cls : Value) (d : Option Addr), Stt X.K κ F0 H0 F H σ ρ → ExRep X.mg X.K F H x cls d → OutOk X.mg X.K κ E F0 H0 F H Dn (hndlM tb l x ρ) →
        wHm X.K (fun cls d σ H => E.err σ cls d H) Dn l' cls d σ H := by
  induction h with
  | nil => exact ⟨[], fun _ => ⟨.nil, fun Dn F0 H0 F H σ ρ x cls d S r k => (show ∀ σ, ErrOk X.mg X.K (E.err σ) F0 H0 x from k) σ F H cls d S.ext r⟩⟩
  | @named x n i m b0 suite np hp hds l hk hi hl hg hdb hsu r ih =>
    obtain ⟨l', ih⟩ := ih
    cases hcv : X.mg x with
    | none => exact ⟨[], fun z => by obtain ⟨cv, e⟩ := z (by simp) ⟨x, some i, m⟩ (by simp); rw [hcv] at e; cases e⟩
    | some cv =>
      refine ⟨(cv, some i, fun a cls d => fun D σ H => ∃ C cn, cls = .ref C ∧ X.mg cn = some (.ref C) ∧ rdS X.mg X.K (kdX κ i a d) ⟨EX0.err, E.ret⟩ (m cn) D σ H) :: l', fun z => ?_⟩
      obtain ⟨h1, h2⟩ := ih fun _ n hn => z (by simp) n (by simp [hn])
      refine ⟨.named hi hl ⟨hg, hdb, .inl hcv⟩ (fun a oe cls d pn hz hf => ⟨fun pins s σ H D I ⟨C, cn, e1, e2, k⟩ => by subst e1; exact (hsu a oe C cn d pn e2 hz hf).run pins s σ H D I k⟩) h1, fun Dn F0 H0 F H σ ρ y cls d S rep k => ?_⟩
      have hx := rep.xn
      obtain ⟨C, e1, e2, _⟩ := id rep
      unfold hndlM at k
      cases htb : tb y.cls x with
      | none => simp only [htb] at k; exact k.elim
      | some b =>
        obtain ⟨cv', e3, e4⟩ := ht _ _ _ htb C e1
        rw [hcv] at e3
        cases e3
        refine ⟨b, by rw [e2]; exact e4, fun hb a na => ?_, fun hb => ?_⟩
        · subst hb
          simp only [htb] at k
          refine ⟨C, y.cls, e2, e1, F0, H0, F, _, S.enter hk hx, ?_⟩
          generalize m y.cls (ρ.set i (some (xD y.fs))) = o at k ⊢
          cases o with
          | nx ρ' => exact fun σ' F' H' x' S' => k _ F' H' x' S'.leave
          | bk ρ' => exact fun σ' F' H' x' S' => k _ F' H' x' S'.leave
          | ct ρ' => exact fun σ' F' H' x' S' => k _ F' H' x' S'.leave
          | rt d => exact k
          | err x => exact k.elim
          | stk => exact k.elim
        · subst hb
          simp only [htb] at k
          exact h2 Dn F0 H0 F H σ ρ y cls d S rep k
  | @bare x m b0 suite np hp hds l hg hdb hsu r ih =>
    obtain ⟨l', ih⟩ := ih
    cases hcv : X.mg x with
    | none => exact ⟨[], fun z => by obtain ⟨cv, e⟩ := z (by simp) ⟨x, none, m⟩ (by simp); rw [hcv] at e; cases e⟩
    | some cv =>
      refine ⟨(cv, none, fun a cls d => fun D σ H => ∃ C cn, cls = .ref C ∧ X.mg cn = some (.ref C) ∧ rdS X.mg X.K κ ⟨EX0.err, E.ret⟩ (m cn) D σ H) :: l', fun z => ?_⟩
      obtain ⟨h1, h2⟩ := ih fun _ n hn => z (by simp) n (by simp [hn])
      refine ⟨.bare ⟨hg, hdb, .inl hcv⟩ (fun a oe cls d pn hz hf => ⟨fun pins s σ H D I ⟨C, cn, e1, e2, k⟩ => by subst e1; exact (hsu a oe C cn d pn e2 hz hf).run pins s σ H D I k⟩) h1, fun Dn F0 H0 F H σ ρ y cls d S rep k => ?_⟩
      have hx := rep.xn
      obtain ⟨C, e1, e2, _⟩ := id rep
      unfold hndlM at k
      cases htb : tb y.cls x with
      | none => simp only [htb] at k; exact k.elim
      | some b =>
        obtain ⟨cv', e3, e4⟩ := ht _ _ _ htb C e1
        rw [hcv] at e3
        cases e3
        refine ⟨b, by rw [e2]; exact e4, fun hb a na => ?_, fun hb => ?_⟩
        · subst hb
          simp only [htb] at k
          refine ⟨C, y.cls, e2, e1, F0, H0, F, _, S, ?_⟩
          generalize m y.cls ρ = o at k ⊢
          cases o with
          | nx ρ' => exact k
          | bk ρ' => exact k
          | ct ρ' => exact k
          | rt d => exact k
          | err x => exact k.elim
          | stk => exact k.elim
        · subst hb
          simp only [htb] at k
          exact h2 Dn F0 H0 F H σ ρ y cls d S rep k

theorem ds_tryGM {h0 : ExceptHandler} {hds : List ExceptHandler} {l : List SutM} {pos : Pos} {tb : Tbl} {me : Env → Res D} {mfin : D → Env → Out} {fin : Ends → V → L2.St → Hp → Prop}
    (hb : ∀ (W : WX) (pn : List (Addr × Obj)) (xe : Value → Shared → Prop), L2N.Takes (X.tr pn xe) W → PSs (X.tr pn xe) sts (fun D σ H => rdE X.mg X.K κ ⟨WE W, E.ret⟩ me σ H fun v H' => fin D v σ H'))
    (hfin : ∀ (Dn : Ends) (F0 H0 F H : Hp) (σ : L2.St) (ρ : Env) (v : V) (d : D), Stt X.K κ F0 H0 F H σ ρ → Rp X.K F v d → OutOk X.mg X.K κ E F0 H0 F H Dn (mfin d ρ) → fin Dn v σ H)
    (hd : HdsMD X κ E (h0 :: hds) l) (ht : TblOk X.K X.mg tb) (hcl : ∀ n ∈ l, ∃ cv, X.mg n.cls = some cv) (hN : X.N.Nodup) (tk : L2N.Takes X (fun cls d σ H => E.err σ cls d H)) (hs : X.stack = X.env :: X.outer := by rfl) (hf : X.env.frame = some X.env.locals := by rfl) :
    DS X κ E (.Try sts (h0 :: hds) [] [] pos) (mTryM tb me mfin l) := by
  obtain ⟨l', h⟩ := hds_ofM hd ht
  obtain ⟨h1, h2⟩ := h fun _ => hcl
  refine (try_walkM hs hf hN tk hb h1).imp fun Dn σ H ⟨F0, H0, F, ρ, S, k⟩ => ⟨F0, H0, F, ρ, S, ?_⟩
  unfold mTryM at k
  cases q : me ρ with
  | ok d =>
    simp only [q] at k
    exact fun v F' H' x r => hfin Dn F0 H0 F' H' σ ρ v d (S.mono x) r (OutOk.mono (H := H) x.f k)
  | err y =>
    simp only [q] at k
    exact fun F' H' c dd x rep => h2 Dn F0 H0 F' H' σ ρ y c dd (S.mono x) rep (OutOk.mono (H := H) x.f k)
  | stk => simp only [q] at k; exact k.elim
/-- try: x = e -/
theorem ds_tryAM {e : Expr} {x : Str} {i : Nat} {px ps : Pos} {h0 : ExceptHandler} {hds : List ExceptHandler} {l : List SutM} {pos : Pos} {tb : Tbl} {me : Env → Res D} (hk : κ i = .im) (hi : X.N[i]? = some x) (hx : Loc X.env.scope x) (he : ∀ (W : WX) (pn : List (Addr × Obj)) (xe : Value → Shared → Prop), L2N.Takes (X.tr pn xe) W → DE (X.tr pn xe) κ ⟨WE W, E.ret⟩ e me)
    (hd : HdsMD X κ E (h0 :: hds) l) (ht : TblOk X.K X.mg tb) (hcl : ∀ n ∈ l, ∃ cv, X.mg n.cls = some cv) (hN : X.N.Nodup) (tk : L2N.Takes X (fun cls d σ H => E.err σ cls d H)) (hs : swapsWith e (some (.Name x px)) ps.line X.env = pure false := by rfl)
    (hf : X.fn x = true ∨ X.env.scope.names.lookup x = some .local := by first | exact .inl rfl | exact .inr rfl | assumption) (hst : X.stack = X.env :: X.outer := by rfl) (hfr : X.env.frame = some X.env.locals := by rfl) :
    DS X κ E (.Try [.Assign [.Name x px] e ps] (h0 :: hds) [] [] pos) (mTryM tb me (fun d ρ => .nx (ρ.set i (some d))) l) :=
  ds_tryGM (fin := fun D v σ H => D.nx (σ.set i (some v)) H) (fun W pn xe tk => pss_one (ps_set (i := i) (X := X.tr pn xe) hN hi hx (he W pn xe tk) hs hf)) (fun Dn F0 H0 F H σ ρ v d S r k => k _ F H (Ex.refl F) (S.set hk r)) hd ht hcl hN tk hst hfr
/-- try: what returns -/
theorem ds_trySM {h0 : ExceptHandler} {hds : List ExceptHandler} {l : List SutM} {pos : Pos} {tb : Tbl} {me : Env → Res D} (he : ∀ (W : WX) (pn : List (Addr × Obj)) (xe : Value → Shared → Prop), L2N.Takes (X.tr pn xe) W → DR (X.tr pn xe) κ ⟨WE W, E.ret⟩ sts me)
    (hd : HdsMD X κ E (h0 :: hds) l) (ht : TblOk X.K X.mg tb) (hcl : ∀ n ∈ l, ∃ cv, X.mg n.cls = some cv) (hN : X.N.Nodup) (tk : L2N.Takes X (fun cls d σ H => E.err σ cls d H)) (hR : ∀ H0 d v F H, Rp X.K F v d → E.ret H0 d v F H := by exact fun _ _ _ _ _ h => h) (hst : X.stack = X.env :: X.outer := by rfl) (hfr : X.env.frame = some X.env.locals := by rfl) :
    DS X κ E (.Try sts (h0 :: hds) [] [] pos) (mTryM tb me (fun d _ => .rt d) l) :=
  ds_tryGM (fin := fun D v _ H => D.rt v H) (fun W pn xe tk => he W pn xe tk) (fun Dn F0 H0 F H σ ρ v d S r k => k v F H S.ext (hR _ _ _ _ _ r)) hd ht hcl hN tk hst hfr
/-- try: e -/
theorem ds_tryEM {e : Expr} {ps : Pos} {h0 : ExceptHandler} {hds : List ExceptHandler} {l : List SutM} {pos : Pos} {tb : Tbl} {me : Env → Res D} (he : ∀ (W : WX) (pn : List (Addr × Obj)) (xe : Value → Shared → Prop), L2N.Takes (X.tr pn xe) W → DE (X.tr pn xe) κ ⟨WE W, E.ret⟩ e me)
    (hd : HdsMD X κ E (h0 :: hds) l) (ht : TblOk X.K X.mg tb) (hcl : ∀ n ∈ l, ∃ cv, X.mg n.cls = some cv) (hN : X.N.Nodup) (tk : L2N.Takes X (fun cls d σ H => E.err σ cls d H)) (hs : swapsWith e none ps.line X.env = pure false := by rfl) (hst : X.stack = X.env :: X.outer := by rfl) (hfr : X.env.frame = some X.env.locals := by rfl) :
    DS X κ E (.Try [.Expr e ps] (h0 :: hds) [] [] pos) (mTryM tb me (fun _ ρ => .nx ρ) l) :=
  ds_tryGM (fin := fun D _ σ H => D.nx σ H) (fun W pn xe tk => pss_one (ps_expr (he W pn xe tk) hs)) (fun Dn F0 H0 F H σ ρ v d S r k => k _ F H (Ex.refl F) S) hd ht hcl hN tk hst hfr
theorem hclM_nil {mg : Mg} : ∀ n ∈ ([] : List SutM), ∃ cv, mg n.cls = some cv := fun n h => by simp at h
theorem hclM_cons {mg : Mg} {x : Str} {i : Option Nat} {m : Str → Env → Out} {l : List SutM} (h : ∃ cv, mg x = some cv) (r : ∀ n ∈ l, ∃ cv, mg n.cls = some cv) : ∀ n ∈ (⟨x, i, m⟩ :: l : List SutM), ∃ cv, mg n.cls = some cv := fun n hn => by
  rcases List.mem_cons.mp hn with rfl | hn
  · exact h
  · exact r n hn
/-! straight on -/
abbrev StrM (l : List SutM) : Prop := ∀ q ∈ l, ∀ cn, Straight (q.m cn)
theorem sgm_nil : StrM [] := fun q h => by simp at h
theorem sgm_cons {x : Str} {i : Option Nat} {m : Str → Env → Out} {l : List SutM} (h : ∀ cn, Straight (m cn)) (r : StrM l) : StrM (⟨x, i, m⟩ :: l) := fun q hq => by
  rcases List.mem_cons.mp hq with rfl | hq
  · exact h
  · exact r q hq
theorem sg_hndlM {tb : Tbl} {x : Exn} : ∀ {l : List SutM}, StrM l → ∀ ρ, (∀ ρ', hndlM tb l x ρ ≠ .bk ρ') ∧ ∀ ρ', hndlM tb l x ρ ≠ .ct ρ'
  | [], _, ρ => sg_err
  | q :: l, h, ρ => by
    have ih := sg_hndlM (tb := tb) (x := x) (l := l) (fun z hz => h z (by simp [hz])) ρ
    have hq := h q (by simp) x.cls
    unfold hndlM
    cases tb x.cls q.cls with
    | none => exact sg_stk
    | some b =>
      cases b with
      | false => exact ih
      | true =>
        cases q.slot with
        | some i =>
          have := hq (ρ.set i (some (xD x.fs)))
          simp only
          generalize q.m x.cls (ρ.set i (some (xD x.fs))) = o at this ⊢
          cases o with
          | nx ρ' => exact sg_nx
          | bk ρ' => exact absurd rfl (this.1 ρ')
          | ct ρ' => exact absurd rfl (this.2 ρ')
          | rt d => exact sg_rt
          | err y => exact sg_stk
          | stk => exact sg_stk
        | none =>
          have := hq ρ
          simp only
          generalize q.m x.cls ρ = o at this ⊢
          cases o with
          | nx ρ' => exact sg_nx
          | bk ρ' => exact absurd rfl (this.1 ρ')
          | ct ρ' => exact absurd rfl (this.2 ρ')
          | rt d => exact sg_rt
          | err y => exact sg_stk
          | stk => exact sg_stk
theorem sg_tryM {tb : Tbl} {me : Env → Res D} {fin : D → Env → Out} {l : List SutM} (hf : ∀ d, Straight (fin d)) (hl : StrM l) : Straight (mTryM tb me fin l) := fun ρ => by
  unfold mTryM
  cases me ρ with
  | ok d => exact hf d ρ
  | err x => exact sg_hndlM hl ρ
  | stk => exact sg_stk
end
end WD

/-! == and != within an except clause -/
namespace WD
open PySem PySem.Spec PyProof.Rows L2
section
variable {X : Cx} {κ : Nat → Kd} {E : EX} {a b : Expr} {pos : Pos} {ma mb : Env → Res D}
theorem de_eqU (hu : X.A.units + 64 < cLine) (ha : DB X κ E a ma) (hb : DB X κ E b mb) : DE X κ E (.Compare a [.Eq] [b] pos) (mBin eqD ma mb) := de_cmp (op_eqD hu) op2_eq eqD_ne ha hb (nomark _)
theorem de_neU (hu : X.A.units + 64 < cLine) (ha : DB X κ E a ma) (hb : DB X κ E b mb) : DE X κ E (.Compare a [.NotEq] [b] pos) (mBin neD ma mb) := de_cmp (op_neD hu) op2_ne neD_ne ha hb (nomark _)
theorem dt_eqU (hu : X.A.units + 64 < cLine) (ha : DB X κ E a ma) (hb : DB X κ E b mb) : DT X κ E (.Compare a [.Eq] [b] pos) (mTru (mBin eqD ma mb)) := dt_cmp (op_eqD hu) op2_eq eqD_ne eqD_b ha hb (nomark _)
theorem dt_neU (hu : X.A.units + 64 < cLine) (ha : DB X κ E a ma) (hb : DB X κ E b mb) : DT X κ E (.Compare a [.NotEq] [b] pos) (mTru (mBin neD ma mb)) := dt_cmp (op_neD hu) op2_ne neD_ne neD_b ha hb (nomark _)
end
end WD

/-! zip of three, a list or a tuple each -/
namespace WD
open PySem PySem.Spec PyProof.Rows L2
open Evl (Ex Ex.refl Ex.trans Ex.new Ex.mut ex_l ex_t fresh_back)
def ItZ3 (n : Nat) (g1 g2 g3 : Nat → Option V) (G : Hp → Prop) : It :=
  ⟨fun i H => G H ∧ i < n, fun i H v H' => ∃ T x y u, v = .ref T ∧ H T = none ∧ H' = upd H T (.tup [x, y, u]) ∧ g1 i = some x ∧ g2 i = some y ∧ g3 i = some u, fun i H => G H ∧ i = n⟩
def YTri (xs ys us : Nat → Option V) : Nat → Hp → V → Hp → Prop := fun i H v H' => ∃ T x y u, v = .ref T ∧ H T = none ∧ H' = upd H T (.tup [x, y, u]) ∧ xs i = some x ∧ ys i = some y ∧ us i = some u
theorem sep_of3 {z TI TO i1 i2 i3 : Addr} {fp1 fp2 fp3 : List Addr} (N : [z, TI, TO, i1, i2, i3].Nodup) (m1 : i1 ∈ fp1) (m2 : i2 ∈ fp2) (m3 : i3 ∈ fp3) (a1 : ∀ b ∈ fp1, b = i1 ∨ b ∉ [z, TI, TO, i1, i2, i3]) (a2 : ∀ b ∈ fp2, b = i2 ∨ b ∉ [z, TI, TO, i1, i2, i3]) (a3 : ∀ b ∈ fp3, b = i3 ∨ b ∉ [z, TI, TO, i1, i2, i3]) : ZipSep3 z TI TO i1 i2 i3 fp1 fp2 fp3 := by
  simp only [List.nodup_cons, List.mem_cons, List.not_mem_nil, or_false, not_or] at N
  obtain ⟨⟨n1, n2, n3, n4, n5⟩, ⟨n6, n7, n8, n9⟩, ⟨n10, n11, n12⟩, ⟨n13, n14⟩, n15, -⟩ := N
  have o : ∀ {fp : List Addr} {i c : Addr}, (∀ b ∈ fp, b = i ∨ b ∉ [z, TI, TO, i1, i2, i3]) → c ∈ [z, TI, TO, i1, i2, i3] → c ≠ i → c ∉ fp := fun {fp i c} a hc hn h => by
    rcases a _ h with q | q
    · exact hn q
    · exact q hc
  exact ⟨Ne.symm n1, Ne.symm n2, n6, n7, m1, o a1 (by simp) n3, o a1 (by simp) n10, n8, m2, o a2 (by simp) n4, o a2 (by simp) n11, n9, m3, o a3 (by simp) n5, o a3 (by simp) n12,
    o a2 (by simp) n13, o a3 (by simp) n14, o a1 (by simp) (Ne.symm n13), o a3 (by simp) n15, o a1 (by simp) (Ne.symm n14), o a2 (by simp) (Ne.symm n15)⟩
theorem turn_zipG3 {P : Program} {w : World} {K : PySem.W.Frag} {elts : List Expr} {kk : Nat} {tpos : Pos} {z TI TO i1 i2 i3 : Addr} {n1 n2 n3 : Nat} {g1 g2 g3 : Nat → Option V} {G1 G2 G3 : Hp → Prop} {inn1 inn2 inn3 : Nat → Heap → Prop} (N : [z, TI, TO, i1, i2, i3].Nodup)
    (S1 : Src P w K [z, TI, TO, i1, i2, i3] i1 n1 g1 G1 inn1) (S2 : Src P w K [z, TI, TO, i1, i2, i3] i2 n2 g2 G2 inn2) (S3 : Src P w K [z, TI, TO, i1, i2, i3] i3 n3 g3 G3 inn3) :
    Turn P w K (.Tuple elts kk tpos) (ItZ3 (min n1 (min n2 n3)) g1 g2 g3 fun H => G1 H ∧ G2 H ∧ G3 H) [z, TI, TO, i1, i2, i3] z (fun i h => IsZip h z TI TO .none ∧ IsTupOf3 h TI (.ref i1) (.ref i2) (.ref i3) ∧ (∃ a b c, IsTupOf3 h TO a b c) ∧ inn1 i h ∧ inn2 i h ∧ inn3 i h) where
  mem := by simp
  obj := fun i h st c hc => by
    obtain ⟨st1, st2, ⟨a, b, c', st3⟩, st4, st5, st6⟩ := st
    have e : c = z ∨ c = TI ∨ c = TO ∨ c = i1 ∨ c = i2 ∨ c = i3 := by simpa using hc
    rcases e with q | q | q | q | q | q
    · rw [q]; exact ⟨_, st1, fun v y => nomatch y⟩
    · rw [q]; exact ⟨_, st2, fun v y => nomatch y⟩
    · rw [q]; exact ⟨_, st3, fun v y => nomatch y⟩
    · rw [q]; exact S1.obj i h st4
    · rw [q]; exact S2.obj i h st5
    · rw [q]; exact S3.obj i h st6
  keep := fun i h h' st k => by
    obtain ⟨st1, st2, ⟨a, b, c, st3⟩, st4, st5, st6⟩ := st
    exact ⟨k z (by simp) _ st1, k TI (by simp) _ st2, ⟨a, b, c, k TO (by simp) _ st3⟩, S1.keep i h h' st4 fun o q => k i1 (by simp) o q, S2.keep i h h' st5 fun o q => k i2 (by simp) o q, S3.keep i h h' st6 fun o q => k i3 (by simp) o q⟩
  item := by
    intro X hP hw hK hc i pins s σ H E I hf st hg
    obtain ⟨st1, st2, ⟨a0, b0, c0, st3⟩, st4, st5, st6⟩ := st
    obtain ⟨⟨gA, gB, gC⟩, hi⟩ := hg
    obtain ⟨fp1, Pv1, T1, D1, hT1, m1, av1, v1, in1⟩ := S1.draw X hP hw hK hc i pins s σ H I gA st4
    obtain ⟨fp2, Pv2, T2, D2, hT2, m2, av2, v2, in2⟩ := S2.draw X hP hw hK hc i pins s σ H I gB st5
    obtain ⟨fp3, Pv3, T3, D3, hT3, m3, av3, v3, in3⟩ := S3.draw X hP hw hK hc i pins s σ H I gC st6
    have sep := sep_of3 N m1 m2 m3 av1 av2 av3
    subst hP hw hK
    have zlt : z < s.heap.objs.size := Heap.lt_size st1
    refine wpAny_pyNext_zipD3_item sep D1 D2 D3 st1 st2 st3 hT1 hT2 hT3 (by omega) (by omega) (by omega) fun x1 x2 x3 h' tk p1 p2 p3 zz to1 t1 t2 t3 nt hsz hk => ?_
    obtain ⟨u1, e1, r1⟩ := v1 i x1 p1
    obtain ⟨u2, e2, r2⟩ := v2 i x2 p2
    obtain ⟨u3, e3, r3⟩ := v3 i x3 p3
    refine ⟨_, rfl, wpAny_letOwnedTupleGo_zip (s := { s with heap := h', toks := tk }) zz fun h2 zz2 sb => ?_⟩
    have own : h2.get? s.heap.objs.size = some { cls := .type "tuple", data := .seq #[x1, x2, x3] } := (sb.2 _ (Nat.ne_of_gt zlt)).trans nt
    have newO : ObjOk X.prog X.w (upd H s.heap.objs.size (.tup [u1, u2, u3])) h2 s.heap.objs.size (.tup [u1, u2, u3]) := ⟨by show 3 ≤ sizeLine; decide, [x1, x2, x3], .cons r1 (.cons r2 (.cons r3 .nil)), ⟨_, own, rfl, _, rfl⟩⟩
    have I1 : Inv X pins σ (upd H s.heap.objs.size (.tup [u1, u2, u3])) { s with heap := h2, toks := tk } := by
      refine I.turnedNew (ch := [z, TI, TO, i1, i2, i3]) (fun c o hb q => ?_) hf (Nat.le_refl _) newO
      have h1 : c ≠ z := fun y => hb (by simp [y])
      exact (sb.2 c h1).trans (hk c o h1 (fun y => hb (by simp [y])) (fun y => hb (by simp [y])) (fun y => hb (by simp [y])) (fun y => hb (by simp [y])) q)
    have lt : ∀ c ∈ [z, TI, TO, i1, i2, i3], c < s.heap.objs.size := fun c hc2 => by
      have e : c = z ∨ c = TI ∨ c = TO ∨ c = i1 ∨ c = i2 ∨ c = i3 := by simpa using hc2
      rcases e with q | q | q | q | q | q
      · rw [q]; exact zlt
      · rw [q]; exact Heap.lt_size st2
      · rw [q]; exact Heap.lt_size st3
      · rw [q]; obtain ⟨o, y, _⟩ := S1.obj i _ st4; exact Heap.lt_size y
      · rw [q]; obtain ⟨o, y, _⟩ := S2.obj i _ st5; exact Heap.lt_size y
      · rw [q]; obtain ⟨o, y, _⟩ := S3.obj i _ st6; exact Heap.lt_size y
    refine ⟨.ref s.heap.objs.size, _, I1, rfl, ⟨_, u1, u2, u3, rfl, I.hok.fresh (Nat.le_refl _), rfl, e1, e2, e3⟩, ⟨zz2, ?_, ⟨x1, x2, x3, ?_⟩, ?_, ?_, ?_⟩, fun c hcm => ?_⟩
    · exact (sb.2 _ sep.TIz).trans (hk _ _ sep.TIz sep.TITO sep.TIi1 sep.TIi2 sep.TIi3 st2)
    · exact (sb.2 _ sep.TOz).trans to1
    · exact S1.keep _ _ _ (in1 _ _ t1) fun o q => (sb.2 _ (Ne.symm sep.zi1)).trans q
    · exact S2.keep _ _ _ (in2 _ _ t2) fun o q => (sb.2 _ (Ne.symm sep.zi2)).trans q
    · exact S3.keep _ _ _ (in3 _ _ t3) fun o q => (sb.2 _ (Ne.symm sep.zi3)).trans q
    · rw [upd_ne (Nat.ne_of_lt (lt c hcm))]
      exact (hf c hcm).1
  done := by
    intro X hP hw hK hc i pins s σ H E I hf st hg
    obtain ⟨st1, st2, ⟨a0, b0, c0, st3⟩, st4, st5, st6⟩ := st
    obtain ⟨⟨gA, gB, gC⟩, hi⟩ := hg
    obtain ⟨fp1, Pv1, T1, D1, hT1, m1, av1, v1, in1⟩ := S1.draw X hP hw hK hc i pins s σ H I gA st4
    obtain ⟨fp2, Pv2, T2, D2, hT2, m2, av2, v2, in2⟩ := S2.draw X hP hw hK hc i pins s σ H I gB st5
    obtain ⟨fp3, Pv3, T3, D3, hT3, m3, av3, v3, in3⟩ := S3.draw X hP hw hK hc i pins s σ H I gC st6
    have sep := sep_of3 N m1 m2 m3 av1 av2 av3
    subst hP hw hK
    refine wpAny_pyNext_zipD3_end sep D1 D2 D3 st1 st2 st3 hT1 hT2 hT3 (by omega) (by omega) (by omega) (by omega) fun h' tk hk => ⟨rfl, I.turnedL (t' := tk) (ch := [z, TI, TO, i1, i2, i3]) (fun c o hb q => ?_) hf⟩
    exact hk c o (fun y => hb (by simp [y])) (fun y => hb (by simp [y])) (fun y => hb (by simp [y])) (fun y => hb (by simp [y])) (fun y => hb (by simp [y])) q
  self := fun A i s Q E st h => wpAny_pyIter_zip st.1 h
theorem walk_zipG3 {n : Nat} {g1 g2 g3 : Nat → Option V} {G : Hp → Prop} : Walk (ItZ3 n g1 g2 g3 G) n G (YTri g1 g2 g3) := by
  refine ⟨fun i _ hi q => ⟨q, hi⟩, fun _ q => ⟨q, rfl⟩, fun i H v H' _ q y => ?_⟩
  obtain ⟨T, x, y, u, h1, h2, h3, h4, h5, h6⟩ := y
  exact ⟨T, x, y, u, h1, h2, h3, h4, h5, h6⟩
def iZipG3 (K : PySem.W.Frag) (ta : TA) : TI := fun σ H R => ta σ H fun vs H1 => ∃ k1 k2 k3 a b c xs ys us, vs = [.ref a, .ref b, .ref c] ∧ SqA k1 K H1 a xs ∧ SqA k2 K H1 b ys ∧ SqA k3 K H1 c us ∧ R (ItZ3 (min xs.length (min ys.length us.length)) (fun i => xs[i]?) (fun i => ys[i]?) (fun i => us[i]?) fun H => SqA k1 K H a xs ∧ SqA k2 K H b ys ∧ SqA k3 K H c us) H1
theorem pi_zipG3 {X : Cx} {e e2 e3 : Expr} {ta : TA} {p pos tpos : Pos} {elts : List Expr} {kk : Nat} (hg : Gl X "zip") (hm : X.mg "zip" = none) (ha : PA X [e, e2, e3] ta)
    (hs : starEach [e, e2, e3] X.env = (false, eval e X.env) :: starEach [e2, e3] X.env := by rfl) (hpl : (backTo pos (starEach [e2, e3] X.env)).any (·.1) = false := by rfl) :
    PI X (.Tuple elts kk tpos) (.Call (.Name "zip" p) [e, e2, e3] [] pos) (iZipG3 X.K ta) := by
  refine ⟨fun pins s σ H R I h => Call_ (ld_blt I hg hm boot_zip (PyProof.Rows.callWith_type1 (thn (ha.run pos pins s σ H _ I h) fun us s1 ⟨vs, H1, I1, rel, q1⟩ => ?_) hs hpl))⟩
  obtain ⟨k1, k2, k3, a, b, c, xs, ys, us, rfl, hx, hy, hu, q⟩ := q1
  cases rel with
  | cons ra rest =>
    cases rest with
    | cons rb rest =>
      cases rest with
      | cons rc rest =>
        cases rest
        cases ra
        cases rb
        cases rc
        obtain ⟨o1, P1, B1, b1, lt1, inn1, st1, src1⟩ := begins_of I1 hx
        obtain ⟨o2, P2, B2, b2, lt2, inn2, st2, src2⟩ := begins_of I1 hy
        obtain ⟨o3, P3, B3, b3, lt3, inn3, st3, src3⟩ := begins_of I1 hu
        refine zip_begins3 B1 B2 B3 b1 b2 b3 fun h' zz zTI zTO g1 g2 g3 hsz hk => wpAny_pyIter_zip zz ?_
        have I2 : Inv X pins σ H1 { s1 with heap := h' } := I1.kept (t' := s1.toks) hk
        have fresh : ∀ c, s1.heap.objs.size ≤ c → FpOk X pins H1 c := fun c hle => I1.fpOk hle (I1.hok.fresh hle)
        generalize s1.heap.objs.size = n at *
        have N : [n + 5, n + 3, n + 4, n, n + 1, n + 2].Nodup := by simp
        have av : ∀ c, c < n → c ∉ [n + 5, n + 3, n + 4, n, n + 1, n + 2] := fun c hc y => by
          simp only [List.mem_cons, List.not_mem_nil, or_false] at y
          omega
        refine ⟨n + 5, [n + 5, n + 3, n + 4, n, n + 1, n + 2], _, _, H1, rfl, I2, turn_zipG3 N (src1 n _ (av a lt1)) (src2 (n + 1) _ (av b lt2)) (src3 (n + 2) _ (av c lt3)), ⟨zz, zTI, ⟨_, _, _, zTO⟩, st1 _ _ g1, st2 _ _ g2, st3 _ _ g3⟩, fun c hc => ?_, q⟩
        have hc' : c = n + 5 ∨ c = n + 3 ∨ c = n + 4 ∨ c = n ∨ c = n + 1 ∨ c = n + 2 := by simpa using hc
        have low : n ≤ c := by rcases hc' with y | y | y | y | y | y <;> rw [y] <;> first | exact Nat.le_refl _ | exact Nat.le_add_right _ _
        exact fresh c low
section
variable {X : Cx} {κ : Nat → Kd} {E : EX} {a b c : Expr} {pos : Pos} {ms : Env → Res (List D)}
def zipD3 : List D → List D → List D → List D
  | x :: xs, y :: ys, u :: us => .tuple [x, y, u] :: zipD3 xs ys us
  | _, _, _ => []
theorem zipD3_get : ∀ (xs ys us : List D) (i : Nat) (x y u : D), xs[i]? = some x → ys[i]? = some y → us[i]? = some u → (zipD3 xs ys us)[i]? = some (.tuple [x, y, u])
  | [], _, _, _, _, _, _, h, _, _ => by simp at h
  | _ :: _, [], _, _, _, _, _, _, h, _ => by simp at h
  | _ :: _, _ :: _, [], _, _, _, _, _, _, h => by simp at h
  | a :: xs, b :: ys, c :: us, 0, x, y, u, h1, h2, h3 => by
    simp at h1 h2 h3
    subst h1 h2 h3
    rfl
  | a :: xs, b :: ys, c :: us, i + 1, x, y, u, h1, h2, h3 => by
    simp at h1 h2 h3
    simpa [zipD3] using zipD3_get xs ys us i x y u h1 h2 h3
theorem zipD3_len : ∀ (xs ys us : List D), (zipD3 xs ys us).length = min xs.length (min ys.length us.length)
  | [], _, _ => by simp [zipD3]
  | _ :: _, [], _ => by simp [zipD3]
  | _ :: _, _ :: _, [] => by simp [zipD3]
  | a :: xs, b :: ys, c :: us => by
    rw [zipD3, List.length_cons, zipD3_len xs ys us, List.length_cons, List.length_cons, List.length_cons]
    omega
theorem walkd_tri {K : PySem.W.Frag} {J : It} {n : Nat} {G : Hp → Prop} {P : Hp → Hp → Prop} {fx fy fu : Nat → Option V} {ds : List D} (w : Walk J n G (YTri fx fy fu)) (hn : n = ds.length) (hG : ∀ F2 H2, P F2 H2 → Ex F2 H2 → G H2)
    (hv : ∀ i F2 H2 x y u, P F2 H2 → i < ds.length → fx i = some x → fy i = some y → fu i = some u → ∃ dx dy du, ds[i]? = some (.tuple [dx, dy, du]) ∧ Rp K F2 x dx ∧ Rp K F2 y dy ∧ Rp K F2 u du) : WalkD K P J ds :=
  walkd_of w hn hG fun i F2 H2 v H3 p s hi yy => by
    obtain ⟨T, x, y, u, rfl, hT, rfl, h1, h2, h3⟩ := yy
    obtain ⟨dx, dy, du, hd, r1, r2, r3⟩ := hv i F2 H2 x y u p hi h1 h2 h3
    have e := Ex.new (o := .tup [x, y, u]) (none_of_ex s hT)
    exact ⟨_, upd F2 T (.tup [x, y, u]), hd, .new s hT, .tup (Evl.st_of upd_same) (.cons (r1.mono e) (.cons (r2.mono e) (.cons (r3.mono e) .nil)))⟩
def zip3XD : List D → Res (List D)
  | [x, y, u] => (ofO (sqX x)).bind fun p => (ofO (sqX y)).bind fun q => (ofO (sqX u)).bind fun r => .ok (zipD3 p.2 q.2 r.2)
  | _ => .stk
theorem di_zip3X {p tpos : Pos} {elts : List Expr} {kk : Nat}
    (h : PI X (.Tuple elts kk tpos) (.Call (.Name "zip" p) [a, b, c] [] pos) (iZipG3 X.K (rdA X.mg X.K κ E ms))) : DI X κ E (.Tuple elts kk tpos) (.Call (.Name "zip" p) [a, b, c] [] pos) (mBindA zip3XD ms) :=
  h.imp fun σ H R ⟨F0, H0, F, ρ, S, c⟩ => ⟨F0, H0, F, ρ, S, Res.sat_imp (Res.sat_bind c) (fun ds _ k vs F' H' x r => by
    unfold zip3XD at k
    split at k
    · rename_i dx dy du
      obtain ⟨⟨kx, xs⟩, hx, k⟩ := ofO_sat (Res.sat_bind k)
      obtain ⟨⟨ky, ys⟩, hy, k⟩ := ofO_sat (Res.sat_bind k)
      obtain ⟨⟨ku, us⟩, hu, k⟩ := ofO_sat (Res.sat_bind k)
      cases r with
      | cons r1 r2 =>
        cases r2 with
        | cons r2 r3 =>
          cases r3 with
          | cons r3 r4 =>
            cases r4
            obtain ⟨a, vs, rfl, h1, h2⟩ := r1.sqA hx
            obtain ⟨b, ws, rfl, h3, h4⟩ := r2.sqA hy
            obtain ⟨c, zs, rfl, h5, h6⟩ := r3.sqA hu
            refine ⟨kx, ky, ku, a, b, c, vs, ws, zs, rfl, h1.ex x.s, h3.ex x.s, h5.ex x.s, k _ F' H' x (walkd_tri walk_zipG3 (by rw [zipD3_len, h2.length, h4.length, h6.length]) (fun F2 H2 p s => ⟨h1.ex (p.trans s), h3.ex (p.trans s), h5.ex (p.trans s)⟩) fun i F2 H2 x y u p hi e1 e2 e3 => ?_)⟩
            obtain ⟨d, hd, rd⟩ := h2.getV e1
            obtain ⟨d', hd', rd'⟩ := h4.getV e2
            obtain ⟨d2, hd2, rd2⟩ := h6.getV e3
            exact ⟨d, d', d2, zipD3_get _ _ _ _ _ _ _ hd hd' hd2, rd.mono p, rd'.mono p, rd2.mono p⟩
    · exact k.elim) fun _ z => z⟩
end
end WD

/-! x.partition(y) -/
namespace WD
open PySem PySem.Spec PyProof.Rows L2
open Evl (Ex Ex.refl Ex.trans Ex.new Ex.mut ex_l ex_t fresh_back)
theorem oks_ext {x : Str} (hx : OkS x) (i j : Nat) : OkS (Builtin.Str.strSub x i j) := by
  have hx' : ∀ c ∈ x.cps.toList, c < 0x110000 := fun c hc => by
    have hx : (x.cps.all fun c => decide (c < 0x110000)) = true := hx
    rw [← Array.all_toList, List.all_eq_true] at hx
    simpa using hx c hc
  have e : (Builtin.Str.strSub x i j).cps.toList = (x.cps.toList.drop i).take (j - i) := TL.tl_strSub x i j
  show ((Builtin.Str.strSub x i j).cps.all fun c => decide (c < 0x110000)) = true
  rw [← Array.all_toList, List.all_eq_true, e]
  intro c hc
  have := hx' c (List.mem_of_mem_drop (List.mem_of_mem_take hc))
  simpa using this
theorem oks_part {x y : Str} (hx : OkS x) (hy : OkS y) : OkS (Txt.partition x y).1 ∧ OkS (Txt.partition x y).2.1 ∧ OkS (Txt.partition x y).2.2 := by
  have h0 : OkS Str.empty := by show PyData.strOk Str.empty = true; decide +kernel
  rcases PyProof.Rows.partition_whole x y with ⟨e, -⟩ | ⟨i, e, -, -⟩
  · rw [e]; exact ⟨hx, h0, h0⟩
  · rw [e]; exact ⟨oks_ext hx _ _, hy, oks_ext hx _ _⟩
def partitionD (x y : Str) : Res D := if (y.length == 0) = false ∧ x.length ≤ sizeLine then .ok (.tuple [.str (Txt.partition x y).1, .str (Txt.partition x y).2.1, .str (Txt.partition x y).2.2]) else .stk
theorem ops_partition {K : Frag} : OpS K (fun x xs H Q => ∃ a b, x = .str a ∧ xs = [.str b] ∧ (b.length == 0) = false ∧ a.length ≤ sizeLine ∧
    ∀ p, H p = none → Q (.ref p) (upd H p (.tup [.str (Txt.partition a b).1, .str (Txt.partition a b).2.1, .str (Txt.partition a b).2.2]))) (s1D partitionD) := ops_1 fun F H x y s hx hy Q k => by
  unfold partitionD at k
  split at k
  · rename_i h
    obtain ⟨o1, o2, o3⟩ := oks_part hx hy
    exact ⟨x, y, rfl, rfl, h.1, h.2, post_newT s (.cons (.str _ o1) (.cons (.str _ o2) (.cons (.str _ o3) .nil))) k⟩
  · exact k.elim
theorem partition_ne : ∀ x y z, s1D partitionD x y ≠ .err z := s1_ne fun _ _ _ h => by unfold partitionD at h; split at h <;> cases h
end WD

/-! min and max of a list of data that are alike; min(list, default=e) -/
namespace WD
open PySem PySem.Spec PyProof.Rows L2
open Evl (Ex Ex.refl Ex.trans Ex.new Ex.mut ex_l ex_t fresh_back)
abbrev leastD (x : D) (xs : List D) : D := PySem.W.minD x xs
abbrev mostD (x : D) (xs : List D) : D := PySem.W.maxD x xs
def alikeB (xs : List D) : Bool := xs.all (fun x => xs.all fun y => PySem.W.alike x y) && xs.all (fun x => !isNoneD x)
theorem alikeB_of {xs : List D} (h : alikeB xs = true) : PySem.W.AlikeAll xs := by
  unfold alikeB at h
  rw [Bool.and_eq_true, List.all_eq_true, List.all_eq_true] at h
  refine ⟨fun x hx y hy => ?_, fun x hx e => ?_⟩
  · have := h.1 x hx
    rw [List.all_eq_true] at this
    exact this y hy
  · have := h.2 x hx
    rw [e] at this
    cases this
def rBest (K : Frag) (best : D → List D → D) : List V → Hp → VK → Prop := fun vs H Q => ∃ (a : Addr) (xs : List V) (x : D) (ds : List D), vs = [V.ref a] ∧ SqL K H a xs ∧ DpAll K H xs (x :: ds) ∧ PyData.canLayAll0 (x :: ds) = true ∧ PySem.W.AlikeAll (x :: ds) ∧ PyData.depthAll (x :: ds) ≤ 60 ∧
  ∀ (i : Nat) (v : V), xs[i]? = some v → (x :: ds)[i]? = some (best x ds) → Q v H
theorem getD_at {xs : List D} {i : Nat} {d : D} (h : i < xs.length) (e : xs.getD i .none = d) : xs[i]? = some d := by
  rw [List.getD_eq_getElem?_getD, List.getElem?_eq_getElem h] at e
  rw [List.getElem?_eq_getElem h, ← e]; rfl
theorem canLay_mem {xs : List D} : PyData.canLayAll0 xs = true → ∀ x ∈ xs, x.canLay0 = true := by
  induction xs with
  | nil => intro _ x h; cases h
  | cons y ys ih =>
    intro h x hx
    have h' : y.canLay0 = true ∧ PyData.canLayAll0 ys = true := by simpa [PyData.canLayAll0] using h
    rcases List.mem_cons.mp hx with rfl | hx
    · exact h'.1
    · exact ih h'.2 x hx
section
variable {X : Cx}
theorem cr_least (hc : X.calm = true) (hu : X.A.units + 64 < cLine) : CallR X (.builtin "min") (rBest X.K leastD) := fun pins s σ H vs us Q I r ⟨a, xs, x, ds, e, hs, hd, hl, ha, hdep, q⟩ => by
  subst e
  obtain ⟨its, rv, pl, hz⟩ := I.list hs
  rw [Vals.ref1 r]
  obtain ⟨as, ra⟩ := Dp.readsAll I _ _ _ hd rv
  have ra' : ReadsAll s.heap its.toArray.toList (x :: ds) as := by rw [List.toList_toArray]; exact ra
  refine PySem.W.min_list_data (I.ok.hd hc) pl.isList ra' ha (by omega) fun i v h' tk bs hv rd hk => ?_
  have hv' : its[i]? = some v := by simpa using hv
  have hi : i < its.length := (List.getElem?_eq_some_iff.mp hv').1
  have hx : i < xs.length := by rw [rv.length]; exact hi
  obtain ⟨u, hu2, ru⟩ := rv.get (List.getElem?_eq_getElem hx)
  rw [hv'] at hu2
  cases hu2
  obtain ⟨bs2, r2, h2, m2, _⟩ := PySem.W.readsAll_at ra i v hv'
  have e2 := ((PySem.W.reads_keeps hk r2).unique _ _ rd).1
  exact ⟨_, H, I.kept hk, ru, q i _ (List.getElem?_eq_getElem hx) (getD_at h2 e2)⟩
theorem cr_most (hc : X.calm = true) (hu : X.A.units + 64 < cLine) : CallR X (.builtin "max") (rBest X.K mostD) := fun pins s σ H vs us Q I r ⟨a, xs, x, ds, e, hs, hd, hl, ha, hdep, q⟩ => by
  subst e
  obtain ⟨its, rv, pl, hz⟩ := I.list hs
  rw [Vals.ref1 r]
  obtain ⟨as, ra⟩ := Dp.readsAll I _ _ _ hd rv
  have ra' : ReadsAll s.heap its.toArray.toList (x :: ds) as := by rw [List.toList_toArray]; exact ra
  refine PySem.W.max_list_data (I.ok.hd hc) pl.isList ra' ha (by omega) fun i v h' tk bs hv rd hk => ?_
  have hv' : its[i]? = some v := by simpa using hv
  have hi : i < its.length := (List.getElem?_eq_some_iff.mp hv').1
  have hx : i < xs.length := by rw [rv.length]; exact hi
  obtain ⟨u, hu2, ru⟩ := rv.get (List.getElem?_eq_getElem hx)
  rw [hv'] at hu2
  cases hu2
  obtain ⟨bs2, r2, h2, m2, _⟩ := PySem.W.readsAll_at ra i v hv'
  have e2 := ((PySem.W.reads_keeps hk r2).unique _ _ rd).1
  exact ⟨_, H, I.kept hk, ru, q i _ (List.getElem?_eq_getElem hx) (getD_at h2 e2)⟩
/-- min(list, default=d) -/
def rLeastOr (K : Frag) : List V → List V → Hp → VK → Prop := fun vs zs H Q => ∃ (a : Addr) (xs : List V) (ds : List D) (z : V), vs = [V.ref a] ∧ zs = [z] ∧ SqL K H a xs ∧ DpAll K H xs ds ∧ PyData.canLayAll0 ds = true ∧ PySem.W.AlikeAll ds ∧ PyData.depthAll ds ≤ 60 ∧
  (ds = [] → Q z H) ∧ ∀ (x : D) (r : List D) (i : Nat) (v : V), ds = x :: r → xs[i]? = some v → ds[i]? = some (leastD x r) → Q v H
theorem crk_least (hc : X.calm = true) (hu : X.A.units + 64 < cLine) : CallRK X (.builtin "min") [Str.ofString "default"] (rLeastOr X.K) := fun pins s σ H vs zs us ws Q I r rz ⟨a, xs, ds, z, e, ez, hs, hd, hl, ha, hdep, q0, q⟩ => by
  subst e ez
  obtain ⟨its, rv, pl, hz⟩ := I.list hs
  rw [Vals.ref1 r]
  obtain ⟨u, rfl, ru⟩ := vals1 rz
  obtain ⟨as, ra⟩ := Dp.readsAll I _ _ _ hd rv
  have ra' : ReadsAll s.heap its.toArray.toList ds as := by rw [List.toList_toArray]; exact ra
  refine PySem.W.min_list_default (I.ok.hd hc) pl.isList ra' ha (by omega) (fun e h' tk hk => ⟨_, H, I.kept hk, ru, q0 e⟩) fun y ys i v h' tk bs ey hv rd hk => ?_
  have hv' : its[i]? = some v := by simpa using hv
  have hi : i < its.length := (List.getElem?_eq_some_iff.mp hv').1
  have hx : i < xs.length := by rw [rv.length]; exact hi
  obtain ⟨u, hu2, ru⟩ := rv.get (List.getElem?_eq_getElem hx)
  rw [hv'] at hu2
  cases hu2
  obtain ⟨bs2, r2, h2, m2, _⟩ := PySem.W.readsAll_at ra i v hv'
  have e2 := ((PySem.W.reads_keeps hk r2).unique _ _ rd).1
  exact ⟨_, H, I.kept hk, ru, q y ys i _ ey (List.getElem?_eq_getElem hx) (getD_at h2 e2)⟩
end
def bestD (best : D → List D → D) : D → Res D
  | .list (x :: xs) => if plainL deep (x :: xs) = true ∧ alikeB (x :: xs) = true then .ok (best x xs) else .stk
  | _ => .stk
theorem bestD_ne {best : D → List D → D} : ∀ x z, bestD best x ≠ .err z := fun x z h => by
  unfold bestD at h
  split at h
  · split at h <;> cases h
  · cases h
theorem op1_best {K : Frag} {best : D → List D → D} : Op1 K (rBest K best) (bestD best) := fun F H v d s rv Q k => by
  unfold bestD at k
  split at k
  · rename_i x xs
    split at k
    · rename_i h
      obtain ⟨a, vs, rfl, h1, r1⟩ := rv.list s
      have w := Rp.dpA deep (x :: xs) vs (r1.mono s) h.1
      have dep := plain_depthL deep (x :: xs) h.1
      refine ⟨a, vs, x, xs, rfl, h1, w.1, w.2, alikeB_of h.2, Nat.le_trans dep (by decide), fun i v hv hd => ?_⟩
      obtain ⟨v2, hv2, rp⟩ := r1.get hd
      rw [hv] at hv2
      cases hv2
      exact k v F H (Ext.refl s) rp
    · exact k.elim
  · exact k.elim
section
variable {X : Cx} {κ : Nat → Kd} {E : EX} {e e2 : Expr} {pos : Pos} {ma mb : Env → Res D} {n : Nat}
theorem de_least {p : Pos} (hc : X.calm = true) (hr : Room n X.A) (hg : Gl X "min") (hm : X.mg "min" = none) (ha : DB X κ E e ma) (hv : bootBuiltins "min" = some (.builtin "min") := by decide +kernel) (he : starEach [e] X.env = (false, eval e X.env) :: starEach [] X.env := by rfl) (hpl : (backTo pos (starEach [] X.env)).any (·.1) = false := by rfl) : DE X κ E (.Call (.Name "min" p) [e] [] pos) (mUn (bestD leastD) ma) :=
  de_callB (cr_least hc hr.units) op1_best bestD_ne hv hg hm ha (by decide) (by decide) he hpl
theorem de_most {p : Pos} (hc : X.calm = true) (hr : Room n X.A) (hg : Gl X "max") (hm : X.mg "max" = none) (ha : DB X κ E e ma) (hv : bootBuiltins "max" = some (.builtin "max") := by decide +kernel) (he : starEach [e] X.env = (false, eval e X.env) :: starEach [] X.env := by rfl) (hpl : (backTo pos (starEach [] X.env)).any (·.1) = false := by rfl) : DE X κ E (.Call (.Name "max" p) [e] [] pos) (mUn (bestD mostD) ma) :=
  de_callB (cr_most hc hr.units) op1_best bestD_ne hv hg hm ha (by decide) (by decide) he hpl
def leastOrD (d z : D) : Res D := match d with
  | .list [] => (match z with | .int i => .ok (.int i) | _ => .stk)
  | .list (x :: xs) => if plainL deep (x :: xs) = true ∧ alikeB (x :: xs) = true then .ok (leastD x xs) else .stk
  | _ => .stk
theorem leastOrD_ne : ∀ x y z, leastOrD x y ≠ .err z := fun x y z h => by
  unfold leastOrD at h
  split at h
  · split at h <;> cases h
  · split at h <;> cases h
  · cases h
theorem op2_leastOr {K : Frag} : Op2 K (fun x y H Q => rLeastOr K [x] [y] H Q) leastOrD := fun F H v z dv dz s rv rz Q k => by
  unfold leastOrD at k
  split at k
  · split at k
    · rename_i i
      obtain ⟨a, vs, rfl, h1, r1⟩ := rv.list s
      cases r1
      have ez := rz.int
      subst ez
      refine ⟨a, [], [], _, rfl, rfl, h1, .nil, rfl, ⟨fun _ h => by simp at h, fun _ h => by simp at h⟩, by decide, fun _ => k _ F H (Ext.refl s) (.int _), fun x r i v e => by cases e⟩
    · exact k.elim
  · rename_i x xs
    split at k
    · rename_i h
      obtain ⟨a, vs, rfl, h1, r1⟩ := rv.list s
      have w := Rp.dpA deep (x :: xs) vs (r1.mono s) h.1
      have dep := plain_depthL deep (x :: xs) h.1
      refine ⟨a, vs, x :: xs, z, rfl, rfl, h1, w.1, w.2, alikeB_of h.2, Nat.le_trans dep (by decide), (fun e => by cases e), fun x' r i v e hv hd => ?_⟩
      cases e
      obtain ⟨v2, hv2, rp⟩ := r1.get hd
      rw [hv] at hv2
      cases hv2
      exact k v F H (Ext.refl s) rp
    · exact k.elim
  · exact k.elim
theorem de_leastOr {p kp : Pos} (hc : X.calm = true) (hr : Room n X.A) (hg : Gl X "min") (hm : X.mg "min" = none) (ha : DB X κ E e ma) (hb : DB X κ E e2 mb) (hv : bootBuiltins "min" = some (.builtin "min") := by decide +kernel)
    (he0 : starEach [e] X.env = (false, eval e X.env) :: starEach [] X.env := by rfl)
    (he : backTo pos (starEach [e] X.env) = (false, eval e X.env) :: backTo pos (starEach [] X.env) := by rfl) (hpl : (backTo pos (starEach [e] X.env)).any (·.1) = false := by rfl)
    (hall : (backToKw pos (keywordEach [⟨some "default", e2, kp⟩] X.env)).all (·.1.isSome) = true := by rfl) (hnone : (backToKw pos (keywordEach [⟨some "default", e2, kp⟩] X.env)).any (·.1.isNone) = false := by rfl) (hks : (backToKw pos (keywordEach [⟨some "default", e2, kp⟩] X.env)).filterMap (·.1) = [Str.ofString "default"] := by rfl) :
    DE X κ E (.Call (.Name "min" p) [e] [⟨some "default", e2, kp⟩] pos) (mBin leastOrD ma mb) :=
  (pe_callBK (crk_least hc hr.units) hg hm hv (pa_cons ha pa_nil he0) (pk_cons hb pk_nil) (by decide) (by decide) he hpl hall hnone hks).imp (op2_read op2_leastOr leastOrD_ne)
end
end WD

/-! raise within an except clause, and defs that do so -/
namespace WD
open PySem PySem.Spec PyProof.Rows L2
open Evl (Ex Ex.refl Ex.trans Ex.new Ex.mut ex_l ex_t fresh_back)
section
variable {X : Cx} {pins : List (Addr × Obj)} {σ : L2.St} {H : Hp} {s : Shared}
/-- the ground, a name of the frame forgotten -/
theorem inv_gone (I : Inv X pins σ H s) (nd : X.N.Nodup) {i : Nat} {n : Str} (hi : X.N[i]? = some n) (hl : X.env.kindOf n = some .local) {G : Heap} {m : Str → Option Value} {w : Option Value} {t : Nat}
    (hm : s.heap.Ns X.env.locals m) (hG : G.Ns X.env.locals (fun x => if x = n then w else m x)) (hs : Heap.SameBut X.env.locals s.heap G) : Inv X pins (σ.set i none) H { s with heap := G, toks := t } := by
  obtain ⟨m0, hm0, look⟩ := id I.loc
  have em : m0 = m := funext fun x => Heap.Ns.agree hm0 hm x
  subst em
  have old : ∀ b o, X.s_0.heap.get? b = some o → G.get? b = s.heap.get? b := fun b o e => hs.2 b (Nat.ne_of_lt (Nat.lt_of_lt_of_le (Heap.lt_size e) I.ok.above))
  have un : Un X.fs X.ex X.H_0 H X.s_0.heap G := {
    keep := fun b o e k1 k2 k3 => by rw [old b o e]; exact I.base.keep b o e k1 k2 k3
    slot := fun b o e k1 k2 k3 => by rw [old b o e]; exact I.base.slot b o e k1 k2 k3
    free := I.base.free
    there := fun b o e k => by rw [old b o e]; exact I.base.there b o e k
    tups := I.base.tups
    frzs := I.base.frzs
    tbls := I.base.tbls }
  have slots : ∀ (j : Nat) (y : Str) (v : V), X.N[j]? = some y → (σ.set i none)[j]? = some (some v) → Vis X.env.scope y → ∃ u, RelV v u ∧ Look X.env G (fun x => if x = n then w else m0 x) y u := fun j y v h1 h2 h3 => by
    have ij : i ≠ j := fun z => by
      subst z
      rw [List.getElem?_set] at h2
      rw [if_pos rfl] at h2
      split at h2 <;> cases h2
    rw [List.getElem?_set_ne ij] at h2
    obtain ⟨u, ru, q⟩ := look j y v h1 h2 h3
    refine ⟨u, ru, ?_⟩
    have yn : y ≠ n := fun z => ij (nodup_ix nd hi (z ▸ h1))
    rcases q with ⟨k, e⟩ | ⟨k, c, e, z⟩
    · exact .inl ⟨k, by rw [← e]; exact if_neg yn⟩
    · exact .inr ⟨k, c, e, z.sameBut hs (I.cne y c e)⟩
  have nl : ∀ b ob, H b = some ob → b ≠ X.env.locals := fun b ob e z => by rw [z, I.free] at e; cases e
  exact {
    ok := I.ok
    os := I.os
    bare := I.bare
    base := un
    loc := ⟨_, hG, slots⟩
    cell := fun x c e => (I.cell x c e).imp fun _ z => z.sameBut hs (I.cne x c e)
    free := I.free
    freeC := I.freeC
    pin := fun p hp => by
      obtain ⟨e, k1, k2, k3, k4⟩ := I.pin p hp
      exact ⟨by rw [← e]; exact hs.2 p.1 k2, k1, k2, k3, k4⟩
    hok := fun b ob e => (I.hok b ob e).stay (fun c w' hc q => by
      have ne : c ≠ X.env.locals := by
        rcases hc with hc | hc
        · rw [hc]; exact nl b ob e
        · exact nl c _ hc
      rw [← q]; exact hs.2 c ne) (fun _ q => q) fun _ _ q => q
    len := by rw [List.length_set]; exact I.len }
end
theorem upTo_trans {h1 h2 h3 : Heap} (a : h1.UpToSlots h2) (b : h2.UpToSlots h3) : h1.UpToSlots h3 := a.trans b
section
variable {M : Model} {A A' : Around} {env : PySem.Env} {outer : List PySem.Env} {B : Heap} {L e : Addr} {Z : Obj → Prop} {n : Str} {pos : Pos} {s : Shared} {m : Str → Option Value} {Xe E2 : Value → Shared → Prop}
/-- an own-activation's look at what comes back -/
theorem back_held (hf : env.frame = some L) (hh : HandSPX.HeldZ B (env :: outer) e Z L s.heap) (k : ∀ h, HandSPX.HeldZ B (env :: outer) e Z L h → s.heap.UpToSlots h → Xe (.ref e) { s with heap := h }) :
    notedBy M A' env (cameBackBy M A env Xe) (.ref e) s := by
  show wpAny M A' (noteFrame (.ref e) env) _ _ _
  refine HandSPX.againZ hf hh.2.2.2 ?_
  obtain ⟨oe, vs, T, oT, ts, he, hz, hd, h1, rest⟩ := id hh.2.2.2
  show wpAny M A (do
    if (← field (.ref e) 1) == .none then unsupported "frame.own-activation:exception-without-traceback"
    setFlight (.ref e) env.frame) _ _ _
  refine wpAny_bind (wpAny_field he hd h1 ?_)
  have nn : ¬ ((Value.ref T == Value.none) = true) := by simp
  rw [if_neg nn, hf]
  exact HandSPX.setFlight_onZ hh k
/-- behind a suite that named what it caught and raised: the name goes, the new exception flies on -/
theorem as_raised (hZ : PXN.Steady1 Z) (hfr : A'.frames = some (env :: outer)) (hf : env.frame = some L) (hL : env.locals = L) (hn : s.heap.Ns L m) (hlo : env.kindOf n = some .local)
    (hp : (env.scope.kind == .class || (env.scope.kind == .module && env.locals != env.globals)) = false) (sky : Sky B (env :: outer) e Z L s.heap)
    (k : ∀ h1 h2 h3 w, s.heap.UpToSlots h1 → Heap.SameBut L h1 h2 → h1.Ns L m → h2.Ns L (fun x => if x = n then w else m x) → h2.UpToSlots h3 → HandSPX.HeldZ B (env :: outer) e Z L h3 → Xe (.ref e) { s with heap := h3, toks := s.toks + 1 }) :
    wpAny M A' (noteFrame (.ref e) env) (fun _ s1 => wpAny M A' (do bindName env n .none; unbindBehindTheSuite env n pos) (fun _ s2 => wpAny M A' (passOn "try.except-as" (.ref e) env : Sem Flow) (fun _ _ => False) (notedBy M A' env (cameBackBy M A env Xe)) s2) E2 s1) (notedBy M A' env (cameBackBy M A env Xe)) s := by
  have nsUp : ∀ h1, s.heap.UpToSlots h1 → h1.Ns L m := fun h1 up => by
    obtain ⟨o, es, ep, ho, hd, r⟩ := hn
    obtain ⟨sl, q⟩ := up L o ho (fun vs z => by rw [hd] at z; cases z)
    exact ⟨_, es, ep, q, hd, r⟩
  have rest : ∀ h1, HandSPX.HeldZ B (env :: outer) e Z L h1 → s.heap.UpToSlots h1 → wpAny M A' (do bindName env n .none; unbindBehindTheSuite env n pos) (fun _ s2 => wpAny M A' (passOn "try.except-as" (.ref e) env : Sem Flow) (fun _ _ => False) (notedBy M A' env (cameBackBy M A env Xe)) s2) E2 { s with heap := h1 } := fun h1 hh up => by
    have n1 := nsUp h1 up
    refine wpAny_nameGoes_keeps hlo (by rw [hL]; exact n1) hp fun h2 w n2 sb => ?_
    rw [hL] at n2 sb
    obtain ⟨b1, b0, ff, tz⟩ := hh
    have bL : B.get? L = none := by
      obtain ⟨_, ⟨L', o', hf', hb', _⟩, _⟩ := ff
      have : L = L' := Option.some.inj (hf.symm.trans hf')
      rw [this]; exact hb'
    have b2 : B.StaysIn h2 := fun b o hb => by
      rw [sb.2 b (fun z => by rw [z, bL] at hb; cases hb)]; exact b1 b o hb
    have f2 : h2.FunFrames B (env :: outer) := Heap.FunFrames.sameBut sb n2 ff
    have t2 : HandSPX.TracedZ h2 B e Z (rawInt L) := by
      obtain ⟨oe, vs, T, oT, ts, he, hz, hd, h1', hnT, hTe, hT, hdT, h3⟩ := tz
      obtain ⟨oL, es, ep, hoL, hdL, _⟩ := n1
      have ne1 : e ≠ L := fun z => by rw [z, hoL] at he; cases he; rw [hdL] at hd; cases hd
      have ne2 : T ≠ L := fun z => by rw [z, hoL] at hT; cases hT; rw [hdL] at hdT; cases hdT
      exact ⟨oe, vs, T, oT, ts, by rw [sb.2 e ne1]; exact he, hz, hd, h1', hnT, hTe, by rw [sb.2 T ne2]; exact hT, hdT, h3⟩
    obtain ⟨oe, vs, T, oT, ts, he, hz, hd, h1', r⟩ := id t2
    unfold PySem.passOn
    refine wpAny_bind (wpAny_field he hd h1' ?_)
    have nn : ¬ ((Value.ref T == Value.none) = true) := by simp
    rw [if_neg nn, hf]
    refine wpAny_bind (HandSPX.setFlight_onZ ⟨b2, b0, f2, t2⟩ fun h3 hh3 up3 => wpAny_throw ?_)
    exact back_held (s := { s with heap := h3, toks := s.toks + 1 }) hf hh3 fun h4 hh4 up4 => k h1 h2 h4 w up sb n1 n2 (up3.trans up4) hh4
  rcases sky with ⟨hB, hnB, hl, oe, vs, he, hz, hd, h1⟩ | fl | hh
  · exact PXN.look_newZ hZ hfr hl hf he hB hnB hd h1 hz rest
  · exact PXN.looks_onZ hZ hfr hf fl rest
  · exact HandSPX.againZ hf hh.2.2.2 (rest s.heap hh (Heap.UpToSlots.refl _))
end
/-- the context of an except suite, with an outlet of its own -/
abbrev suX (X : Cx) (a : Addr) (xe : Value → Shared → Prop) (pn : List (Addr × Obj)) : Cx := { X with A := X.A.mark (some (.ref a)), calm := false, pn := pn, xe := xe }
section
variable {X : Cx} {pins : List (Addr × Obj)} {σ : L2.St} {H : Hp} {s : Shared} {a : Addr} {xe : Value → Shared → Prop}
theorem suX_of {pn pn' : List (Addr × Obj)} (I : Inv (X.suite a pn) pn' σ H s) : Inv (suX X a xe pn) pn' σ H s := Inv.wish (X := X.suite a pn) I xe
theorem un_suX {q : Addr × Obj} {pn' : List (Addr × Obj)} (I : Inv (suX X a xe (q :: (X.pn ++ pins))) pn' σ H s) (ok : X.Ok) : Inv X pins σ H s :=
  Inv.unsuite (X := X) (a := a) (q := q) (pn' := pn') (Inv.wish (X := suX X a xe (q :: (X.pn ++ pins))) I fun _ _ => False) ok
/-- what flies out of a suite that names nothing -/
theorem takes_bare {Wout : WX} {q : Addr × Obj} (ok : X.Ok) (tk : L2.Takes X Wout) : L2.Takes (suX X a X.xe (q :: (X.pn ++ pins))) Wout := fun u s2 ⟨a2, B2, sI2, pn2, σ2, H2, cls2, d2, e2, I2, r⟩ => tk u s2 ⟨a2, B2, sI2, pins, σ2, H2, cls2, d2, e2, un_suX I2 ok, r⟩
/-- the outlet of a suite that names what is caught -/
def asOut (X : Cx) (a : Addr) (n : Str) (pos : Pos) : Value → Shared → Prop := fun x s3 =>
  wpAny (model X.prog X.w) (X.A.mark (some (.ref a))) (noteFrame x X.env) (fun _ s1 => wpAny (model X.prog X.w) (X.A.mark (some (.ref a))) (do bindName X.env n .none; unbindBehindTheSuite X.env n pos)
    (fun _ s2 => wpAny (model X.prog X.w) (X.A.mark (some (.ref a))) (PySem.passOn "try.except-as" x X.env : Sem Flow) (fun _ _ => False) (notedBy (model X.prog X.w) (X.A.mark (some (.ref a))) X.env (cameBackBy (model X.prog X.w) X.A X.env X.xe)) s2)
    (fun y s2 => wpAny (model X.prog X.w) (X.A.mark (some (.ref a))) (setFlight x none) (fun _ s4 => notedBy (model X.prog X.w) (X.A.mark (some (.ref a))) X.env (cameBackBy (model X.prog X.w) X.A X.env X.xe) y s4) (notedBy (model X.prog X.w) (X.A.mark (some (.ref a))) X.env (cameBackBy (model X.prog X.w) X.A X.env X.xe)) s2) s1)
    (notedBy (model X.prog X.w) (X.A.mark (some (.ref a))) X.env (cameBackBy (model X.prog X.w) X.A X.env X.xe)) s3
theorem takes_named {Wout : WX} {q : Addr × Obj} {n : Str} {i : Nat} {pos : Pos} (ok : X.Ok) (hs : X.stack = X.env :: X.outer) (hf : X.env.frame = some X.env.locals) (nd : X.N.Nodup) (hi : X.N[i]? = some n) (hl : X.env.kindOf n = some .local) (tk : L2.Takes X Wout) :
    L2.Takes (suX X a (asOut X a n pos) (q :: (X.pn ++ pins))) (fun cls d σ H => Wout cls d (σ.set i none) H) := fun u s3 ⟨e, B, sI, pn2, σ2, H2, cls, d, eu, I2, nb, up, sky, na, os, ag, w⟩ => by
  subst eu
  have J := un_suX I2 ok
  have hfr : X.A.frames = some (X.env :: X.outer) := (congrArg some hs).symm ▸ ok.frames
  have hcls : (X.env.scope.kind == .class || (X.env.scope.kind == .module && X.env.locals != X.env.globals)) = false := by rw [ok.kind]; rfl
  have sky2 : Sky B (X.env :: X.outer) e (Zc cls d) X.env.locals s3.heap := hs ▸ sky
  obtain ⟨m, hn, _⟩ := id J.loc
  have n3 : s3.heap.Ns X.env.locals m := by
    obtain ⟨o, es, ep, ho, hd, r⟩ := hn
    obtain ⟨sl, q⟩ := up _ o ho (fun vs z => by rw [hd] at z; cases z)
    exact ⟨_, es, ep, q, hd, r⟩
  refine as_raised (L := X.env.locals) (m := m) (Z := Zc cls d) (fun o v h => Zc.steady o _ h) hfr hf rfl n3 hl hcls sky2 fun h1 h2 h3 w2 u1 sb n1 n2 u2 held => tk _ _ ?_
  obtain ⟨o2, es2, ep2, ho2, hd2, r2⟩ := n2
  obtain ⟨oL, esL, epL, hoL, hdL, _⟩ := id hn
  have gL : (sI.heap.update X.env.locals fun _ => o2).get? X.env.locals = some o2 := Heap.get?_update_self (fun _ => o2) hoL (Obj.isFreed_of_dict hd2)
  have gO : ∀ b, b ≠ X.env.locals → (sI.heap.update X.env.locals fun _ => o2).get? b = sI.heap.get? b := fun b hb => Heap.get?_update_other _ _ (Ne.symm hb)
  have nG : (sI.heap.update X.env.locals fun _ => o2).Ns X.env.locals (fun x => if x = n then w2 else m x) := ⟨o2, es2, ep2, gL, hd2, r2⟩
  have IG := inv_gone (t := s3.toks + 1) J nd hi hl hn nG (Heap.SameBut.update ..)
  have Lin : X.env.locals ∈ frs X.stack := List.mem_filterMap.mpr ⟨X.env, by rw [hs]; exact List.mem_cons_self, hf⟩
  refine ⟨e, B, _, pins, _, H2, cls, d, rfl, IG, fun b o hb hnf => ?_, fun b o hb hnf => ?_, .inr (.inr (by rw [hs]; exact held)), na, os, ag, w⟩
  · have ne : b ≠ X.env.locals := fun z => hnf (by rw [z]; exact Lin)
    have hb : (sI.heap.update X.env.locals fun _ => o2).get? b = some o := hb
    rw [gO b ne] at hb
    exact nb b o hb hnf
  · have hb : (sI.heap.update X.env.locals fun _ => o2).get? b = some o := hb
    by_cases ne : b = X.env.locals
    · rw [ne, gL] at hb
      have ho := Option.some.inj hb
      subst ho
      rw [ne]
      exact u2 _ _ ho2 hnf
    · rw [gO b ne] at hb
      obtain ⟨sl, q⟩ := up b o hb hnf
      obtain ⟨sl2, q2⟩ := u1 b _ q hnf
      have q3 := (sb.2 b ne).trans q2
      obtain ⟨sl4, q4⟩ := u2 b _ q3 hnf
      exact ⟨sl4, q4⟩
end
/-! ### try, whose suites may raise -/
inductive HdsX (X : Cx) (Wout : WX) : List ExceptHandler → List (Value × Option Nat × Sui) → Prop
  | nil : HdsX X Wout [] []
  | named {x n : Str} {c : Value} {i : Nat} {ts : Sui} {b0 : Stmt} {suite : List Stmt} {np hp : Pos} {hds : List ExceptHandler} {l : List (Value × Option Nat × Sui)} (hi : X.N[i]? = some n) (hl : X.env.kindOf n = some .local) (hc : Names X x c)
      (hsu : ∀ (a : Addr) (oe : Obj) (cls : Value) (d : Option Addr) (pn : List (Addr × Obj)) (xe : Value → Shared → Prop), Zc cls d oe → (∃ vs, oe.data = .fields vs) → L2.Takes (suX X a xe ((a, oe) :: pn)) (fun cls d σ H => Wout cls d (σ.set i none) H) → L2H.HotC (suX X a xe ((a, oe) :: pn)) → PSs (suX X a xe ((a, oe) :: pn)) (b0 :: suite) (ts a cls d))
      (r : HdsX X Wout hds l) : HdsX X Wout (.ExceptHandler (some (.Name x np)) (some n) (b0 :: suite) hp :: hds) ((c, some i, ts) :: l)
  | bare {x : Str} {c : Value} {ts : Sui} {b0 : Stmt} {suite : List Stmt} {np hp : Pos} {hds : List ExceptHandler} {l : List (Value × Option Nat × Sui)} (hc : Names X x c)
      (hsu : ∀ (a : Addr) (oe : Obj) (cls : Value) (d : Option Addr) (pn : List (Addr × Obj)) (xe : Value → Shared → Prop), Zc cls d oe → (∃ vs, oe.data = .fields vs) → L2.Takes (suX X a xe ((a, oe) :: pn)) Wout → L2H.HotC (suX X a xe ((a, oe) :: pn)) → PSs (suX X a xe ((a, oe) :: pn)) (b0 :: suite) (ts a cls d))
      (r : HdsX X Wout hds l) : HdsX X Wout (.ExceptHandler (some (.Name x np)) none (b0 :: suite) hp :: hds) ((c, none, ts) :: l)
section
variable {X : Cx}
theorem try_walkX {body : List Stmt} {h0 : ExceptHandler} {hds : List ExceptHandler} {l : List (Value × Option Nat × Sui)} {pos : Pos} {tb : WX → TS} {Wout : WX} (hs : X.stack = X.env :: X.outer) (hf : X.env.frame = some X.env.locals) (hN : X.N.Nodup) (hpa : ∀ hd : Option Value, PassesOwnAt (model X.prog X.w) (X.A.mark hd) X.A X.env X.xe) (tk : L2.Takes X Wout)
    (hb : ∀ (W : WX) (pn : List (Addr × Obj)) (xe : Value → Shared → Prop), L2N.Takes (X.tr pn xe) W → PSs (X.tr pn xe) body (tb W)) (hh : HdsX X Wout (h0 :: hds) l) : PS X (.Try body (h0 :: hds) [] [] pos) (fun D σ H => tb (wHm X.K Wout D l) D σ H) := ⟨fun pins s σ H D I h => by
  have ok := I.ok
  have hfr : X.A.frames = some (X.env :: X.outer) := (congrArg some hs).symm ▸ ok.frames
  refine wpAny_Try_except (wpAny_mono ((hb (wHm X.K Wout D l) (X.pn ++ pins) (fun e s1 => wpAny (model X.prog X.w) X.A (noteFrame e X.env) (fun _ s2 => wpAny (model X.prog X.w) X.A (setFlight e none) (fun _ s3 => wpAny (model X.prog X.w) X.A (handleBy e X.env (h0 :: hds)) (SP X pins D) X.xe s3) X.xe s2) X.xe s1) (fun u s' xx => ?_)).run [] s σ H D (I.toTry _) h) (fun fl s1 q => ?_) fun _ _ he => he)
  · obtain ⟨a, B, sI, pins', σ', H', cls, d, rfl, J', nb, up, sky, na, os, ag, w⟩ := xx
    have J : Inv X pins σ' H' sI := J'.ofTry ok
    refine L2N.Sky.land L2N.Zn.steady hfr hf (show Sky B (X.env :: X.outer) a (L2N.Zn cls d) X.env.locals s'.heap from hs ▸ sky) fun h3 fl3 up3 => ?_
    have J3 : Inv X pins σ' H' { s' with heap := h3 } := J.landed nb fl3.1 (up.trans up3) os ag
    obtain ⟨o3, vs3, he3, hz3, hd3⟩ := fl3.there
    have nfr := not_framed fl3.2.2.1 he3 hd3
    have nL : a ≠ X.env.locals := fun z => nfr (List.mem_filterMap.mpr ⟨X.env, List.mem_cons_self, hf.trans (congrArg some z.symm)⟩)
    have nF : a ∉ X.fs := fun hm => let ⟨e, he, q⟩ := List.mem_filterMap.mp hm; nfr (List.mem_filterMap.mpr ⟨e, List.mem_cons_of_mem _ he, q⟩)
    have S3 := J3.suite he3 hd3 na nL nF
    have LT : PySem.W.Looks (model X.prog X.w) h3 (typeOf (.ref a)) cls := fun _ _ _ _ k q => wpAny_typeOf_ref (k _ _ he3) (hz3.1.symm ▸ q)
    have go : ∀ {ds : List ExceptHandler} {m : List (Value × Option Nat × Sui)}, HdsX X Wout ds m → wHm X.K Wout D m cls d σ' H' → wpAny (model X.prog X.w) X.A (handleBy (.ref a) X.env ds) (SP X pins D) X.xe { s' with heap := h3 } := by
      intro ds m hk
      induction hk with
      | nil =>
        refine fun w => wpAny_handleBy_nil ?_
        obtain ⟨z1, z2, z3, oe, vs, T, oT, ts', he, hz, hd, h1, hr⟩ := id fl3
        unfold PySem.passOn
        refine wpAny_bind (wpAny_field he hd h1 ?_)
        have nn : ¬ ((Value.ref T == Value.none) = true) := by simp
        rw [if_neg nn]
        have fl4 : HandSPX.FlyingZ B (X.env :: X.outer) a (Zc cls d) h3 := L2H.flyingZ_imp (fun o z => z.zc) fl3
        have fin : wpAny (model X.prog X.w) X.A (setFlight (.ref a) X.env.frame) (fun _ s4 => wpAny (model X.prog X.w) X.A (throw (.ref a) : Sem Flow) (SP X pins D) X.xe s4) X.xe { s' with heap := h3 } := by
          rw [hf]
          exact HandSPX.setFlight_upZ fl4 fun h4 hh4 up4 => wpAny_throw (tk _ _ ⟨a, B, sI, pins, σ', H', cls, d, rfl, J, nb, (up.trans up3).trans up4, .inr (.inr (hs.symm ▸ hh4)), na, os, ag, w⟩)
        first | exact wpAny_bind (wpAny_pure (wpAny_bind fin)) | exact wpAny_bind fin
      | @named x n c i ts b0 suite np hp hds2 l2 hi hl hc hsu r ih =>
        rintro ⟨b, hb1, hyes, hno⟩
        have LM := PySem.W.exm_one (M := model X.prog X.w) (J3.kIn) LT hb1
        have test : ∀ {Q : Value → Shared → Prop} {E : Value → Shared → Prop}, Q c { s' with heap := h3 } → wpAny (model X.prog X.w) (X.A.mark (some (.ref a))) (eval (.Name x np) X.env) Q E { s' with heap := h3 } := fun {Q E} q => by
          obtain ⟨hg, hdbg, hm | ⟨hm, hv, hnn⟩⟩ := hc
          · exact ld_glob (X := X.suite a ((a, o3) :: (X.pn ++ pins))) S3 hg hm q hdbg
          · exact ld_blt (X := X.suite a ((a, o3) :: (X.pn ++ pins))) S3 hg hm hv q hnn hdbg
        refine wpAny_handleBy_cons (codeAny_handlers_test (test (LM.here ?_))) fun q => nomatch q
        cases b with
        | false => exact ih (hno rfl)
        | true =>
          refine codeAny_handlers_suite_as (HandSPX.lands_againZ fl3 fun h4 fl4 up4 => ?_)
          have J4 : Inv X pins σ' H' { s' with heap := h4 } := J.landed nb fl4.1 ((up.trans up3).trans up4) os ag
          obtain ⟨o4, vs4, he4, hz4, hd4⟩ := fl4.there
          have hot : L2H.HotC (suX X a (asOut X a n hp) ((a, o4) :: (X.pn ++ pins))) := ⟨(a, o4), ⟨rfl, vs4, hd4, hz4.2.2 vs4 hd4⟩, List.mem_cons_self⟩
          refine store_ok (X := X.suite a ((a, o4) :: (X.pn ++ pins))) (v := .ref a) (J4.suite he4 hd4 na nL nF) hN hi (.inl hl) rfl (fun s5 S5 => ?_) (.inr hl)
          refine wpAny_mono ((hsu a o4 cls d (X.pn ++ pins) (asOut X a n hp) hz4.zc ⟨_, hd4⟩ (takes_named ok hs hf hN hi hl tk) hot).run [] s5 _ H' _ (suX_of S5) (hyes rfl a na)) (fun f s6 q => ?_) fun y s6 z => z
          have fin : ∀ {σ6 : L2.St} {H6 : Hp} {Q : Shared → Prop}, Inv (suX X a (asOut X a n hp) ((a, o4) :: (X.pn ++ pins))) [] σ6 H6 s6 → (∀ s7, Inv X pins (σ6.set i none) H6 s7 → Q s7) → wpAny (model X.prog X.w) X.A (do bindName X.env n .none; unbindBehindTheSuite X.env n hp) (fun _ s7 => Q s7) X.xe s6 :=
            fun S6 hq => gone_ok (un_suX S6 ok) hN hi hl hq
          cases f with
          | next => obtain ⟨σ6, H6, S6, q6⟩ := q; exact fin S6 fun s7 J7 => ⟨_, _, J7, q6⟩
          | brk => obtain ⟨σ6, H6, S6, q6⟩ := q; exact fin S6 fun s7 J7 => ⟨_, _, J7, q6⟩
          | cont => obtain ⟨σ6, H6, S6, q6⟩ := q; exact fin S6 fun s7 J7 => ⟨_, _, J7, q6⟩
          | ret u => obtain ⟨v6, σ6, H6, S6, r6, q6⟩ := q; exact fin S6 fun s7 J7 => ⟨_, _, _, J7, r6, q6⟩
      | @bare x c ts b0 suite np hp hds2 l2 hc hsu r ih =>
        rintro ⟨b, hb1, hyes, hno⟩
        have LM := PySem.W.exm_one (M := model X.prog X.w) (J3.kIn) LT hb1
        have test : ∀ {Q : Value → Shared → Prop} {E : Value → Shared → Prop}, Q c { s' with heap := h3 } → wpAny (model X.prog X.w) (X.A.mark (some (.ref a))) (eval (.Name x np) X.env) Q E { s' with heap := h3 } := fun {Q E} q => by
          obtain ⟨hg, hdbg, hm | ⟨hm, hv, hnn⟩⟩ := hc
          · exact ld_glob (X := X.suite a ((a, o3) :: (X.pn ++ pins))) S3 hg hm q hdbg
          · exact ld_blt (X := X.suite a ((a, o3) :: (X.pn ++ pins))) S3 hg hm hv q hnn hdbg
        refine wpAny_handleBy_cons (codeAny_handlers_test (test (LM.here ?_))) fun q => nomatch q
        cases b with
        | false => exact ih (hno rfl)
        | true =>
          refine codeAny_handlers_suite (HandSPX.lands_againZ fl3 fun h4 fl4 up4 => ?_)
          have J4 : Inv X pins σ' H' { s' with heap := h4 } := J.landed nb fl4.1 ((up.trans up3).trans up4) os ag
          obtain ⟨o4, vs4, he4, hz4, hd4⟩ := fl4.there
          have hot : L2H.HotC (suX X a X.xe ((a, o4) :: (X.pn ++ pins))) := ⟨(a, o4), ⟨rfl, vs4, hd4, hz4.2.2 vs4 hd4⟩, List.mem_cons_self⟩
          refine wpAny_mono ((hsu a o4 cls d (X.pn ++ pins) X.xe hz4.zc ⟨_, hd4⟩ (takes_bare ok tk) hot).run [] _ _ H' _ (suX_of (J4.suite he4 hd4 na nL nF)) (hyes rfl a na)) (fun f s6 q => ?_) fun y s6 z => hpa (some (.ref a)) y s6 z
          cases f with
          | next => obtain ⟨σ6, H6, S6, q6⟩ := q; exact ⟨_, _, un_suX S6 ok, q6⟩
          | brk => obtain ⟨σ6, H6, S6, q6⟩ := q; exact ⟨_, _, un_suX S6 ok, q6⟩
          | cont => obtain ⟨σ6, H6, S6, q6⟩ := q; exact ⟨_, _, un_suX S6 ok, q6⟩
          | ret u => obtain ⟨v6, σ6, H6, S6, r6, q6⟩ := q; exact ⟨_, _, _, un_suX S6 ok, r6, q6⟩
    exact go hh w
  · cases fl with
    | next => obtain ⟨σ', H', J', q⟩ := q; exact wpAny_execs_nil ⟨σ', H', J'.ofTry ok, q⟩
    | brk => obtain ⟨σ', H', J', q⟩ := q; exact ⟨σ', H', J'.ofTry ok, q⟩
    | cont => obtain ⟨σ', H', J', q⟩ := q; exact ⟨σ', H', J'.ofTry ok, q⟩
    | ret u => obtain ⟨v, σ', H', J', r, q⟩ := q; exact ⟨v, σ', H', J'.ofTry ok, r, q⟩⟩
end
end WD

/-! defs that raise within an except clause, and who calls them -/
namespace WD
open PySem PySem.Spec PyProof.Rows L2
open Evl (Ex Ex.refl Ex.trans Ex.new Ex.mut ex_l ex_t fresh_back)
/-! ### the weaker outlet -/
theorem xeN_of {X : Cx} {W : WX} {u : Value} {s' : Shared} (h : L2N.XE X W u s') : L2.XE X W u s' := by
  obtain ⟨a, B, sI, pins, σ, H, cls, d, e, I, nb, up, sky, r⟩ := h
  refine ⟨a, B, sI, pins, σ, H, cls, d, e, I, nb, up, ?_, r⟩
  rcases sky with ⟨hB, hn, hl, oe, vs, he, hz, q⟩ | fl | hh
  · exact .inl ⟨hB, hn, hl, oe, vs, he, hz.zc, q⟩
  · exact .inr (.inl (L2H.flyingZ_imp (fun _ z => z.zc) fl))
  · exact .inr (.inr ⟨hh.1, hh.2.1, hh.2.2.1, L2H.tracedZ_imp (fun _ z => z.zc) hh.2.2.2⟩)
theorem takesN {X : Cx} {W : WX} (t : L2.Takes X W) : L2N.Takes X W := fun u s' x => t u s' (xeN_of x)
theorem tkZ {P : Program} {w : World} {K : PySem.W.Frag} {mg : Str → Option Value} {base : Heap} {N : List Str} {qual : Str} {scope : Scope} {f : Addr} {cd : Value} {A : Around} {outer : List PySem.Env} {s : Shared} {H : Hp} {E : XK} :
    L2.Takes (cxOf (L2.CX P w) P w K mg base N qual scope f cd A outer s H E) (fun cls d σ H => (eX K E).err σ cls d H) := L2.takes_of rfl rfl rfl rfl
theorem pcZ {P : Program} {w : World} {K : PySem.W.Frag} {mg : Str → Option Value} {base : Heap} {N : List Str} {qual : Str} {scope : Scope} {f : Addr} {cd : Value} {A : Around} {outer : List PySem.Env} {s : Shared} {H : Hp} {E : XK} :
    ∀ σ, PassesAt (L2N.CX P w) (cxOf (L2.CX P w) P w K mg base N qual scope f cd A outer s H E) σ ((eX K E).err σ) := fun σ pins H s e s' I h => L2N.passes_call (takesN tkZ) (fun _ _ _ _ h => h) pins σ H s e s' I h
theorem pcZZ {P : Program} {w : World} {K : PySem.W.Frag} {mg : Str → Option Value} {base : Heap} {N : List Str} {qual : Str} {scope : Scope} {f : Addr} {cd : Value} {A : Around} {outer : List PySem.Env} {s : Shared} {H : Hp} {E : XK} :
    ∀ σ, PassesAt (L2.CX P w) (cxOf (L2.CX P w) P w K mg base N qual scope f cd A outer s H E) σ ((eX K E).err σ) := fun σ pins H s e s' I h => L2.passes_call tkZ (fun _ _ _ _ h => h) pins σ H s e s' I h
theorem passLZ {X : Cx} : ∀ σ, PassesAt (L2.CX X.prog X.w) X σ (EX0.err σ) := fun σ pins H s e s' I h => by obtain ⟨_, _, _, _, _, _, _, _, _, _, _, _, z⟩ := h; exact z.elim
theorem paZ {P : Program} {w : World} {K : PySem.W.Frag} {mg : Str → Option Value} {base : Heap} {N : List Str} {qual : Str} {scope : Scope} {f : Addr} {cd : Value} {A : Around} {outer : List PySem.Env} {s : Shared} {H : Hp} {E : XK} :
    ∀ hd : Option Value, PassesOwnAt (model P w) ((cxOf (L2.CX P w) P w K mg base N qual scope f cd A outer s H E).A.mark hd) (cxOf (L2.CX P w) P w K mg base N qual scope f cd A outer s H E).A (cxOf (L2.CX P w) P w K mg base N qual scope f cd A outer s H E).env (cxOf (L2.CX P w) P w K mg base N qual scope f cd A outer s H E).xe := fun hd => L2H.passesAt_of rfl hd
/-! ### such defs -/
structure FnZ (P : Program) (w : World) (K : Frag) (mg : Mg) (base : Heap) (k : Nat) (x : Str) (ps : List Str) (m : List D → Res D) : Prop where
  ex : ∃ f fd, mg x = some (.ref f) ∧ PySem.W.keepIn K (.ref f) = true ∧ Binds K fd ps [] ∧ FnOk P w K mg base (L2.CX P w) k f fd ps (spM mg K ps.length m)
theorem fn_okZ {κ κe : Nat → Kd} {P : Program} {w : World} {K : Frag} {mg : Mg} {base : Heap} {x qual : Str} {st : Stmt} {f : Addr} {fd : FuncData} {N ps : List Str} {k n : Nat} {body : Env → Out} (F : Fun K x qual st f fd) (S : FnScope N ps (defScope st)) (hn : N.length = n)
    (hk : ∀ i, i < ps.length → κ i = .im)
    (hbody : ∀ (cdv : Value) (A : Around) (outer : List PySem.Env) (s : Shared) (H : Hp) (E : XK), Room k (A.deeper (envOfC qual (defScope st) s.heap.objs.size f cdv)) →
      DSs2 (cxOf (L2.CX P w) P w K mg base N qual (defScope st) f cdv A outer s H E) κ κe (eX K E) (defBody st) body) : FnOk P w K mg base (L2.CX P w) (k + 1) f fd ps (spM mg K ps.length (mkFn n body)) := by
  subst hn
  refine F.okX S (fun vs H Q E h => h.1) fun cdv A outer s H vs Q E hr h => ⟨_, hbody cdv A outer s H E hr, ?_⟩
  obtain ⟨hl, F, ds, e, nf, r, c⟩ := h
  refine ⟨F, H, F, _, fn_start e nf r hl hk, ?_⟩
  unfold mkFn at c
  generalize ho : body (ds.map some ++ List.replicate (N.length - ds.length) none) = o at c ⊢
  cases o with
  | nx ρ => exact fun σ' F' H' _ S' => c .non F' H' S'.ext .non
  | bk ρ => exact c.elim
  | ct ρ => exact c.elim
  | rt d => exact c
  | err x => exact fun _ => c
  | stk => exact c
section
variable {X : Cx} {κ : Nat → Kd} {E : EX} {e : Expr} {es : List Expr} {pos : Pos} {sts : List Stmt}
theorem de_callZ {k : Nat} {x : Str} {p : Pos} {ps : List Str} {m : List D → Res D} {ma : Env → Res (List D)} (G : FnZ X.prog X.w X.K X.mg X.base k x ps m) (hr : Room k X.A) (hx : ∀ σ, PassesAt (L2.CX X.prog X.w) X σ (E.err σ)) (hg : Gl X x) (ha : DA X κ E (e :: es) ma) (hlen : (e :: es).length = ps.length)
    (hma : ∀ ρ ds, ma ρ = .ok ds → ds.length = ps.length)
    (hdb : (x == ("__debug__" : Str)) = false := by decide) (he : starEach (e :: es) X.env = (false, eval e X.env) :: starEach es X.env := by rfl) (hpl : (backTo pos (starEach es X.env)).any (·.1) = false := by rfl) :
    DE X κ E (.Call (.Name x p) (e :: es) [] pos) (mCall m ma) := by
  obtain ⟨f, fd, hm, hk, hb, hF⟩ := G.ex
  refine (pe_callS hF hr hg hm hk hb hx ha hdb he hpl).imp fun σ H Q ⟨F0, H0, F, ρ, S, c⟩ => ⟨F0, H0, F, ρ, S, Res.sat_imp (Res.sat_bind c) (fun ds q k vs F' H' x r => ?_) fun _ z => z⟩
  refine ⟨by rw [r.length, hma ρ ds q], F', ds, x.s, x.n S.nf, r, Res.sat_imp k (fun d _ k v F2 H2 x2 r2 => k v F2 H2 (x.trans x2) r2) fun _ z => z.mono x⟩
end
/-! ### try whose suites may raise -/
def hndlX (tb : Tbl) : List SutM → Exn → Env → Out
  | [], x, _ => .err x
  | s :: r, x, ρ => match tb x.cls s.cls with
    | none => .stk
    | some true => (match s.slot with
      | some i => (match s.m x.cls (ρ.set i (some (xD x.fs))) with
        | .nx ρ' => .nx (ρ'.set i none)
        | .bk ρ' => .bk (ρ'.set i none)
        | .ct ρ' => .ct (ρ'.set i none)
        | .rt d => .rt d
        | .err y => .err y
        | .stk => .stk)
      | none => s.m x.cls ρ)
    | some false => hndlX tb r x ρ
def mTryX (tb : Tbl) (m : Env → Res D) (fin : D → Env → Out) (hs : List SutM) : Env → Out := fun ρ => match m ρ with
  | .ok d => fin d ρ
  | .err x => hndlX tb hs x ρ
  | .stk => .stk
/-- what a named suite wishes -/
abbrev EXs (E : EX) (i : Nat) : EX := ⟨fun σ => E.err (σ.set i none), E.ret⟩
section
variable {X : Cx} {κ : Nat → Kd} {E : EX} {sts : List Stmt}
inductive HdsXD (X : Cx) (κ : Nat → Kd) (E : EX) : List ExceptHandler → List SutM → Prop
  | nil : HdsXD X κ E [] []
  | named {x n : Str} {i : Nat} {m : Str → Env → Out} {b0 : Stmt} {suite : List Stmt} {np hp : Pos} {hds : List ExceptHandler} {l : List SutM} (hk : κ i = .im) (hi : X.N[i]? = some n) (hl : X.env.kindOf n = some .local) (hg : Gl X x) (hdb : (x == ("__debug__" : Str)) = false)
      (hsu : ∀ (a : Addr) (oe : Obj) (C : Addr) (cn : Str) (d : Option Addr) (pn : List (Addr × Obj)) (xe : Value → Shared → Prop), X.mg cn = some (.ref C) → Zc (.ref C) d oe → (∃ vs, oe.data = .fields vs) → L2.Takes (suX X a xe ((a, oe) :: pn)) (fun cls d σ H => (EXs E i).err σ cls d H) → L2H.HotC (suX X a xe ((a, oe) :: pn)) →
        DSs (suX X a xe ((a, oe) :: pn)) (kdX κ i a d) (EXs E i) (b0 :: suite) (m cn)) (r : HdsXD X κ E hds l) :
      HdsXD X κ E (.ExceptHandler (some (.Name x np)) (some n) (b0 :: suite) hp :: hds) (⟨x, some i, m⟩ :: l)
  | bare {x : Str} {m : Str → Env → Out} {b0 : Stmt} {suite : List Stmt} {np hp : Pos} {hds : List ExceptHandler} {l : List SutM} (hg : Gl X x) (hdb : (x == ("__debug__" : Str)) = false)
      (hsu : ∀ (a : Addr) (oe : Obj) (C : Addr) (cn : Str) (d : Option Addr) (pn : List (Addr × Obj)) (xe : Value → Shared → Prop), X.mg cn = some (.ref C) → Zc (.ref C) d oe → (∃ vs, oe.data = .fields vs) → L2.Takes (suX X a xe ((a, oe) :: pn)) (fun cls d σ H => E.err σ cls d H) → L2H.HotC (suX X a xe ((a, oe) :: pn)) →
        DSs (suX X a xe ((a, oe) :: pn)) κ E (b0 :: suite) (m cn)) (r : HdsXD X κ E hds l) :
      HdsXD X κ E (.ExceptHandler (some (.Name x np)) none (b0 :: suite) hp :: hds) (⟨x, none, m⟩ :: l)
theorem hds_ofX {hds : List ExceptHandler} {l : List SutM} (h : HdsXD X κ E hds l) {tb : Tbl} (ht : TblOk X.K X.mg tb) :
    ∃ l' : List (Value × Option Nat × Sui), (l ≠ [] → ∀ n ∈ l, ∃ cv, X.mg n.cls = some cv) → HdsX X (fun cls d σ H => E.err σ cls d H) hds l' ∧
      ∀ (Dn : Ends) (F0 H0 F H : Hp) (σ : L2.St) (ρ : Env) (x : Exn) (cls : Value) (d : Option Addr), Stt X.K κ F0 H0 F H σ ρ → ExRep X.mg X.K F H x cls d → OutOk X.mg X.K κ E F0 H0 F H Dn (hndlX tb l x ρ) →
        wHm X.K (fun cls d σ H => E.err σ cls d H) Dn l' cls d σ H := by
  induction h with
  | nil => exact ⟨[], fun _ => ⟨.nil, fun Dn F0 H0 F H σ ρ x cls d S r k => (show ∀ σ, ErrOk X.mg X.K (E.err σ) F0 H0 x from k) σ F H cls d S.ext r⟩⟩
  | @named x n i m b0 suite np hp hds l hk hi hl hg hdb hsu r ih =>
    obtain ⟨l', ih⟩ := ih
    cases hcv : X.mg x with
    | none => exact ⟨[], fun z => by obtain ⟨cv, e⟩ := z (by simp) ⟨x, some i, m⟩ (by simp); rw [hcv] at e; cases e⟩
    | some cv =>
      refine ⟨(cv, some i, fun a cls d => fun D σ H => ∃ C cn, cls = .ref C ∧ X.mg cn = some (.ref C) ∧ rdS X.mg X.K (kdX κ i a d) (EXs E i) (m cn) D σ H) :: l', fun z => ?_⟩
      obtain ⟨h1, h2⟩ := ih fun _ n hn => z (by simp) n (by simp [hn])
      refine ⟨.named hi hl ⟨hg, hdb, .inl hcv⟩ (fun a oe cls d pn xe hz hf tk hot => ⟨fun pins s σ H D I ⟨C, cn, e1, e2, k⟩ => by subst e1; exact (hsu a oe C cn d pn xe e2 hz hf tk hot).run pins s σ H D I k⟩) h1, fun Dn F0 H0 F H σ ρ y cls d S rep k => ?_⟩
      have hx := rep.xn
      obtain ⟨C, e1, e2, _⟩ := id rep
      unfold hndlX at k
      cases htb : tb y.cls x with
      | none => simp only [htb] at k; exact k.elim
      | some b =>
        obtain ⟨cv', e3, e4⟩ := ht _ _ _ htb C e1
        rw [hcv] at e3
        cases e3
        refine ⟨b, by rw [e2]; exact e4, fun hb a na => ?_, fun hb => ?_⟩
        · subst hb
          simp only [htb] at k
          refine ⟨C, y.cls, e2, e1, F0, H0, F, _, S.enter hk hx, ?_⟩
          generalize m y.cls (ρ.set i (some (xD y.fs))) = o at k ⊢
          cases o with
          | nx ρ' => exact fun σ' F' H' x' S' => k _ F' H' x' S'.leave
          | bk ρ' => exact fun σ' F' H' x' S' => k _ F' H' x' S'.leave
          | ct ρ' => exact fun σ' F' H' x' S' => k _ F' H' x' S'.leave
          | rt d => exact k
          | err x =>
            have k : ∀ σ, ErrOk X.mg X.K (E.err σ) F0 H0 x := k
            exact fun σ => k _
          | stk => exact k.elim
        · subst hb
          simp only [htb] at k
          exact h2 Dn F0 H0 F H σ ρ y cls d S rep k
  | @bare x m b0 suite np hp hds l hg hdb hsu r ih =>
    obtain ⟨l', ih⟩ := ih
    cases hcv : X.mg x with
    | none => exact ⟨[], fun z => by obtain ⟨cv, e⟩ := z (by simp) ⟨x, none, m⟩ (by simp); rw [hcv] at e; cases e⟩
    | some cv =>
      refine ⟨(cv, none, fun a cls d => fun D σ H => ∃ C cn, cls = .ref C ∧ X.mg cn = some (.ref C) ∧ rdS X.mg X.K κ E (m cn) D σ H) :: l', fun z => ?_⟩
      obtain ⟨h1, h2⟩ := ih fun _ n hn => z (by simp) n (by simp [hn])
      refine ⟨.bare ⟨hg, hdb, .inl hcv⟩ (fun a oe cls d pn xe hz hf tk hot => ⟨fun pins s σ H D I ⟨C, cn, e1, e2, k⟩ => by subst e1; exact (hsu a oe C cn d pn xe e2 hz hf tk hot).run pins s σ H D I k⟩) h1, fun Dn F0 H0 F H σ ρ y cls d S rep k => ?_⟩
      obtain ⟨C, e1, e2, _⟩ := id rep
      unfold hndlX at k
      cases htb : tb y.cls x with
      | none => simp only [htb] at k; exact k.elim
      | some b =>
        obtain ⟨cv', e3, e4⟩ := ht _ _ _ htb C e1
        rw [hcv] at e3
        cases e3
        refine ⟨b, by rw [e2]; exact e4, fun hb a na => ?_, fun hb => ?_⟩
        · subst hb
          simp only [htb] at k
          exact ⟨C, y.cls, e2, e1, F0, H0, F, _, S, k⟩
        · subst hb
          simp only [htb] at k
          exact h2 Dn F0 H0 F H σ ρ y cls d S rep k
theorem ds_tryGX {h0 : ExceptHandler} {hds : List ExceptHandler} {l : List SutM} {pos : Pos} {tb : Tbl} {me : Env → Res D} {mfin : D → Env → Out} {fin : Ends → V → L2.St → Hp → Prop}
    (hb : ∀ (W : WX) (pn : List (Addr × Obj)) (xe : Value → Shared → Prop), L2N.Takes (X.tr pn xe) W → PSs (X.tr pn xe) sts (fun D σ H => rdE X.mg X.K κ ⟨WE W, E.ret⟩ me σ H fun v H' => fin D v σ H'))
    (hfin : ∀ (Dn : Ends) (F0 H0 F H : Hp) (σ : L2.St) (ρ : Env) (v : V) (d : D), Stt X.K κ F0 H0 F H σ ρ → Rp X.K F v d → OutOk X.mg X.K κ E F0 H0 F H Dn (mfin d ρ) → fin Dn v σ H)
    (hd : HdsXD X κ E (h0 :: hds) l) (ht : TblOk X.K X.mg tb) (hcl : ∀ n ∈ l, ∃ cv, X.mg n.cls = some cv) (hN : X.N.Nodup) (tk : L2.Takes X (fun cls d σ H => E.err σ cls d H)) (hpa : ∀ hd : Option Value, PassesOwnAt (model X.prog X.w) (X.A.mark hd) X.A X.env X.xe) (hs : X.stack = X.env :: X.outer := by rfl) (hf : X.env.frame = some X.env.locals := by rfl) :
    DS X κ E (.Try sts (h0 :: hds) [] [] pos) (mTryX tb me mfin l) := by
  obtain ⟨l', h⟩ := hds_ofX hd ht
  obtain ⟨h1, h2⟩ := h fun _ => hcl
  refine (try_walkX hs hf hN hpa tk hb h1).imp fun Dn σ H ⟨F0, H0, F, ρ, S, k⟩ => ⟨F0, H0, F, ρ, S, ?_⟩
  unfold mTryX at k
  cases q : me ρ with
  | ok d =>
    simp only [q] at k
    exact fun v F' H' x r => hfin Dn F0 H0 F' H' σ ρ v d (S.mono x) r (OutOk.mono (H := H) x.f k)
  | err y =>
    simp only [q] at k
    exact fun F' H' c dd x rep => h2 Dn F0 H0 F' H' σ ρ y c dd (S.mono x) rep (OutOk.mono (H := H) x.f k)
  | stk => simp only [q] at k; exact k.elim
theorem ds_tryAX {e : Expr} {x : Str} {i : Nat} {px ps : Pos} {h0 : ExceptHandler} {hds : List ExceptHandler} {l : List SutM} {pos : Pos} {tb : Tbl} {me : Env → Res D} (hk : κ i = .im) (hi : X.N[i]? = some x) (hx : Loc X.env.scope x) (he : ∀ (W : WX) (pn : List (Addr × Obj)) (xe : Value → Shared → Prop), L2N.Takes (X.tr pn xe) W → DE (X.tr pn xe) κ ⟨WE W, E.ret⟩ e me)
    (hd : HdsXD X κ E (h0 :: hds) l) (ht : TblOk X.K X.mg tb) (hcl : ∀ n ∈ l, ∃ cv, X.mg n.cls = some cv) (hN : X.N.Nodup) (tk : L2.Takes X (fun cls d σ H => E.err σ cls d H)) (hpa : ∀ hd : Option Value, PassesOwnAt (model X.prog X.w) (X.A.mark hd) X.A X.env X.xe) (hs : swapsWith e (some (.Name x px)) ps.line X.env = pure false := by rfl)
    (hf : X.fn x = true ∨ X.env.scope.names.lookup x = some .local := by first | exact .inl rfl | exact .inr rfl | assumption) (hst : X.stack = X.env :: X.outer := by rfl) (hfr : X.env.frame = some X.env.locals := by rfl) :
    DS X κ E (.Try [.Assign [.Name x px] e ps] (h0 :: hds) [] [] pos) (mTryX tb me (fun d ρ => .nx (ρ.set i (some d))) l) :=
  ds_tryGX (fin := fun D v σ H => D.nx (σ.set i (some v)) H) (fun W pn xe tk => pss_one (ps_set (i := i) (X := X.tr pn xe) hN hi hx (he W pn xe tk) hs hf)) (fun Dn F0 H0 F H σ ρ v d S r k => k _ F H (Ex.refl F) (S.set hk r)) hd ht hcl hN tk hpa hst hfr
theorem ds_trySX {h0 : ExceptHandler} {hds : List ExceptHandler} {l : List SutM} {pos : Pos} {tb : Tbl} {me : Env → Res D} (he : ∀ (W : WX) (pn : List (Addr × Obj)) (xe : Value → Shared → Prop), L2N.Takes (X.tr pn xe) W → DR (X.tr pn xe) κ ⟨WE W, E.ret⟩ sts me)
    (hd : HdsXD X κ E (h0 :: hds) l) (ht : TblOk X.K X.mg tb) (hcl : ∀ n ∈ l, ∃ cv, X.mg n.cls = some cv) (hN : X.N.Nodup) (tk : L2.Takes X (fun cls d σ H => E.err σ cls d H)) (hpa : ∀ hd : Option Value, PassesOwnAt (model X.prog X.w) (X.A.mark hd) X.A X.env X.xe) (hR : ∀ H0 d v F H, Rp X.K F v d → E.ret H0 d v F H := by exact fun _ _ _ _ _ h => h) (hst : X.stack = X.env :: X.outer := by rfl) (hfr : X.env.frame = some X.env.locals := by rfl) :
    DS X κ E (.Try sts (h0 :: hds) [] [] pos) (mTryX tb me (fun d _ => .rt d) l) :=
  ds_tryGX (fin := fun D v _ H => D.rt v H) (fun W pn xe tk => he W pn xe tk) (fun Dn F0 H0 F H σ ρ v d S r k => k v F H S.ext (hR _ _ _ _ _ r)) hd ht hcl hN tk hpa hst hfr
theorem ds_tryEX {e : Expr} {ps : Pos} {h0 : ExceptHandler} {hds : List ExceptHandler} {l : List SutM} {pos : Pos} {tb : Tbl} {me : Env → Res D} (he : ∀ (W : WX) (pn : List (Addr × Obj)) (xe : Value → Shared → Prop), L2N.Takes (X.tr pn xe) W → DE (X.tr pn xe) κ ⟨WE W, E.ret⟩ e me)
    (hd : HdsXD X κ E (h0 :: hds) l) (ht : TblOk X.K X.mg tb) (hcl : ∀ n ∈ l, ∃ cv, X.mg n.cls = some cv) (hN : X.N.Nodup) (tk : L2.Takes X (fun cls d σ H => E.err σ cls d H)) (hpa : ∀ hd : Option Value, PassesOwnAt (model X.prog X.w) (X.A.mark hd) X.A X.env X.xe) (hs : swapsWith e none ps.line X.env = pure false := by rfl) (hst : X.stack = X.env :: X.outer := by rfl) (hfr : X.env.frame = some X.env.locals := by rfl) :
    DS X κ E (.Try [.Expr e ps] (h0 :: hds) [] [] pos) (mTryX tb me (fun _ ρ => .nx ρ) l) :=
  ds_tryGX (fin := fun D _ σ H => D.nx σ H) (fun W pn xe tk => pss_one (ps_expr (he W pn xe tk) hs)) (fun Dn F0 H0 F H σ ρ v d S r k => k _ F H (Ex.refl F) S) hd ht hcl hN tk hpa hst hfr
end
end WD

/-! raise in a suite; try over defs that may do so -/
namespace WD
open PySem PySem.Spec PyProof.Rows L2
open Evl (Ex Ex.refl Ex.trans Ex.new Ex.mut ex_l ex_t fresh_back)
/-- a class of the program, made where something is handled -/
structure XClsH (P : Program) (w : World) (K : Frag) (mg : Mg) (base : Heap) (x : Str) (fs : List Str) : Prop where
  ex : ∃ C fI fd, mg x = some (.ref C) ∧ OexC K C ∧ (∀ f ∈ fs, PySem.W.findIn K (.ref C) f = some none) ∧ PySem.W.findIn K (.ref C) "__init__" = some (some (.ref fI)) ∧ PySem.W.typeIn K (.ref fI) = some (.type "function") ∧ Binds K fd ("self" :: fs) [] ∧ L2H.FnH P w K mg base (L2.CX P w) 1 fI fd ("self" :: fs) (spI K fs)
theorem ini_okH {P : Program} {w : World} {K : Frag} {mg : Mg} {base : Heap} {qual : Str} {st : Stmt} {f : Addr} {fd : FuncData} {fs : List Str} (F : Fun K "__init__" qual st f fd) (S : FnScope ("self" :: fs) ("self" :: fs) (defScope st)) (hne : fs ≠ []) (hl : fs.length ≤ 900)
    (hbody : ∀ (cdv : Value) (A : Around) (outer : List PySem.Env) (s : Shared) (H : Hp) (E : XK) (p : Addr × Obj), PSs (L2H.cxH (L2.CX P w) P w K mg base ("self" :: fs) qual (defScope st) f cdv A outer s H E p) (defBody st) (iniT K fs 1)) :
    L2H.FnH P w K mg base (L2.CX P w) 1 f fd ("self" :: fs) (spI K fs) := by
  obtain ⟨oc, od, kV, doc, pm, an, cdv, ct, osl, rfl, lk, hcd⟩ := F.ex
  refine L2H.fn_ofH lk hcd S (fun vs H Q E ⟨a, C, xs, e, hx, _⟩ => by rw [e]; simp [hx]) fun A outer s H vs Q E p _ hr ⟨a, C, xs, e, hx, T, hf, h1, k⟩ => ?_
  subst e
  refine ⟨_, hbody cdv A outer s H E p, a, C, [], xs, H, rfl, T, hf, h1, hx, fun j x hj => ?_, by simpa using hl, fun _ => hne, .inl ⟨rfl, rfl⟩, fun d H' a1 a2 a3 a4 a5 => k d H' a1 a2 a3 (by simpa using a4) a5⟩
  have hjl : j < xs.length := (List.getElem?_eq_some_iff.mp hj).1
  show (L2.start ("self" :: fs) (.ref a :: xs))[1 + j]? = _
  unfold L2.start
  rw [List.getElem?_append_left (by simp; omega), List.getElem?_map, show 1 + j = j + 1 by omega, List.getElem?_cons_succ, hj]
  rfl
theorem passHot {X : Cx} : Passes (L2.CX X.prog X.w) X (fun _ _ _ => False) := fun _ _ _ _ _ _ _ h => by obtain ⟨_, _, _, _, _, _, _, _, _, _, _, _, z⟩ := h; exact z.elim
section
variable {X : Cx} {κ : Nat → Kd} {E : EX} {es : List Expr} {e : Expr} {pos pos2 p cp : Pos} {x : Str} {j : Nat}
/-- raise C(e, ..) from None -/
theorem ds_raiseH {fs : List Str} {ma : Env → Res (List D)} {n : Nat} (T : XClsH X.prog X.w X.K X.mg X.base x fs) (hot : L2H.HotC X) (tk : L2.Takes X (fun cls d σ H => E.err σ cls d H)) (hr : L2H.RoomH n X.A) (hn : 2 ≤ n) (hg : Gl X x) (ha : DA X κ E (e :: es) ma) (hz : fs.length ≤ 900)
    (hdb : (x == ("__debug__" : Str)) = false := by decide) (he : starEach (e :: es) X.env = (false, eval e X.env) :: starEach es X.env := by rfl) (hpl : (backTo pos (starEach es X.env)).any (·.1) = false := by rfl) :
    DS X κ E (.Raise (some (.Call (.Name x p) (e :: es) [] pos)) (some (.Constant .none j cp)) pos2) (mRaise x fs ma) := by
  obtain ⟨C, fI, fd, hm, hC, hf, iC, tI, hb, F1⟩ := T.ex
  refine (L2H.ps_raiseHN hot tk (L2H.pmk5_oexH hC iC tI F1 (hr.mono hn) hot hb passHot hg hm ha hdb he hpl)).imp fun Dn σ H ⟨F0, H0, F, ρ, S, k⟩ => ⟨F0, H0, F, ρ, S, Res.sat_imp (out_sat k) (fun ds _ k vs F' H' x' r => ?_) fun x z => err_back S z⟩
  by_cases hl : ds.length = fs.length
  · simp only [if_pos hl] at k
    have hv : vs.length = fs.length := r.length.trans hl
    refine ⟨by omega, fun a na => ⟨a, C, vs, by simp, hv, hC, hf, upd_same, fun d H2 h1 h2 h3 h4 h5 => ⟨rfl, d, (fs.zip vs).reverse, h3, h4, by rw [upd_ne h2] at h1; exact h1, ?_⟩⟩⟩
    have hnd : H' d = none := by rw [upd_ne h2] at h1; exact h1
    have e2 : upd (del H2 a) d (.xd (fs.zip vs).reverse) = upd H' d (.xd (fs.zip vs).reverse) := by
      funext b
      by_cases z : b = d
      · rw [z, upd_same, upd_same]
      · rw [upd_ne z, upd_ne z]
        by_cases z2 : b = a
        · rw [z2, del_same, na]
        · rw [del_ne z2, h5 b z2 z, upd_ne z2]
    rw [e2]
    have x2 : Ext F' H' (upd F' d (.xd (fs.zip vs).reverse)) (upd H' d (.xd (fs.zip vs).reverse)) := Ext.new x'.s hnd
    refine (k σ) _ _ (.ref C) (some d) (S.ext.trans (x'.trans x2)) ⟨C, hm, rfl, .inr ⟨d, _, rfl, upd_same, fun f dd hd => ?_⟩⟩
    have := zip_look (fs := fs) (acc := []) (acd := []) (r.mono x2.f) (fun f d h => by cases h) f dd (by simpa using hd)
    simpa using this
  · simp only [if_neg hl] at k
    exact k.elim
end
/-! ### the same as before for bodies whose exceptions have a context -/
section
variable {X : Cx}
theorem try_walkZ {body : List Stmt} {h0 : ExceptHandler} {hds : List ExceptHandler} {l : List (Value × Option Nat × Sui)} {pos : Pos} {tb : WX → TS} {Wout : WX} (hs : X.stack = X.env :: X.outer) (hf : X.env.frame = some X.env.locals) (hN : X.N.Nodup) (tk : L2.Takes X Wout)
    (hb : ∀ (W : WX) (pn : List (Addr × Obj)) (xe : Value → Shared → Prop), L2.Takes (X.tr pn xe) W → PSs (X.tr pn xe) body (tb W)) (hh : HdsM X (h0 :: hds) l) : PS X (.Try body (h0 :: hds) [] [] pos) (fun D σ H => tb (wHm X.K Wout D l) D σ H) := ⟨fun pins s σ H D I h => by
  have ok := I.ok
  have hfr : X.A.frames = some (X.env :: X.outer) := (congrArg some hs).symm ▸ ok.frames
  refine wpAny_Try_except (wpAny_mono ((hb (wHm X.K Wout D l) (X.pn ++ pins) (fun e s1 => wpAny (model X.prog X.w) X.A (noteFrame e X.env) (fun _ s2 => wpAny (model X.prog X.w) X.A (setFlight e none) (fun _ s3 => wpAny (model X.prog X.w) X.A (handleBy e X.env (h0 :: hds)) (SP X pins D) X.xe s3) X.xe s2) X.xe s1) (fun u s' xx => ?_)).run [] s σ H D (I.toTry _) h) (fun fl s1 q => ?_) fun _ _ he => he)
  · obtain ⟨a, B, sI, pins', σ', H', cls, d, rfl, J', nb, up, sky, na, os, ag, w⟩ := xx
    have J : Inv X pins σ' H' sI := J'.ofTry ok
    refine L2.Sky.land Zc.steady hfr hf (show Sky B (X.env :: X.outer) a (Zc cls d) X.env.locals s'.heap from hs ▸ sky) fun h3 fl3 up3 => ?_
    have J3 : Inv X pins σ' H' { s' with heap := h3 } := J.landed nb fl3.1 (up.trans up3) os ag
    obtain ⟨o3, vs3, he3, hz3, hd3⟩ := fl3.there
    have nfr := not_framed fl3.2.2.1 he3 hd3
    have nL : a ≠ X.env.locals := fun z => nfr (List.mem_filterMap.mpr ⟨X.env, List.mem_cons_self, hf.trans (congrArg some z.symm)⟩)
    have nF : a ∉ X.fs := fun hm => let ⟨e, he, q⟩ := List.mem_filterMap.mp hm; nfr (List.mem_filterMap.mpr ⟨e, List.mem_cons_of_mem _ he, q⟩)
    have S3 := J3.suite he3 hd3 na nL nF
    have LT : PySem.W.Looks (model X.prog X.w) h3 (typeOf (.ref a)) cls := fun _ _ _ _ k q => wpAny_typeOf_ref (k _ _ he3) (hz3.1.symm ▸ q)
    have go : ∀ {ds : List ExceptHandler} {m : List (Value × Option Nat × Sui)}, HdsM X ds m → wHm X.K Wout D m cls d σ' H' → wpAny (model X.prog X.w) X.A (handleBy (.ref a) X.env ds) (SP X pins D) X.xe { s' with heap := h3 } := by
      intro ds m hk
      induction hk with
      | nil =>
        refine fun w => wpAny_handleBy_nil ?_
        obtain ⟨_, _, _, oe, vs, T, oT, ts', he, hz, hd, h1, hr⟩ := id fl3
        unfold PySem.passOn
        refine wpAny_bind (wpAny_field he hd h1 ?_)
        rw [if_neg (show ¬ ((Value.ref T == Value.none) = true) by simp)]
        have fin : wpAny (model X.prog X.w) X.A (setFlight (.ref a) X.env.frame) (fun _ s4 => wpAny (model X.prog X.w) X.A (throw (.ref a) : Sem Flow) (SP X pins D) X.xe s4) X.xe { s' with heap := h3 } := by
          rw [hf]
          exact HandSPX.setFlight_upZ fl3 fun h4 hh4 up4 => wpAny_throw (tk _ _ ⟨a, B, sI, pins, σ', H', cls, d, rfl, J, nb, (up.trans up3).trans up4, .inr (.inr (hs.symm ▸ hh4)), na, os, ag, w⟩)
        first | exact wpAny_bind (wpAny_pure (wpAny_bind fin)) | exact wpAny_bind fin
      | @named x n c i ts b0 suite np hp hds2 l2 hi hl hc hsu r ih =>
        rintro ⟨b, hb1, hyes, hno⟩
        have LM := PySem.W.exm_one (M := model X.prog X.w) (J3.kIn) LT hb1
        have test : ∀ {Q : Value → Shared → Prop} {E : Value → Shared → Prop}, Q c { s' with heap := h3 } → wpAny (model X.prog X.w) (X.A.mark (some (.ref a))) (eval (.Name x np) X.env) Q E { s' with heap := h3 } := fun {Q E} q => by
          obtain ⟨hg, hdbg, hm | ⟨hm, hv, hnn⟩⟩ := hc
          · exact ld_glob (X := X.suite a ((a, o3) :: (X.pn ++ pins))) S3 hg hm q hdbg
          · exact ld_blt (X := X.suite a ((a, o3) :: (X.pn ++ pins))) S3 hg hm hv q hnn hdbg
        refine wpAny_handleBy_cons (codeAny_handlers_test (test (LM.here ?_))) fun q => nomatch q
        cases b with
        | false => exact ih (hno rfl)
        | true =>
          refine codeAny_handlers_suite_as (HandSPX.lands_againZ fl3 fun h4 fl4 up4 => ?_)
          have J4 : Inv X pins σ' H' { s' with heap := h4 } := J.landed nb fl4.1 ((up.trans up3).trans up4) os ag
          obtain ⟨o4, vs4, he4, hz4, hd4⟩ := fl4.there
          refine store_ok (X := X.suite a ((a, o4) :: (X.pn ++ pins))) (v := .ref a) (J4.suite he4 hd4 na nL nF) hN hi (.inl hl) rfl (fun s5 S5 => ?_) (.inr hl)
          refine wpAny_mono ((hsu a o4 cls d (X.pn ++ pins) hz4 ⟨_, hd4⟩).run [] s5 _ H' _ S5 (hyes rfl a na)) (fun f s6 q => ?_) fun _ _ z => z.elim
          have fin : ∀ {σ6 : L2.St} {H6 : Hp} {Q : Shared → Prop}, Inv (X.suite a ((a, o4) :: (X.pn ++ pins))) [] σ6 H6 s6 → (∀ s7, Inv X pins (σ6.set i none) H6 s7 → Q s7) → wpAny (model X.prog X.w) X.A (do bindName X.env n .none; unbindBehindTheSuite X.env n hp) (fun _ s7 => Q s7) X.xe s6 :=
            fun S6 hq => gone_ok (S6.unsuite ok) hN hi hl hq
          cases f with
          | next => obtain ⟨σ6, H6, S6, q6⟩ := q; exact fin S6 fun s7 J7 => ⟨_, _, J7, q6⟩
          | brk => obtain ⟨σ6, H6, S6, q6⟩ := q; exact fin S6 fun s7 J7 => ⟨_, _, J7, q6⟩
          | cont => obtain ⟨σ6, H6, S6, q6⟩ := q; exact fin S6 fun s7 J7 => ⟨_, _, J7, q6⟩
          | ret u => obtain ⟨v6, σ6, H6, S6, r6, q6⟩ := q; exact fin S6 fun s7 J7 => ⟨_, _, _, J7, r6, q6⟩
      | @bare x c ts b0 suite np hp hds2 l2 hc hsu r ih =>
        rintro ⟨b, hb1, hyes, hno⟩
        have LM := PySem.W.exm_one (M := model X.prog X.w) (J3.kIn) LT hb1
        have test : ∀ {Q : Value → Shared → Prop} {E : Value → Shared → Prop}, Q c { s' with heap := h3 } → wpAny (model X.prog X.w) (X.A.mark (some (.ref a))) (eval (.Name x np) X.env) Q E { s' with heap := h3 } := fun {Q E} q => by
          obtain ⟨hg, hdbg, hm | ⟨hm, hv, hnn⟩⟩ := hc
          · exact ld_glob (X := X.suite a ((a, o3) :: (X.pn ++ pins))) S3 hg hm q hdbg
          · exact ld_blt (X := X.suite a ((a, o3) :: (X.pn ++ pins))) S3 hg hm hv q hnn hdbg
        refine wpAny_handleBy_cons (codeAny_handlers_test (test (LM.here ?_))) fun q => nomatch q
        cases b with
        | false => exact ih (hno rfl)
        | true =>
          refine codeAny_handlers_suite (HandSPX.lands_againZ fl3 fun h4 fl4 up4 => ?_)
          have J4 : Inv X pins σ' H' { s' with heap := h4 } := J.landed nb fl4.1 ((up.trans up3).trans up4) os ag
          obtain ⟨o4, vs4, he4, hz4, hd4⟩ := fl4.there
          refine wpAny_mono ((hsu a o4 cls d (X.pn ++ pins) hz4 ⟨_, hd4⟩).run [] _ _ H' _ (J4.suite he4 hd4 na nL nF) (hyes rfl a na)) (fun f s6 q => ?_) fun _ _ z => z.elim
          cases f with
          | next => obtain ⟨σ6, H6, S6, q6⟩ := q; exact ⟨_, _, S6.unsuite ok, q6⟩
          | brk => obtain ⟨σ6, H6, S6, q6⟩ := q; exact ⟨_, _, S6.unsuite ok, q6⟩
          | cont => obtain ⟨σ6, H6, S6, q6⟩ := q; exact ⟨_, _, S6.unsuite ok, q6⟩
          | ret u => obtain ⟨v6, σ6, H6, S6, r6, q6⟩ := q; exact ⟨_, _, _, S6.unsuite ok, r6, q6⟩
    exact go hh w
  · cases fl with
    | next => obtain ⟨σ', H', J', q⟩ := q; exact wpAny_execs_nil ⟨σ', H', J'.ofTry ok, q⟩
    | brk => obtain ⟨σ', H', J', q⟩ := q; exact ⟨σ', H', J'.ofTry ok, q⟩
    | cont => obtain ⟨σ', H', J', q⟩ := q; exact ⟨σ', H', J'.ofTry ok, q⟩
    | ret u => obtain ⟨v, σ', H', J', r, q⟩ := q; exact ⟨v, σ', H', J'.ofTry ok, r, q⟩⟩
end
section
variable {X : Cx} {κ : Nat → Kd} {E : EX} {sts : List Stmt}
theorem ds_tryGZ {h0 : ExceptHandler} {hds : List ExceptHandler} {l : List SutM} {pos : Pos} {tb : Tbl} {me : Env → Res D} {mfin : D → Env → Out} {fin : Ends → V → L2.St → Hp → Prop}
    (hb : ∀ (W : WX) (pn : List (Addr × Obj)) (xe : Value → Shared → Prop), L2.Takes (X.tr pn xe) W → PSs (X.tr pn xe) sts (fun D σ H => rdE X.mg X.K κ ⟨WE W, E.ret⟩ me σ H fun v H' => fin D v σ H'))
    (hfin : ∀ (Dn : Ends) (F0 H0 F H : Hp) (σ : L2.St) (ρ : Env) (v : V) (d : D), Stt X.K κ F0 H0 F H σ ρ → Rp X.K F v d → OutOk X.mg X.K κ E F0 H0 F H Dn (mfin d ρ) → fin Dn v σ H)
    (hd : HdsMD X κ E (h0 :: hds) l) (ht : TblOk X.K X.mg tb) (hcl : ∀ n ∈ l, ∃ cv, X.mg n.cls = some cv) (hN : X.N.Nodup) (tk : L2.Takes X (fun cls d σ H => E.err σ cls d H)) (hs : X.stack = X.env :: X.outer := by rfl) (hf : X.env.frame = some X.env.locals := by rfl) :
    DS X κ E (.Try sts (h0 :: hds) [] [] pos) (mTryM tb me mfin l) := by
  obtain ⟨l', h⟩ := hds_ofM hd ht
  obtain ⟨h1, h2⟩ := h fun _ => hcl
  refine (try_walkZ hs hf hN tk hb h1).imp fun Dn σ H ⟨F0, H0, F, ρ, S, k⟩ => ⟨F0, H0, F, ρ, S, ?_⟩
  unfold mTryM at k
  cases q : me ρ with
  | ok d =>
    simp only [q] at k
    exact fun v F' H' x r => hfin Dn F0 H0 F' H' σ ρ v d (S.mono x) r (OutOk.mono (H := H) x.f k)
  | err y =>
    simp only [q] at k
    exact fun F' H' c dd x rep => h2 Dn F0 H0 F' H' σ ρ y c dd (S.mono x) rep (OutOk.mono (H := H) x.f k)
  | stk => simp only [q] at k; exact k.elim
/-- try: x = e -/
theorem ds_tryAZ {e : Expr} {x : Str} {i : Nat} {px ps : Pos} {h0 : ExceptHandler} {hds : List ExceptHandler} {l : List SutM} {pos : Pos} {tb : Tbl} {me : Env → Res D} (hk : κ i = .im) (hi : X.N[i]? = some x) (hx : Loc X.env.scope x) (he : ∀ (W : WX) (pn : List (Addr × Obj)) (xe : Value → Shared → Prop), L2.Takes (X.tr pn xe) W → DE (X.tr pn xe) κ ⟨WE W, E.ret⟩ e me)
    (hd : HdsMD X κ E (h0 :: hds) l) (ht : TblOk X.K X.mg tb) (hcl : ∀ n ∈ l, ∃ cv, X.mg n.cls = some cv) (hN : X.N.Nodup) (tk : L2.Takes X (fun cls d σ H => E.err σ cls d H)) (hs : swapsWith e (some (.Name x px)) ps.line X.env = pure false := by rfl)
    (hf : X.fn x = true ∨ X.env.scope.names.lookup x = some .local := by first | exact .inl rfl | exact .inr rfl | assumption) (hst : X.stack = X.env :: X.outer := by rfl) (hfr : X.env.frame = some X.env.locals := by rfl) :
    DS X κ E (.Try [.Assign [.Name x px] e ps] (h0 :: hds) [] [] pos) (mTryM tb me (fun d ρ => .nx (ρ.set i (some d))) l) :=
  ds_tryGZ (fin := fun D v σ H => D.nx (σ.set i (some v)) H) (fun W pn xe tk => pss_one (ps_set (i := i) (X := X.tr pn xe) hN hi hx (he W pn xe tk) hs hf)) (fun Dn F0 H0 F H σ ρ v d S r k => k _ F H (Ex.refl F) (S.set hk r)) hd ht hcl hN tk hst hfr
/-- try: what returns -/
theorem ds_trySZ {h0 : ExceptHandler} {hds : List ExceptHandler} {l : List SutM} {pos : Pos} {tb : Tbl} {me : Env → Res D} (he : ∀ (W : WX) (pn : List (Addr × Obj)) (xe : Value → Shared → Prop), L2.Takes (X.tr pn xe) W → DR (X.tr pn xe) κ ⟨WE W, E.ret⟩ sts me)
    (hd : HdsMD X κ E (h0 :: hds) l) (ht : TblOk X.K X.mg tb) (hcl : ∀ n ∈ l, ∃ cv, X.mg n.cls = some cv) (hN : X.N.Nodup) (tk : L2.Takes X (fun cls d σ H => E.err σ cls d H)) (hR : ∀ H0 d v F H, Rp X.K F v d → E.ret H0 d v F H := by exact fun _ _ _ _ _ h => h) (hst : X.stack = X.env :: X.outer := by rfl) (hfr : X.env.frame = some X.env.locals := by rfl) :
    DS X κ E (.Try sts (h0 :: hds) [] [] pos) (mTryM tb me (fun d _ => .rt d) l) :=
  ds_tryGZ (fin := fun D v _ H => D.rt v H) (fun W pn xe tk => he W pn xe tk) (fun Dn F0 H0 F H σ ρ v d S r k => k v F H S.ext (hR _ _ _ _ _ r)) hd ht hcl hN tk hst hfr
/-- try: e -/
theorem ds_tryEZ {e : Expr} {ps : Pos} {h0 : ExceptHandler} {hds : List ExceptHandler} {l : List SutM} {pos : Pos} {tb : Tbl} {me : Env → Res D} (he : ∀ (W : WX) (pn : List (Addr × Obj)) (xe : Value → Shared → Prop), L2.Takes (X.tr pn xe) W → DE (X.tr pn xe) κ ⟨WE W, E.ret⟩ e me)
    (hd : HdsMD X κ E (h0 :: hds) l) (ht : TblOk X.K X.mg tb) (hcl : ∀ n ∈ l, ∃ cv, X.mg n.cls = some cv) (hN : X.N.Nodup) (tk : L2.Takes X (fun cls d σ H => E.err σ cls d H)) (hs : swapsWith e none ps.line X.env = pure false := by rfl) (hst : X.stack = X.env :: X.outer := by rfl) (hfr : X.env.frame = some X.env.locals := by rfl) :
    DS X κ E (.Try [.Expr e ps] (h0 :: hds) [] [] pos) (mTryM tb me (fun _ ρ => .nx ρ) l) :=
  ds_tryGZ (fin := fun D _ σ H => D.nx σ H) (fun W pn xe tk => pss_one (ps_expr (he W pn xe tk) hs)) (fun Dn F0 H0 F H σ ρ v d S r k => k _ F H (Ex.refl F) S) hd ht hcl hN tk hst hfr
end
theorem de_lift {X : Cx} {κ : Nat → Kd} {E : EX} {e : Expr} {m : Env → Res D} {a : Addr} {pn : List (Addr × Obj)} {xe : Value → Shared → Prop} (h : DE (X.suite a pn) κ E e m) : DE (suX X a xe pn) κ E e m :=
  ⟨fun pins s σ H Q I q => wpAny_mono (h.run pins s σ H Q (Inv.wish (X := suX X a xe pn) I fun _ _ => False) q) (fun v s' ⟨x, H', J, r, k⟩ => ⟨x, H', Inv.wish (X := X.suite a pn) J xe, r, k⟩) fun _ _ z => z.elim⟩
theorem no_cxZ {P : Program} {w : World} {H : Hp} {s : Shared} {e : Value} {s' : Shared} (h : L2.CX P w [] H s (fun _ _ _ => False) e s') : False := by
  obtain ⟨_, _, _, _, _, _, _, _, _, _, _, _, z⟩ := h
  exact z
theorem sg_hndlX {tb : Tbl} {x : Exn} : ∀ {l : List SutM}, StrM l → ∀ ρ, (∀ ρ', hndlX tb l x ρ ≠ .bk ρ') ∧ ∀ ρ', hndlX tb l x ρ ≠ .ct ρ'
  | [], _, ρ => sg_err
  | q :: l, h, ρ => by
    have ih := sg_hndlX (tb := tb) (x := x) (l := l) (fun z hz => h z (by simp [hz])) ρ
    have hq := h q (by simp) x.cls
    unfold hndlX
    cases tb x.cls q.cls with
    | none => exact sg_stk
    | some b =>
      cases b with
      | false => exact ih
      | true =>
        cases q.slot with
        | some i =>
          have := hq (ρ.set i (some (xD x.fs)))
          simp only
          generalize q.m x.cls (ρ.set i (some (xD x.fs))) = o at this ⊢
          cases o with
          | nx ρ' => exact sg_nx
          | bk ρ' => exact absurd rfl (this.1 ρ')
          | ct ρ' => exact absurd rfl (this.2 ρ')
          | rt d => exact sg_rt
          | err y => exact sg_err
          | stk => exact sg_stk
        | none => exact hq ρ
theorem sg_tryX {tb : Tbl} {me : Env → Res D} {fin : D → Env → Out} {l : List SutM} (hf : ∀ d, Straight (fin d)) (hl : StrM l) : Straight (mTryX tb me fin l) := fun ρ => by
  unfold mTryX
  cases me ρ with
  | ok d => exact hf d ρ
  | err x => exact sg_hndlX hl ρ
  | stk => exact sg_stk
end WD

/-! defs that are called within an except clause -/
namespace WD
open PySem PySem.Spec PyProof.Rows L2
open Evl (Ex Ex.refl Ex.trans Ex.new Ex.mut ex_l ex_t fresh_back)
theorem roomH_u {k : Nat} {A : Around} (r : L2H.RoomH k A) : A.units + 65 < cLine := by have := r.un; omega
theorem _root_.L2.Room.u65 {k : Nat} {A : Around} (r : Room k A) : A.units + 65 < cLine := by have := r.un; omega
theorem roomH_v {k : Nat} {A : Around} (r : L2H.RoomH k A) : A.units + 64 < cLine := by have := r.un; omega
section
variable {X : Cx} {κ : Nat → Kd} {E : EX} {a b : Expr} {pos : Pos} {ma mb : Env → Res D}
theorem de_inYU (hu : X.A.units + 65 < cLine) (ha : DB X κ E a ma) (hb : DB X κ E b mb) (hm : behindInMarks .In b = false := by rfl) : DE X κ E (.Compare a [.In] [b] pos) (mBin inY ma mb) := de_cmp (op_inY hu) (op2_inY _) (inYf_ne _) ha hb hm
theorem de_notInYU (hu : X.A.units + 65 < cLine) (ha : DB X κ E a ma) (hb : DB X κ E b mb) (hm : behindInMarks .NotIn b = false := by rfl) : DE X κ E (.Compare a [.NotIn] [b] pos) (mBin notInY ma mb) := de_cmp (op_notInY hu) (op2_inY _) (inYf_ne _) ha hb hm
theorem dt_inYU (hu : X.A.units + 65 < cLine) (ha : DB X κ E a ma) (hb : DB X κ E b mb) (hm : behindInMarks .In b = false := by rfl) : DT X κ E (.Compare a [.In] [b] pos) (mTru (mBin inY ma mb)) := dt_cmp (op_inY hu) (op2_inY _) (inYf_ne _) (inYf_b _) ha hb hm
theorem dt_notInYU (hu : X.A.units + 65 < cLine) (ha : DB X κ E a ma) (hb : DB X κ E b mb) (hm : behindInMarks .NotIn b = false := by rfl) : DT X κ E (.Compare a [.NotIn] [b] pos) (mTru (mBin notInY ma mb)) := dt_cmp (op_notInY hu) (op2_inY _) (inYf_ne _) (inYf_b _) ha hb hm
end
section
variable {prog : Program} {w : World} {A : Around} {E : Value → Shared → Prop} {s : Shared}
/-- the end of a tuple's walk, an exception being handled -/
theorem tuple_ends_hot {it t x1 : Addr} {i : Nat} {items : Array Value} {Q : Option Value → Shared → Prop} (hot : HotX.HotAt A x1 s.heap) (hit : s.heap.IsTupleIter it t i) (ht : s.heap.IsTuple t items) (hx : items[i]? = none) (ne : x1 ≠ it)
    (hQ : ∀ h', Heap.ExtBut it s.heap h' → Q none { s with heap := h' }) : wpAny (model prog w) A (pyNext (.ref it)) Q E s := by
  obtain ⟨oi, hoi, hci, hdi⟩ := id hit
  obtain ⟨ot, hot', _, nt, hdt⟩ := ht
  obtain ⟨hh, o1, v1, h1, d1, c1⟩ := hot
  unfold pyNext
  refine wpAny_bind (wpAny_attempt (wpAny_callSpecial?_slot (name := Str.ofString "__next__") hit.typeIs F.slot_tuple_iterator_next (wpAny_call_entry F.slot_tuple_iterator_next hit.typeIs F.entry_tuple_iterator_next ?_ (F.args_tuple_iterator_next_1 _))))
  show wpAny _ _ (field (.ref it) 0 >>= _) _ _ s
  refine wpAny_bind (wpAny_field hoi hdi (x := .ref t) rfl ?_)
  show wpAny _ _ (if (Value.ref t == Value.none) = true then _ else _) _ _ s
  have nn : ¬ ((Value.ref t == Value.none) = true) := Bool.false_ne_true
  rw [if_neg nn]
  show wpAny _ _ (field (.ref it) 1 >>= _) _ _ s
  refine wpAny_bind (wpAny_field hoi hdi (x := .int i 0) rfl (wpAny_bind (wpAny_seqItems hot' hdt ?_)))
  simp only [Int.toNat_natCast, hx]
  refine wpAny_bind (wpAny_rule (wpAny_bind (wpAny_setField hoi hdi (by simp) ?_)))
  show wpAny _ _ (newExc (.type "StopIteration") [] >>= _) _ _ _
  refine wpAny_bind ?_
  simp only [newExc, newTuple]
  refine wpAny_bind (wpAny_newObj_type (wpAny_bind (m := firstArgMember _ _) (wpAny_of_eq (a := Value.none) (by first | rfl | (simp only [firstArgMember]; rfl)) (wpAny_newObj_type ?_ (by size_fits)))) (by size_fits))
  have h1u : (s.heap.update it (Obj.mapFields (·.setIfInBounds 0 Value.none))).get? x1 = some o1 := by rw [Heap.get?_update_other _ _ (Ne.symm ne)]; exact h1
  have sb : Heap.ExtBut it s.heap (s.heap.update it (Obj.mapFields (·.setIfInBounds 0 Value.none))) := (Heap.SameBut.update ..).extBut
  generalize s.heap.update it (Obj.mapFields (·.setIfInBounds 0 Value.none)) = hU at h1u sb ⊢
  have p1 := Heap.get?_push_of_some { cls := .type "tuple", dict := none, data := .seq #[] } h1u
  have lt1 := Heap.lt_size p1
  refine HotX.raiseNew_hot ⟨hh, o1, v1, Heap.get?_push_of_some _ p1, d1, c1⟩ (Nat.ne_of_lt lt1) (Heap.get?_push_size _ rfl) rfl (by first | (simp; done) | (simp; omega) | (simp only [Array.size_append]; simp; omega)) ?_
  refine wpAny_bind (wpAny_isInstance (T := "StopIteration") (b := true) ⟨_, Heap.get?_update_self _ (Heap.get?_push_size _ rfl) rfl, rfl⟩ isSubtype_stop (wpAny_pure (hQ _ ?_)))
  intro b o hb e
  have e2 := Heap.get?_push_of_some { cls := .type "tuple", dict := none, data := .seq #[] } (sb b o hb e)
  rw [Heap.get?_update_other _ _ (Nat.ne_of_gt (Heap.lt_size e2))]
  exact Heap.get?_push_of_some _ e2
end
theorem turn_tupH {P : Program} {w : World} {K : PySem.W.Frag} {tg : Expr} (a it : Addr) : L2H.TurnH P w K tg (Itt K a) [it] it (fun i h => h.IsTupleIter it a i) where
  mem := List.mem_singleton.mpr rfl
  obj := fun i h st b hb => by
    cases List.mem_singleton.mp hb
    obtain ⟨o, e, c, d⟩ := st
    refine ⟨o, e, fun v z => ?_⟩
    rw [d] at z
    cases z
  keep := fun i h h' st k => st.at fun o e => k it (List.mem_singleton.mpr rfl) o e
  item := by
    intro X e1 e2 e3 hot i pins s σ H E I hf st ⟨xs, x, hq, hx⟩
    subst e1 e2 e3
    obtain ⟨its, rv, p, hz⟩ := I.tuple hq
    obtain ⟨u, hu, ru⟩ := rv.get hx
    obtain ⟨f0, f1, f2, f3, f4, f5⟩ := hf it (List.mem_singleton.mpr rfl)
    have tup : s.heap.IsTuple a its.toArray := p
    refine wpAny_pyNext_tuple_item st tup (x := u) (by simpa using hu) fun h' st' sb => ?_
    have J : Inv X pins σ H { s with heap := h' } := I.turned (t' := s.toks) (fun b o hb e => (sb.2 b hb).trans e) f0 f1 f3 f4 f5
    obtain ⟨o, e, c, d⟩ := id st'
    have yl : (Itt X.K a).yld i H x H := ⟨rfl, fun ys hy => by rw [I.tuple_inj hy hq]; exact hx⟩
    exact ⟨u, rfl, go_of (s := { s with heap := h' }) e c d (by decide) ⟨x, H, J, ru, yl, st', fun b hb => (hf b hb).1⟩⟩
  done := by
    intro X e1 e2 e3 hot i pins s σ H E I hf st ⟨xs, hq, hx⟩
    subst e1 e2 e3
    obtain ⟨its, rv, p, hz⟩ := I.tuple hq
    obtain ⟨f0, f1, f2, f3, f4, f5⟩ := hf it (List.mem_singleton.mpr rfl)
    have tup : s.heap.IsTuple a its.toArray := p
    have out : its.toArray[i]? = none := by have := rv.length; simp; omega
    obtain ⟨q, ⟨hq1, v1, d1, c1⟩, hq2⟩ := id hot
    obtain ⟨oi, hoi, hci, hdi⟩ := id st
    have pin1 := (I.pin q (List.mem_append_left _ hq2))
    have ne : q.1 ≠ it := fun z => by
      have h2 := pin1.1
      rw [z, hoi] at h2
      cases h2
      rw [hdi] at d1
      cases d1
      simp at c1
    exact tuple_ends_hot ⟨hq1, q.2, v1, pin1.1, d1, c1⟩ st tup out ne fun h' eb => ⟨rfl, I.turned (t' := s.toks) (fun b o hb e => eb b o hb e) f0 f1 f3 f4 f5⟩
  self := fun _ _ _ _ _ st h => wpAny_pyIter_tupleiter st h
section
variable {X : Cx} {κ κe : Nat → Kd} {E : EX} {e tg it : Expr} {es : List Expr} {pos : Pos} {sts : List Stmt} {ma : Env → Res D}
theorem pi_tupH {te : TE} (h : PE X e te) : L2H.PIH X tg e (iTup X.K te) := ⟨fun pins s σ H R I q => thn (h.run pins s σ H _ I q) fun v s1 ⟨x, H1, I1, r1, a, ex, ⟨xs, hq⟩, k⟩ => by
  subst ex
  cases r1
  obtain ⟨its, rv, p, hz⟩ := I1.tuple hq
  have tup : s1.heap.IsTuple a its.toArray := p
  refine wpAny_pyIter_tuple tup ⟨s1.heap.objs.size, [s1.heap.objs.size], _, _, H1, rfl, I1.kept (t' := s1.toks) fun b o z => Heap.get?_push_of_some _ z, turn_tupH a _, ⟨_, Heap.get?_push_size _ rfl, rfl, rfl⟩, fun b hb => ?_, k⟩
  cases List.mem_singleton.mp hb
  exact I1.fpOk (Nat.le_refl _) (I1.hok.fresh (Nat.le_refl _))⟩
def itT : D → Res (List D)
  | .tuple ds => .ok ds
  | _ => .stk
def mItT (m : Env → Res D) : Env → Res (List D) := fun ρ => (m ρ).bind itT
def DIH (X : Cx) (κ : Nat → Kd) (E : EX) (tg it : Expr) (m : Env → Res (List D)) : Prop := L2H.PIH X tg it (rdI X.mg X.K κ E m)
theorem di_tupH (h : DE X κ E e ma) : DIH X κ E tg e (mItT ma) := ⟨fun pins s σ H R I ⟨F0, H0, F, ρ, S, k⟩ => by
  have k := Res.sat_bind k
  cases hd : ma ρ with
  | err x =>
    refine (pi_tupH h).run pins s σ H R I ⟨F0, H0, F, ρ, S, ?_⟩
    rw [hd] at k ⊢
    exact k
  | stk => rw [hd] at k; exact k.elim
  | ok d =>
    rw [hd] at k
    cases d with
    | tuple ds =>
      refine (pi_tupH h).run pins s σ H R I ⟨F0, H0, F, ρ, S, ?_⟩
      rw [hd]
      intro v F' H' x r
      cases r with
      | @tup a vs _ h1 h2 => exact ⟨a, rfl, ⟨vs, ex_t x.s h1⟩, k _ F' H' x (walkd_at walk_tup h2 (fun F2 H2 p s => ex_t (p.trans s) h1) fun F2 H2 p => p)⟩
    | _ => exact k.elim⟩
theorem ds_forH {is : List Nat} {mi : Env → Res (List D)} {g : D → Env → Option Env} {b : Env → Out} (hp : PassesOwn (model X.prog X.w) X.A X.env X.xe) (hc : L2H.HotC X) (hi : DIH X κ E tg it mi) (hg : DG X κ tg is g) (hb : DSs X κ E sts b)
    (hs : ∀ x, foldedSetIterable it X.env x = pure x := by intro _; rfl) : DS X κ E (.For tg it sts [] pos) (mFor mi g b) :=
  (L2H.ps_forH hp hc hi hg hb hs).imp for_read
/-- a def called there, its promise by a mirror -/
structure FnHot (P : Program) (w : World) (K : Frag) (mg : Mg) (base : Heap) (k : Nat) (x : Str) (ps : List Str) (m : List D → Res D) : Prop where
  ex : ∃ f fd, mg x = some (.ref f) ∧ PySem.W.keepIn K (.ref f) = true ∧ Binds K fd ps [] ∧ L2H.FnH P w K mg base (L2.CX P w) k f fd ps (spM mg K ps.length m)
theorem de_callHot {k : Nat} {x : Str} {p : Pos} {ps : List Str} {m : List D → Res D} {ma : Env → Res (List D)} (G : FnHot X.prog X.w X.K X.mg X.base k x ps m) (hr : L2H.RoomH k X.A) (hot : L2H.HotC X) (tk : L2.Takes X (fun cls d σ H => E.err σ cls d H)) (hg : Gl X x) (ha : DA X κ E (e :: es) ma)
    (hma : ∀ ρ ds, ma ρ = .ok ds → ds.length = ps.length)
    (hdb : (x == ("__debug__" : Str)) = false := by decide) (he : starEach (e :: es) X.env = (false, eval e X.env) :: starEach es X.env := by rfl) (hpl : (backTo pos (starEach es X.env)).any (·.1) = false := by rfl) :
    DE X κ E (.Call (.Name x p) (e :: es) [] pos) (mCall m ma) := by
  obtain ⟨f, fd, hm, hk, hb, hF⟩ := G.ex
  have px : ∀ σ, PassesAt (L2.CX X.prog X.w) X σ (E.err σ) := fun σ _ _ _ e s' I c => tk e s' (L2.XE.of_call I (fun _ _ _ h => h) c)
  refine (L2H.pe_callH hF hr hot hg hm hk hb px ha hdb he hpl).imp fun σ H Q ⟨F0, H0, F, ρ, S, c⟩ => ⟨F0, H0, F, ρ, S, Res.sat_imp (Res.sat_bind c) (fun ds q k vs F' H' x r => ?_) fun _ z => z⟩
  refine ⟨by rw [r.length, hma ρ ds q], F', ds, x.s, x.n S.nf, r, Res.sat_imp k (fun d _ k v F2 H2 x2 r2 => k v F2 H2 (x.trans x2) r2) fun _ z => z.mono x⟩
end
theorem hot_cxH {CX : CXT} {P : Program} {w : World} {K : PySem.W.Frag} {mg : Str → Option Value} {base : Heap} {N : List Str} {qual : Str} {scope : Scope} {f : Addr} {cd : Value} {A : Around} {outer : List PySem.Env} {s : Shared} {H : Hp} {E : XK} {p : Addr × Obj} (h : L2H.Hot1 A p) :
    L2H.HotC (L2H.cxH CX P w K mg base N qual scope f cd A outer s H E p) := ⟨p, ⟨h.1, h.2⟩, List.mem_singleton.mpr rfl⟩
theorem pownH {CX : CXT} {P : Program} {w : World} {K : PySem.W.Frag} {mg : Str → Option Value} {base : Heap} {N : List Str} {qual : Str} {scope : Scope} {f : Addr} {cd : Value} {A : Around} {outer : List PySem.Env} {s : Shared} {H : Hp} {E : XK} {p : Addr × Obj} :
    PassesOwn (model P w) (A.deeper (envOfC qual scope s.heap.objs.size f cd)) (envOfC qual scope s.heap.objs.size f cd) (L2H.cxH CX P w K mg base N qual scope f cd A outer s H E p).xe := PassesOwn.leaving
theorem fn_okHot {κ κe : Nat → Kd} {P : Program} {w : World} {K : Frag} {mg : Mg} {base : Heap} {x qual : Str} {st : Stmt} {f : Addr} {fd : FuncData} {N ps : List Str} {k n : Nat} {body : Env → Out} (F : Fun K x qual st f fd) (S : FnScope N ps (defScope st)) (hn : N.length = n)
    (hk : ∀ i, i < ps.length → κ i = .im)
    (hbody : ∀ (cdv : Value) (A : Around) (outer : List PySem.Env) (s : Shared) (H : Hp) (E : XK) (p : Addr × Obj), L2H.HotC (L2H.cxH (L2.CX P w) P w K mg base N qual (defScope st) f cdv A outer s H E p) → L2H.RoomH k (A.deeper (envOfC qual (defScope st) s.heap.objs.size f cdv)) →
      DSs2 (L2H.cxH (L2.CX P w) P w K mg base N qual (defScope st) f cdv A outer s H E p) κ κe (eX K E) (defBody st) body) : L2H.FnH P w K mg base (L2.CX P w) (k + 1) f fd ps (spM mg K ps.length (mkFn n body)) := by
  subst hn
  obtain ⟨oc, od, kV, doc, pm, an, cdv, ct, osl, rfl, lk, hcd⟩ := F.ex
  refine L2H.fn_ofH lk hcd S (fun vs H Q E h => h.1) fun A outer s H vs Q E p hot hr h => ⟨_, hbody cdv A outer s H E p (hot_cxH hot) hr, ?_⟩
  obtain ⟨hl, F, ds, e, nf, r, c⟩ := h
  refine ⟨F, H, F, _, fn_start e nf r hl hk, ?_⟩
  unfold mkFn at c
  generalize ho : body (ds.map some ++ List.replicate (N.length - ds.length) none) = o at c ⊢
  cases o with
  | nx ρ => exact fun σ' F' H' _ S' => c .non F' H' S'.ext .non
  | bk ρ => exact c.elim
  | ct ρ => exact c.elim
  | rt d => exact c
  | err x => exact fun _ => c
  | stk => exact c
end WD

/-! a < b <= c < d : three comparisons of whole numbers -/
namespace L2
open PySem PySem.Spec PyProof.Rows
section
variable {X : Cx} {a b c e : Expr} {ta tb tc td : TE} {pos : Pos}
def tChain3 (r r' r'' : R2) (ta tb tc td : TE) : TE := fun σ H Q => ta σ H fun x H1 => tb σ H1 fun y H2 => r x y H2 fun z H3 => ∃ k, z = .bl k ∧
  (if k = true then tc σ H3 fun w' H4 => r' y w' H4 fun z2 H5 => ∃ k2, z2 = .bl k2 ∧ (if k2 = true then td σ H5 fun w2 H6 => r'' w' w2 H6 Q else Q (.bl false) H5) else Q (.bl false) H3)
theorem pe_chain3 {op op' op'' : CmpOp} {r r' r'' : R2} (ho : OpR X (compareOp op) r) (ho' : OpR X (compareOp op') r') (ho2 : OpR X (compareOp op'') r'') (ha : PE X a ta) (hb : PE X b tb) (hc : PE X c tc) (hd : PE X e td)
    (hm : lastMarks [op, op', op''] [b, c, e] = false := by with_unfolding_all rfl) : PE X (.Compare a [op, op', op''] [b, c, e] pos) (tChain3 r r' r'' ta tb tc td) := by
  refine ⟨fun pins s σ H Q I h => ?_⟩
  refine Compare_chain (thn (ha.run pins s σ H _ I h) fun v s1 ⟨x, H1, I1, r1, q1⟩ => chain_link (thn (hb.run pins s1 σ H1 _ I1 q1) fun u s2 ⟨y, H2, I2, r2, q2⟩ =>
    thn (ho pins s2 σ H2 x y v u _ I2 r1 r2 q2) fun d s3 ⟨z, H3, I3, r3, k, e, q3⟩ => ?_)) hm
  subst e
  cases r3
  refine wpAny_truthy_bool ?_
  cases k with
  | false => exact ite_ff ⟨.bl false, H3, I3, rfl, q3⟩
  | true =>
    refine ite_tt (chain_link (thn (hc.run pins s3 σ H3 _ I3 q3) fun w' s4 ⟨z', H4, I4, r4, q4⟩ => thn (ho' pins s4 σ H4 y z' u w' _ I4 r2 r4 q4) fun d' s5 ⟨z2, H5, I5, r5, k2, e2, q5⟩ => ?_))
    subst e2
    cases r5
    refine wpAny_truthy_bool ?_
    cases k2 with
    | false => exact ite_ff ⟨.bl false, H5, I5, rfl, q5⟩
    | true => exact ite_tt (chain_last (thn (hd.run pins s5 σ H5 _ I5 q5) fun w2 s6 ⟨z3, H6, I6, r6, q6⟩ => ho2 pins s6 σ H6 z' z3 w' w2 Q I6 r4 r6 q6))
theorem pt_chain3 {op op' op'' : CmpOp} {r r' r'' : R2} (ho : OpR X (compareOp op) r) (ho' : OpR X (compareOp op') r') (ho2 : OpR X (compareOp op'') r'') (ha : PE X a ta) (hb : PE X b tb) (hc : PE X c tc) (hd : PE X e td)
    (hm : lastMarks [op, op', op''] [b, c, e] = false := by with_unfolding_all rfl) : PT X (.Compare a [op, op', op''] [b, c, e] pos) (tTest (tChain3 r r' r'' ta tb tc td)) := by
  refine ⟨fun pins s σ H Q I h => ?_⟩
  refine isTrue_chain (thn (ha.run pins s σ H _ I h) fun v s1 ⟨x, H1, I1, r1, q1⟩ => test_link (thn (hb.run pins s1 σ H1 _ I1 q1) fun u s2 ⟨y, H2, I2, r2, q2⟩ =>
    thn (ho pins s2 σ H2 x y v u _ I2 r1 r2 q2) fun d s3 ⟨z, H3, I3, r3, k, e, q3⟩ => ?_)) hm
  subst e
  cases r3
  refine wpAny_truthy_bool ?_
  cases k with
  | false =>
    obtain ⟨k', e', q'⟩ := q3
    cases e'
    exact ite_ff ⟨H3, I3, q'⟩
  | true =>
    refine ite_tt (test_link (thn (hc.run pins s3 σ H3 _ I3 q3) fun w' s4 ⟨z', H4, I4, r4, q4⟩ => thn (ho' pins s4 σ H4 y z' u w' _ I4 r2 r4 q4) fun d' s5 ⟨z2, H5, I5, r5, k2, e2, q5⟩ => ?_))
    subst e2
    cases r5
    refine wpAny_truthy_bool ?_
    cases k2 with
    | false =>
      obtain ⟨k', e', q'⟩ := q5
      cases e'
      exact ite_ff ⟨H5, I5, q'⟩
    | true =>
      refine ite_tt (test_last (thn (hd.run pins s5 σ H5 _ I5 q5) fun w2 s6 ⟨z3, H6, I6, r6, q6⟩ => thn (ho2 pins s6 σ H6 z' z3 w' w2 _ I6 r4 r6 q6) fun d2 s7 ⟨z4, H7, I7, r7, k3, e3, q7⟩ => ?_))
      subst e3
      cases r7
      exact wpAny_truthy_bool ⟨H7, I7, q7⟩
end
end L2
namespace WD
open PySem PySem.Spec PyProof.Rows L2
open Evl (Ex Ex.refl Ex.trans Ex.new Ex.mut ex_l ex_t fresh_back)
section
variable {X : Cx} {κ : Nat → Kd} {E : EX} {a b c e : Expr} {ma mb mc md : Env → Res D} {pos : Pos}
def mChain3 (p q r : Int → Int → Bool) (ma mb mc md : Env → Res D) : Env → Res D := fun ρ => (ma ρ).bind fun x => (mb ρ).bind fun y => (cmpD p x y).bind fun d => (boolD d).bind fun b =>
  if b = true then (mc ρ).bind fun z => (cmpD q y z).bind fun d => (boolD d).bind fun b2 => if b2 = true then (md ρ).bind fun w => cmpD r z w else .ok (.bool false) else .ok (.bool false)
@[simp] theorem mChain3_at (p q r : Int → Int → Bool) (a b c d : Env → Res D) (ρ : Env) : mChain3 p q r a b c d ρ = (a ρ).bind fun x => (b ρ).bind fun y => (cmpD p x y).bind fun d1 => (boolD d1).bind fun k => if k = true then (c ρ).bind fun z => (cmpD q y z).bind fun d1 => (boolD d1).bind fun k => if k = true then (d ρ).bind fun w => cmpD r z w else .ok (.bool false) else .ok (.bool false) := rfl
theorem chain3_read {p q r : Int → Int → Bool} {mg : Mg} {K : Frag} : ∀ σ H Q, rdE mg K κ E (mChain3 p q r ma mb mc md) σ H Q → tChain3 (rI0 fun i j => .bl (p i j)) (rI0 fun i j => .bl (q i j)) (rI0 fun i j => .bl (r i j)) (rdE mg K κ E ma) (rdE mg K κ E mb) (rdE mg K κ E mc) (rdE mg K κ E md) σ H Q :=
  fun σ H Q ⟨F0, H0, F, ρ, S, c⟩ => ⟨F0, H0, F, ρ, S, Res.sat_imp (Res.sat_bind c) (fun x _ k v1 F1 H1 x1 r1 =>
    ⟨F0, H0, F1, ρ, S.mono x1, Res.sat_imp (Res.sat_bind k) (fun y _ k v2 F2 H2 x2 r2 => by
      obtain ⟨i, j, rfl, rfl, k⟩ := cmpD_sat (Res.sat_bind k)
      cases r1
      cases r2
      refine ⟨i, j, rfl, rfl, p i j, rfl, ?_⟩
      cases hp : p i j with
      | false =>
        rw [hp] at k
        first | exact k _ F2 H2 (x1.trans x2) (.bl _) | (rw [if_neg Bool.false_ne_true]; exact k _ F2 H2 (x1.trans x2) (.bl _))
      | true =>
        rw [hp] at k
        try rw [if_pos rfl]
        refine ⟨F0, H0, F2, ρ, (S.mono x1).mono x2, Res.sat_imp (Res.sat_bind k) (fun z _ k v3 F3 H3 x3 r3 => ?_) fun _ z => z.mono (x1.trans x2)⟩
        obtain ⟨j', l, e, rfl, k⟩ := cmpD_sat (Res.sat_bind k)
        cases e
        cases r3
        refine ⟨j, l, rfl, rfl, q j l, rfl, ?_⟩
        cases hq : q j l with
        | false =>
          rw [hq] at k
          first | exact k _ F3 H3 ((x1.trans x2).trans x3) (.bl _) | (rw [if_neg Bool.false_ne_true]; exact k _ F3 H3 ((x1.trans x2).trans x3) (.bl _))
        | true =>
          rw [hq] at k
          try rw [if_pos rfl]
          refine ⟨F0, H0, F3, ρ, ((S.mono x1).mono x2).mono x3, Res.sat_imp (Res.sat_bind k) (fun w _ k v4 F4 H4 x4 r4 => ?_) fun _ z => z.mono ((x1.trans x2).trans x3)⟩
          obtain ⟨l', m, e, rfl, k⟩ := cmpD_sat k
          cases e
          cases r4
          exact ⟨l, m, rfl, rfl, k _ F4 H4 (((x1.trans x2).trans x3).trans x4) (.bl _)⟩) fun _ z => z.mono x1⟩) fun _ z => z⟩
theorem de_chain3 {op op' op'' : CmpOp} {p q r : Int → Int → Bool} (h1 : OpR X (compareOp op) (rI0 fun i j => .bl (p i j))) (h2 : OpR X (compareOp op') (rI0 fun i j => .bl (q i j))) (h3 : OpR X (compareOp op'') (rI0 fun i j => .bl (r i j))) (ha : DE X κ E a ma) (hb : DE X κ E b mb) (hc : DE X κ E c mc) (hd : DE X κ E e md)
    (hp : PE X (.Compare a [op, op', op''] [b, c, e] pos) (tChain3 (rI0 fun i j => .bl (p i j)) (rI0 fun i j => .bl (q i j)) (rI0 fun i j => .bl (r i j)) (rdE X.mg X.K κ E ma) (rdE X.mg X.K κ E mb) (rdE X.mg X.K κ E mc) (rdE X.mg X.K κ E md))) : DE X κ E (.Compare a [op, op', op''] [b, c, e] pos) (mChain3 p q r ma mb mc md) :=
  hp.imp (chain3_read)
theorem bind_b {α : Type} {m : Res α} {f : α → Res D} {d : D} (h : m.bind f = .ok d) : ∃ x, m = .ok x ∧ f x = .ok d := by
  cases m with
  | ok x => exact ⟨x, rfl, h⟩
  | err x => cases h
  | stk => cases h
theorem mChain3_b {p q r : Int → Int → Bool} : ∀ (ρ : Env) (d : D), mChain3 p q r ma mb mc md ρ = .ok d → ∃ b, d = .bool b := fun ρ d h => by
  unfold mChain3 at h
  obtain ⟨x, _, h⟩ := bind_b h
  obtain ⟨y, _, h⟩ := bind_b h
  obtain ⟨z, _, h⟩ := bind_b h
  obtain ⟨k, _, h⟩ := bind_b h
  cases k with
  | false => cases h; exact ⟨_, rfl⟩
  | true =>
    rw [if_pos rfl] at h
    obtain ⟨z2, _, h⟩ := bind_b h
    obtain ⟨z3, _, h⟩ := bind_b h
    obtain ⟨k2, _, h⟩ := bind_b h
    cases k2 with
    | false => cases h; exact ⟨_, rfl⟩
    | true =>
      rw [if_pos rfl] at h
      obtain ⟨w, _, h⟩ := bind_b h
      exact cmpD_b _ _ _ h
theorem dt_chain3 {op op' op'' : CmpOp} {p q r : Int → Int → Bool} (h1 : OpR X (compareOp op) (rI0 fun i j => .bl (p i j))) (h2 : OpR X (compareOp op') (rI0 fun i j => .bl (q i j))) (h3 : OpR X (compareOp op'') (rI0 fun i j => .bl (r i j))) (ha : DE X κ E a ma) (hb : DE X κ E b mb) (hc : DE X κ E c mc) (hd : DE X κ E e md)
    (hp : PT X (.Compare a [op, op', op''] [b, c, e] pos) (tTest (tChain3 (rI0 fun i j => .bl (p i j)) (rI0 fun i j => .bl (q i j)) (rI0 fun i j => .bl (r i j)) (rdE X.mg X.K κ E ma) (rdE X.mg X.K κ E mb) (rdE X.mg X.K κ E mc) (rdE X.mg X.K κ E md)))) : DT X κ E (.Compare a [op, op', op''] [b, c, e] pos) (mTru (mChain3 p q r ma mb mc md)) :=
  hp.imp fun σ H Q ⟨F0, H0, F, ρ, S, c⟩ => chain3_read σ H _ ⟨F0, H0, F, ρ, S, Res.sat_imp (bool_of c fun d hd => mChain3_b ρ d hd) (fun d _ ⟨b, e, k⟩ v F' H' x r => by
    subst e
    cases r
    exact ⟨b, rfl, k F' H' x⟩) fun _ z => z⟩
end
end WD

/-! a list comprehension whose element may raise -/
namespace L2
open PySem PySem.Spec PyProof.Rows
abbrev Cx.blkX (X : Cx) (s : Shared) (H : Hp) (scope : Scope) (cenv : Env) (fp : List Addr) : Cx :=
  (X.blk s H scope cenv fp).wish (notedBy (model X.prog X.w) X.A cenv (CompFails (model X.prog X.w) X.A X.xe cenv))
theorem hide_up {h h' : Heap} {C : Addr} (up : h.UpToSlots h') : (PySem.W.hideAll h [C]).UpToSlots h' := fun b o e n => up b o (PySem.W.of_hideAll _ e) n
theorem traced_but {h h' B : Heap} {a C : Addr} {Z : Obj → Prop} {fl : Value} (sb : Heap.SameBut C h h') (ha : a ≠ C) (hC : B.get? C ≠ none) (t : HandSPX.TracedZ h B a Z fl) : HandSPX.TracedZ h' (PySem.W.hideAll B [C]) a Z fl := by
  obtain ⟨oe, vs, T, oT, ts, he, hz, hd, h1, hnT, hTe, hT, hdT, h3⟩ := t
  have hTC : T ≠ C := fun z => hC (z ▸ hnT)
  have hn : (PySem.W.hideAll B [C]).get? T = none := by
    cases q : (PySem.W.hideAll B [C]).get? T with
    | none => rfl
    | some o => have := PySem.W.of_hideAll _ q; rw [hnT] at this; cases this
  exact ⟨oe, vs, T, oT, ts, (sb.2 a ha).trans he, hz, hd, h1, hn, hTe, (sb.2 T hTC).trans hT, hdT, h3⟩
theorem hide_none {B : Heap} {a C : Addr} (h : B.get? a = none) : (PySem.W.hideAll B [C]).get? a = none := by
  cases q : (PySem.W.hideAll B [C]).get? a with
  | none => rfl
  | some o => have := PySem.W.of_hideAll _ q; rw [h] at this; cases this
theorem frames_but {h h' B : Heap} {C : Addr} {l : List Env} (sb : Heap.SameBut C h h') (hC : C ∉ frs l) (f : h.FunFrames B l) : h'.FunFrames (PySem.W.hideAll B [C]) l := by
  induction l with
  | nil => trivial
  | cons env l ih =>
    obtain ⟨hk, ⟨L, o, hf, hn, ho, hd⟩, hr⟩ := f
    have hm : L ∈ frs (env :: l) := List.mem_filterMap.mpr ⟨env, List.mem_cons_self, hf⟩
    have hLC : L ≠ C := fun z => hC (z ▸ hm)
    refine ⟨hk, ⟨L, o, hf, hide_none hn, (sb.2 L hLC).trans ho, hd⟩, ih (fun z => hC ?_) hr⟩
    obtain ⟨e, he, hfe⟩ := List.mem_filterMap.mp z
    exact List.mem_filterMap.mpr ⟨e, List.mem_cons_of_mem _ he, hfe⟩
section
variable {X : Cx} {W : WX}
/-- a call's exception flies; the state without it -/
theorem fly_of_call {pins : List (Addr × Obj)} {σ : St} {H : Hp} {s s' : Shared} {E : XK} (I : Inv X pins σ H s) {u : Value} (c : L2N.CX X.prog X.w X.stack H s E u s') : ∃ (a : Addr) (B : Heap) (sI : Shared) (H' : Hp) (cls : Value) (d : Option Addr),
    u = .ref a ∧ Inv X pins σ H' sI ∧ (∀ b o, sI.heap.get? b = some o → b ∉ frs X.stack → B.get? b = some o) ∧ sI.heap.UpToSlots s'.heap ∧
      HandSPX.FlyingZ B X.stack a (L2N.Zn cls d) s'.heap ∧ H' a = none ∧ s'.os = sI.os ∧ AllBare s'.gens ∧ E cls d H' := by
  obtain ⟨a, B, H', cls, d, rfl, fl, hok, ub, na, os, ag, hE⟩ := c
  obtain ⟨G, g1, g2⟩ := restrict s'.heap fun b => (B.get? b).isSome || decide (b ∈ frs X.stack)
  have st : B.StaysIn s'.heap := fl.1
  have gB : ∀ b o, B.get? b = some o → G.get? b = some o := fun b o e => by
    rw [g1 b (by simp [e])]
    exact st b o e
  have gF : ∀ b, b ∈ frs X.stack → G.get? b = s'.heap.get? b := fun b hb => g1 b (by simp [hb])
  have og : ∀ b o, G.get? b = some o → s'.heap.get? b = some o ∧ ((B.get? b).isSome = true ∨ b ∈ frs X.stack) := fun b o e => by
    cases q : ((B.get? b).isSome || decide (b ∈ frs X.stack)) with
    | false => rw [g2 b q] at e; cases e
    | true =>
      rw [g1 b q] at e
      exact ⟨e, by simpa [Bool.or_eq_true] using q⟩
  refine ⟨a, B, { s with heap := G, gens := s'.gens, drawn := s'.drawn, toks := s'.toks }, H', cls, d, rfl, ?_, fun b o e hb => ?_, Heap.UpToSlots.of_keeps fun b o e => (og b o e).1, fl, na, os, ag, hE⟩
  · refine I.call (ch := []) ⟨fun b o e n hb _ => gB b o (ub.keep b o e n hb), fun b o e n hb _ => ?_, fun b o e n _ => ub.free b o e n, fun b o e _ => ?_, ub.tups, ub.frzs, ub.tbls⟩ (hok.kept gB) ag (fun _ z => nomatch z)
    · obtain ⟨sl, q⟩ := ub.slot b o e hb
      exact ⟨sl, by rw [gF b hb]; exact q⟩
    · by_cases hb : b ∈ frs X.stack
      · obtain ⟨sl, q⟩ := ub.slot b o e hb
        exact ⟨_, by rw [gF b hb]; exact q⟩
      · obtain ⟨o', q⟩ := ub.there b o e hb
        exact ⟨o', gB b o' q⟩
  · obtain ⟨e', h⟩ := og b o e
    rcases h with h | h
    · obtain ⟨o', q⟩ := Option.isSome_iff_exists.mp h
      have z := st b o' q
      rw [e'] at z; cases z
      exact q
    · exact absurd h hb
theorem blk_pass (tk : L2N.Takes X W) (hs : X.stack = X.env :: X.outer) (hf : X.env.frame = some X.env.locals) {pins : List (Addr × Obj)} {σ : St} {H3 : Hp} {s3 : Shared} {scope : Scope} {cenv : Env} {fp : List Addr} {C : Addr} (I3 : Inv X pins σ H3 s3)
    (hC : cenv.locals = C) (hCf : s3.heap.objs.size ≤ C) (hcf : cenv.frame = X.env.frame) (f3 : ∀ b ∈ fp, FpOk X pins H3 b) : ∀ σ', PassesAt (L2N.CX X.prog X.w) (X.blkX s3 H3 scope cenv fp) σ' (WE W σ) := by
  intro σ' pins' H' s1 e s' I' c
  obtain ⟨a, B, sI, H2, cls, d, rfl, I2, nb, up, fl, na, os, ag, w⟩ := fly_of_call I' c
  have fl : HandSPX.FlyingZ B (X.env :: X.outer) a (L2N.Zn cls d) s'.heap := hs ▸ fl
  have hfr : X.A.frames = some (X.env :: X.outer) := by rw [I3.ok.frames, hs]
  -- the outer state without the exception
  have I4 : Inv X pins σ H2 sI := I3.call' (ch := fp) I2.os I2.base I2.hok I2.bare fun b hb => ⟨(f3 b hb).2.2.2.1, (f3 b hb).2.1, (f3 b hb).2.2.2.2.1, (f3 b hb).2.2.2.2.2⟩
  have nC : H2 C = none := by
    have z : H2 cenv.locals = none := I2.free
    rw [hC] at z; exact z
  have fC := I3.fpOk hCf nC
  have cst : C ∉ frs X.stack := fun z => by
    rcases List.mem_cons.mp (I3.stkSub C z) with q | q
    · exact fC.2.1 q
    · exact fC.2.2.1 q
  obtain ⟨mC, hn, _⟩ := I2.loc
  have hn : sI.heap.Ns cenv.locals mC := hn
  rw [hC] at hn
  have bC : B.get? C ≠ none := by
    obtain ⟨o, es, ep, ho, _⟩ := hn
    rw [nb C o ho cst]; exact fun z => nomatch z
  have haC : a ≠ C := fun z => bC (z ▸ fl.2.1)
  show wpAny _ X.A (noteFrame (.ref a) cenv) _ _ s'
  rw [noteFrame_env _ hcf]
  refine PXN.looks_onZ L2N.Zn.steady hfr hf fl fun h1 held up1 => ?_
  have hn1 : h1.Ns cenv.locals mC := by
    rw [hC]
    obtain ⟨o, es, ep, ho, r⟩ := hn
    exact ⟨o, es, ep, held.1 C o (nb C o ho cst), r⟩
  refine ⟨mC, hn1, fun h2 m2 hn2 sb => ?_⟩
  rw [hC] at sb
  have sb : Heap.SameBut C h1 h2 := sb
  have held2 : HandSPX.HeldZ (PySem.W.hideAll B [C]) (X.env :: X.outer) a (L2N.Zn cls d) X.env.locals h2 := by
    refine ⟨fun b o e => ?_, hide_none held.2.1, frames_but sb (hs ▸ cst) held.2.2.1, traced_but sb haC bC held.2.2.2⟩
    have hb : b ≠ C := fun z => by
      rw [z, PySem.W.hideAll_none _ (by simp)] at e; cases e
    exact (sb.2 b hb).trans (held.1 b o (PySem.W.of_hideAll _ e))
  obtain ⟨k1, k2, k3, oe, vs, T, oT, ts', he, hz, hd, hh1, hr⟩ := id held2
  unfold PySem.passOn
  refine wpAny_bind (wpAny_field he hd hh1 ?_)
  rw [if_neg (show ¬ ((Value.ref T == Value.none) = true) from by simp)]
  have fin : wpAny (model X.prog X.w) X.A (setFlight (.ref a) cenv.frame) (fun _ s4 => wpAny (model X.prog X.w) X.A (throw (.ref a) : Sem Value) (fun _ _ => False) X.xe s4) X.xe { s' with heap := h2 } := by
    rw [hcf, hf]
    refine HandSPX.setFlight_onZ held2 fun h3 hh3 up3 => wpAny_throw ?_
    refine tk _ _ ⟨a, PySem.W.hideAll B [C], { sI with heap := PySem.W.hideAll sI.heap [C] }, pins, σ, H2, cls, d, rfl, I4.turned (it := C) (t' := sI.toks) (fun b o hb e => PySem.W.hideAll_get _ e (by simpa using hb)) fC.1 fC.2.1 fC.2.2.2.1 fC.2.2.2.2.1 fC.2.2.2.2.2, fun b o e hb => ?_, fun b o e n => ?_, .inr (.inr (hs ▸ hh3)), na, os, ag, w⟩
    · have hbC : b ≠ C := fun z => by
        rw [z, PySem.W.hideAll_none _ (by simp)] at e; cases e
      exact PySem.W.hideAll_get _ (nb b o (PySem.W.of_hideAll _ e) hb) (by simpa using hbC)
    · have hbC : b ≠ C := fun z => by
        rw [z, PySem.W.hideAll_none _ (by simp)] at e; cases e
      obtain ⟨sl1, e1⟩ := up b o (PySem.W.of_hideAll _ e) n
      obtain ⟨sl2, e2⟩ := up1 b _ e1 n
      have e3 : h2.get? b = _ := (sb.2 b hbC).trans e2
      obtain ⟨sl4, e4⟩ := up3 b _ e3 n
      exact ⟨sl4, e4⟩
  first
    | exact wpAny_bind (wpAny_pure (wpAny_bind fin))
    | exact wpAny_bind fin
theorem lc_coreX {W : WX} (tk : L2N.Takes X W) (hstk : X.stack = X.env :: X.outer) (hfr : X.env.frame = some X.env.locals) {pins : List (Addr × Obj)} {s : Shared} {σ : St} {H : Hp} {Q : VK} {elt tg iter : Expr} {ifs : List Expr} {scope : Scope} {own : List (Str × Nat)} {pos pos' : Pos} {wi : TI} {g : TG} {tt : TT} {te : TE} {use : Option (Value → Sem Unit)} {Qf : Value → Shared → Prop}
    (hc : X.calm = true) (hN : X.N.Nodup) (I : Inv X pins σ H s) (hi : PI X tg iter wi) (ok : BlkOk X.N X.env.scope scope own)
    (hg : ∀ (s : Shared) (H : Hp) (C : Addr) (cl : List (Str × Addr)) (fp : List Addr), PG (X.blk s H scope (compEnvC scope cl C X.env) fp) tg g) (ht : ∀ (s : Shared) (H : Hp) (C : Addr) (cl : List (Str × Addr)) (fp : List Addr), PTs (X.blk s H scope (compEnvC scope cl C X.env) fp) ifs tt)
    (he : ∀ (s : Shared) (H : Hp) (C : Addr) (cl : List (Str × Addr)) (fp : List Addr), (∀ σ', PassesAt (L2N.CX X.prog X.w) (X.blkX s H scope (compEnvC scope cl C X.env) fp) σ' (WE W σ)) → PE (X.blkX s H scope (compEnvC scope cl C X.env) fp) elt te) (hs : ∀ x, foldedSetIterable iter X.env x = pure x)
    (h : tLc wi g tt te (own.map (·.2)) σ H Q)
    (hRR : ∀ D C s' m H', Inv X pins σ H' s' → Q (.ref D) H' → s'.heap.Ns C m → FpOk X pins H' C → ∀ cenv : Env, cenv.locals = C → compEnds (model X.prog X.w) X.A X.xe use Qf (.ref D) cenv (.ok .next) s') :
    wpAny (model X.prog X.w) X.A (comprehension (.ListComp elt [⟨tg, iter, ifs, 0⟩] scope pos) scope X.env pos' (newList []) false (eval iter X.env) use) Qf X.xe s := by
  have hfree : ∀ y ∈ scope.names, y.2 = .free → ∃ c, X.env.cells.lookup y.1 = some c := fun y hy e => by
    rcases ok.free y hy e with k | k
    · exact I.ok.has _ (.inl k)
    · exact I.ok.has _ (.inr k)
  refine comprehension_at (use := use) rfl hs (closure_ok hfree) ok.kind (fun y hy e => by rw [ok.uniq y hy, e])
    (thn (hi.run pins s σ H _ I h) fun xv s1 hx => thn hx fun itv s2 h2 => ?_)
  obtain ⟨it, fp, tn, J, H2, e, I2, T, st2, f2, q⟩ := h2
  subst e
  refine wpAny_newObj_type (newEnv_comp ?_) (by show 0 ≤ sizeLine; decide)
  generalize hD : s2.heap.objs.size = D
  have hDn : H2 D = none := I2.hok.fresh (Nat.le_of_eq hD)
  obtain ⟨W, ⟨m0, w0⟩, turn⟩ := q D hDn
  -- the new list
  generalize hs3 : ({ s2 with heap := s2.heap.push { cls := .type "list", data := .seq ([] : List Value).toArray } } : Shared) = s3
  have I3 : Inv X pins σ (upd H2 D (.lst [])) s3 := by
    rw [← hs3]
    refine I2.laid (t' := s2.toks) (fun b o e => Heap.get?_push_of_some _ e) (Nat.le_of_eq hD) ⟨Nat.zero_le _, [], 0, .nil, ?_⟩
    rw [← hD]
    exact Heap.get?_push_size _ rfl
  have h3 : s3.heap = s2.heap.push { cls := .type "list", data := .seq ([] : List Value).toArray } := by rw [← hs3]
  have sz : ∀ b ∈ fp, b < s2.heap.objs.size := fun b hb => by
    obtain ⟨o, e, _⟩ := T.obj _ _ st2 b hb
    exact Heap.lt_size e
  have f3 : ∀ b ∈ fp, FpOk X pins (upd H2 D (.lst [])) b ∧ b < s3.heap.objs.size := fun b hb => by
    have hlt := sz b hb
    refine ⟨⟨?_, (f2 b hb).2⟩, by rw [h3, Heap.size_push]; exact Nat.lt_succ_of_lt hlt⟩
    rw [upd_ne (by rw [← hD]; exact Nat.ne_of_lt hlt)]
    exact (f2 b hb).1
  have st3 : tn 0 s3.heap := T.keep _ _ _ st2 fun b _ o e => by rw [h3]; exact Heap.get?_push_of_some _ e
  have I4 := block_start I3 ok hN f3
  have pg := hg s3 (upd H2 D (.lst [])) s3.heap.objs.size (cellsFrom (s3.heap.objs.size + 1) scope.names (cloFrom X.env.cells scope.names [])) fp
  have pt := ht s3 (upd H2 D (.lst [])) s3.heap.objs.size (cellsFrom (s3.heap.objs.size + 1) scope.names (cloFrom X.env.cells scope.names [])) fp
  have pe := he s3 (upd H2 D (.lst [])) s3.heap.objs.size (cellsFrom (s3.heap.objs.size + 1) scope.names (cloFrom X.env.cells scope.names [])) fp (blk_pass tk hstk hfr I3 rfl (Nat.le_refl _) rfl fun b hb => (f3 b hb).1)
  show codeAny _ _ (.compStart (.ListComp elt [⟨tg, iter, ifs, 0⟩] scope pos) 0 (.ref it) (.ref D) (compEnvC scope (cellsFrom (s3.heap.objs.size + 1) scope.names (cloFrom X.env.cells scope.names [])) s3.heap.objs.size X.env)) (compEnds (model X.prog X.w) X.A X.xe use Qf (.ref D) (compEnvC scope (cellsFrom (s3.heap.objs.size + 1) scope.names (cloFrom X.env.cells scope.names [])) s3.heap.objs.size X.env)) { s3 with heap := pushCells (s3.heap.push { cls := .type "dict", data := .dict #[] }) scope.names }
  have nfp : ∀ b ∈ fp, (upd H2 D (.lst [])) b = none := fun b hb => (f3 b hb).1.1
  generalize hce : compEnvC scope (cellsFrom (s3.heap.objs.size + 1) scope.names (cloFrom X.env.cells scope.names [])) s3.heap.objs.size X.env = ce at I4 pg pt pe ⊢
  have cL : ce.locals = s3.heap.objs.size := by subst hce; rfl
  generalize hH3 : upd H2 D (.lst []) = H3 at I3 I4 pg pt pe w0 nfp f3
  generalize hs4 : ({ s3 with heap := pushCells (s3.heap.push { cls := .type "dict", data := .dict #[] }) scope.names } : Shared) = s4 at I4 ⊢
  have st4 : tn 0 s4.heap := T.keep _ _ _ st3 fun b _ o e => by rw [← hs4]; exact pushCells_keeps _ _ _ _ (Heap.get?_push_of_some _ e)
  have stat : ∀ {σ' : St} {H' : Hp} {s' : Shared}, Inv (X.blk s3 H3 scope ce fp) [] σ' H' s' → (∀ b ∈ fp, H' b = none) → ∀ b ∈ fp, FpOk (X.blk s3 H3 scope ce fp) [] H' b := fun {σ' H' s'} I' hn b hb =>
    ⟨hn b hb, (I'.ok.exf b hb).1, I'.ok.exfs b hb, .inl hb, fun x c e => (I'.ok.exf b hb).2 x c e, fun p hp => absurd (show p ∈ ([] : List (Addr × Obj)) ++ [] from hp) (by simp)⟩
  have loop : codeAny (model X.prog X.w) X.A (.compLoop (.ListComp elt [⟨tg, iter, ifs, 0⟩] scope pos) 0 (.ref it) (.ref D) ce) (compEnds (model X.prog X.w) X.A X.xe use Qf (.ref D) ce) s4 := by
    refine compLoop_any (fun n s' => ∃ i H', Inv (X.blk s3 H3 scope ce fp) [] (wipe σ (own.map (·.2))) H' s' ∧ tn i s'.heap ∧ (∀ b ∈ fp, H' b = none) ∧ W i n H') ?_ m0 ⟨0, H3, I4, st4, nfp, w0⟩
    rintro n s5 ⟨i, H5, I5, st5, n5, w5⟩
    rcases turn i n H5 w5 with ⟨stop, qq⟩ | ⟨go, Nx, hNx, step⟩
    · have td := T.done (X.blk s3 H3 scope ce fp) rfl rfl rfl hc i [] s5 _ H5 (fun _ _ => False) I5 (stat I5 n5) st5 stop
      refine thnF td fun r s6 ⟨hr, I6⟩ => ?_
      subst hr
      -- back in the def's context
      have I7 : Inv X pins σ H5 s6 := I3.call' (ch := fp) I6.os I6.base I6.hok I6.bare fun b hb => ⟨(f3 b hb).1.2.2.2.1, (f3 b hb).1.2.1, (f3 b hb).1.2.2.2.2.1, (f3 b hb).1.2.2.2.2.2⟩
      have nC : H5 s3.heap.objs.size = none := by
        have z : H5 ce.locals = none := I6.free
        rw [cL] at z
        exact z
      obtain ⟨m, hn, _⟩ := I6.loc
      have hn : s6.heap.Ns ce.locals m := hn
      rw [cL] at hn
      exact hRR D s3.heap.objs.size s6 m H5 I7 qq hn (I3.fpOk (Nat.le_refl _) nC) ce cL
    · have ti := T.item (X.blk s3 H3 scope ce fp) rfl rfl rfl hc i [] s5 _ H5 (fun _ _ => False) I5 (stat I5 n5) st5 go
      refine thnF ti fun r s6 ⟨u, hr, h6⟩ => ?_
      subst hr
      refine thnF h6 fun _ s7 ⟨x, H7, I7, r7, y7, st7, n7⟩ => ?_
      have I7' := I7.pinned (stat I7 n7) (T.obj _ _ st7)
      refine thnF (pg.run _ s7 _ H7 x u _ I7' r7 (step x H7 y7)) fun _ s8 ⟨σ8, H8, I8, hw8, q8⟩ => ?_
      refine thnF (pt.run _ s8 σ8 H8 _ I8 q8) fun b s9 ⟨H9, I9, q9⟩ => ?_
      -- the turn's end
      have fin : ∀ {s' : Shared} {H' : Hp}, Inv (X.blk s3 H3 scope ce fp) ([] ++ pinsAt fp s7.heap) σ8 H' s' → Nx H' → ∃ m, m < n ∧ ∃ i H', Inv (X.blk s3 H3 scope ce fp) [] (wipe σ (own.map (·.2))) H' s' ∧ tn i s'.heap ∧ (∀ b ∈ fp, H' b = none) ∧ W i m H' := fun {s' H'} I' nx => by
        obtain ⟨m', hm, w'⟩ := hNx H' nx
        have pin' : ∀ b ∈ fp, ∀ o, s7.heap.get? b = some o → s'.heap.get? b = some o ∧ H' b = none := fun b hb o e =>
          let z := I'.pin (b, o) (List.mem_append_right _ (List.mem_append_right _ (mem_pinsAt hb e)))
          ⟨z.1, z.2.1⟩
        have hl : (wipe σ (own.map (·.2))).length = σ8.length := by rw [← hw8, wipe_length]
        refine ⟨m', hm, i + 1, H', (I'.unpinned (pins := [])).weak hl (fun j v e => ?_), T.keep _ _ _ st7 fun b hb o e => (pin' b hb o e).1, fun b hb => ?_, w'⟩
        · rw [← hw8] at e
          exact (wipe_some e).1
        · obtain ⟨o, e, _⟩ := T.obj _ _ st7 b hb
          exact (pin' b hb o e).2
      cases b with
      | false =>
        simp only [Bool.false_eq_true, if_false] at q9 ⊢
        exact fin I9 q9
      | true =>
        simp only [if_true] at q9 ⊢
        refine thn (pe.run _ s9 σ8 H9 _ (I9.wish _) q9) fun z s10 ⟨yv, H10, I10, r10, acc, hD10, hz10, nx⟩ => ?_
        have I10 := I10.unwish
        exact app_ok (X := X.blk s3 H3 scope ce fp) I10 hD10 hz10 r10 fun s11 I11 => fin I11 nx
  exact codeAny_compStart_list loop (T.self X.A 0 _ _ _ st4 loop)
/-- as a value -/
theorem pe_lcX {W : WX} (tk : L2N.Takes X W) (hstk : X.stack = X.env :: X.outer) (hfr : X.env.frame = some X.env.locals) {elt tg iter : Expr} {ifs : List Expr} {scope : Scope} {own : List (Str × Nat)} {pos : Pos} {wi : TI} {g : TG} {tt : TT} {te : St → TE} (hc : X.calm = true) (hN : X.N.Nodup) (hi : PI X tg iter wi) (ok : BlkOk X.N X.env.scope scope own)
    (hg : ∀ (s : Shared) (H : Hp) (C : Addr) (cl : List (Str × Addr)) (fp : List Addr), PG (X.blk s H scope (compEnvC scope cl C X.env) fp) tg g) (ht : ∀ (s : Shared) (H : Hp) (C : Addr) (cl : List (Str × Addr)) (fp : List Addr), PTs (X.blk s H scope (compEnvC scope cl C X.env) fp) ifs tt)
    (he : ∀ (σ : St) (s : Shared) (H : Hp) (C : Addr) (cl : List (Str × Addr)) (fp : List Addr), (∀ σ', PassesAt (L2N.CX X.prog X.w) (X.blkX s H scope (compEnvC scope cl C X.env) fp) σ' (WE W σ)) → PE (X.blkX s H scope (compEnvC scope cl C X.env) fp) elt (te σ)) (hs : ∀ x, foldedSetIterable iter X.env x = pure x := by intro _; rfl) :
    PE X (.ListComp elt [⟨tg, iter, ifs, 0⟩] scope pos) (fun σ => tLc wi g tt (te σ) (own.map (·.2)) σ) := by
  refine ⟨fun pins s σ H Q I h => ?_⟩
  rw [eval_ListComp]
  refine lc_coreX tk hstk hfr hc hN I hi ok hg ht (he σ) hs h fun D C s' m H' I' q hn f cenv hcl => ⟨m, by rw [hcl]; exact hn, fun h'' sb => ?_⟩
  rw [hcl] at sb
  obtain ⟨f0, f1, f2, f3, f4, f5⟩ := f
  exact ⟨.ref D, H', I'.turned (t' := s'.toks) (fun b o hb e => (sb.2 b hb).trans e) f0 f1 f3 f4 f5, rfl, q⟩
end
end L2
namespace WD
open PySem PySem.Spec PyProof.Rows L2
open Evl (Ex Ex.refl Ex.trans Ex.new Ex.mut ex_l ex_t fresh_back)
def compLX (g : D → Env → Option Env) (t : Env → Res Bool) (m : Env → Res D) (ρ : Env) : List D → Res (List D)
  | [] => .ok []
  | d :: ds =>
    match g d ρ with
    | none => .stk
    | some ρ1 => (noErr (t ρ1)).bind fun b => if b = true then (m ρ1).bind fun y => (compLX g t m ρ ds).bind fun ys => .ok (y :: ys) else compLX g t m ρ ds
def mLcX (it : Env → Res (List D)) (g : D → Env → Option Env) (t : Env → Res Bool) (m : Env → Res D) (vs : List Nat) : Env → Res (List D) := fun ρ =>
  (it ρ).bind fun ds => if ds.length ≤ sizeLine then compLX g t m (forget vs ρ) ds else .stk
theorem compLX_cons (g : D → Env → Option Env) (t : Env → Res Bool) (m : Env → Res D) (ρ : Env) (d : D) (ds : List D) : compLX g t m ρ (d :: ds) = match g d ρ with
    | none => .stk
    | some ρ1 => (noErr (t ρ1)).bind fun b => if b = true then (m ρ1).bind fun y => (compLX g t m ρ ds).bind fun ys => .ok (y :: ys) else compLX g t m ρ ds := rfl
abbrev EXb (E : XK) : EX := ⟨fun _ => E, fun _ _ _ _ _ => False⟩
theorem bind_assoc' {α β γ : Type} (r : Res α) (f : α → Res β) (g : β → Res γ) : (r.bind f).bind g = r.bind fun a => (f a).bind g := by cases r <;> rfl
theorem bind_ok_id {α : Type} (r : Res α) : (r.bind fun a => .ok a) = r := by cases r <;> rfl
section
variable {X : Cx} {κ : Nat → Kd} {E : EX} {pos : Pos}
theorem lc_readX {mg : Mg} {K : Frag} {mi : Env → Res (List D)} {is vs : List Nat} {g : D → Env → Option Env} {mt : Env → Res Bool} {me : Env → Res D} (his : ∀ i ∈ is, i ∈ vs) : ∀ σ H Q, rdN mg K κ E (mLcX mi g mt me vs) σ H Q →
    tLc (rdIp mg K κ E mi) (rdG K κ is g) (rdT mg K κ EX0 mt) (rdE mg K κ (EXb (E.err σ)) me) vs σ H Q :=
  fun σ H Q ⟨F0, H0, F, ρ, S, k⟩ => ⟨F0, H0, F, ρ, S, Res.sat_imp (Res.sat_bind k) (fun ds _ k J F1 H1 x1 w Dl hD => by
    by_cases hz : ds.length ≤ sizeLine
    case neg => simp only [if_neg hz] at k; exact k.elim
    simp only [if_pos hz] at k
    generalize hR : compLX g mt me (forget vs ρ) ds = R at k
    have fD : F1 Dl = none := none_of_ex x1.s hD
    have SW := (S.mono x1).wipe vs
    refine ⟨fun i m H2 => m = ds.length - i ∧ i ≤ ds.length ∧ ∃ F2 acc ads, Ext F1 H1 F2 H2 ∧ F2 Dl = none ∧ H2 Dl = some (.lst acc) ∧ RpA K F2 acc ads ∧ acc.length ≤ i ∧ R = (compLX g mt me (forget vs ρ) (ds.drop i)).bind fun rs => .ok (ads ++ rs),
      ⟨ds.length, rfl, Nat.zero_le _, F1, [], [], .newO x1.s hD, fD, upd_same, .nil, Nat.zero_le _, by rw [List.drop_zero, hR]; exact (bind_ok_id _).symm⟩, ?_⟩
    rintro i m H2 ⟨rfl, hi, F2, acc, ads, x2, f2, h2, r2, l2, c2⟩
    obtain ⟨w1, w2⟩ := w i F2 H2 x2 x2.s hi
    by_cases hlt : i < ds.length
    · obtain ⟨go, yl⟩ := w1 hlt
      have ed : ds.drop i = ds[i] :: ds.drop (i + 1) := List.drop_eq_getElem_cons hlt
      refine .inr ⟨go, fun H3 => ∃ F3 acc ads, Ext F1 H1 F3 H3 ∧ F3 Dl = none ∧ H3 Dl = some (.lst acc) ∧ RpA K F3 acc ads ∧ acc.length ≤ i + 1 ∧ R = (compLX g mt me (forget vs ρ) (ds.drop (i + 1))).bind fun rs => .ok (ads ++ rs),
        fun H3 ⟨F3, acc, ads, z⟩ => ⟨ds.length - (i + 1), by omega, rfl, hlt, F3, acc, ads, z⟩, fun x H3 y => ?_⟩
      obtain ⟨d, F3, ed2, x3, r3⟩ := yl x H3 y
      have hd : ds[i] = d := by
        have := List.getElem?_eq_getElem hlt
        rw [this] at ed2
        exact Option.some.inj ed2
      rw [ed, hd, compLX_cons] at c2
      cases q : g d (forget vs ρ) with
      | none =>
        rw [q] at c2
        have c2 : R = .stk := c2
        rw [c2] at k
        exact k.elim
      | some ρ1 =>
        rw [q] at c2
        have c2 : R = ((noErr (mt ρ1)).bind fun b => if b = true then (me ρ1).bind fun y => (compLX g mt me (forget vs ρ) (ds.drop (i + 1))).bind fun ys => .ok (y :: ys) else compLX g mt me (forget vs ρ) (ds.drop (i + 1))).bind fun rs => .ok (ads ++ rs) := c2
        cases hb0 : mt ρ1 with
        | err x =>
          rw [hb0] at c2
          have c2 : R = .stk := c2
          rw [c2] at k
          exact k.elim
        | stk =>
          rw [hb0] at c2
          have c2 : R = .stk := c2
          rw [c2] at k
          exact k.elim
        | ok b =>
          rw [hb0] at c2
          have c2 : R = (if b = true then (me ρ1).bind fun y => (compLX g mt me (forget vs ρ) (ds.drop (i + 1))).bind fun ys => .ok (y :: ys) else compLX g mt me (forget vs ρ) (ds.drop (i + 1))).bind fun rs => .ok (ads ++ rs) := c2
          have x13 := x2.trans x3
          refine ⟨F0, H0, F3, forget vs ρ, d, ρ1, SW.mono x13, r3, q, fun σ4 F4 H4 x4 S4 l4 o4 => ⟨wipe_eq (by rw [l4, wipe_length]) o4 his, F0, H0, F4, ρ1, S4, ?_⟩⟩
          rw [hb0]
          intro F5 H5 x5
          have x15 := (x13.trans x4).trans x5
          have nD : H2 Dl ≠ none := by rw [h2]; exact fun z => nomatch z
          have x25 := (x3.trans x4).trans x5
          have f5 : F5 Dl = none := x25.o Dl f2 nD
          cases b with
          | false =>
            exact ⟨F5, acc, ads, x15, f5, x25.h _ _ h2, r2.mono x25.f, by omega, c2⟩
          | true =>
            rw [if_pos rfl] at c2
            refine ⟨F0, H0, F5, ρ1, S4.mono x5, ?_⟩
            cases hy : me ρ1 with
            | err x =>
              rw [hy] at c2
              have c2 : R = .err x := c2
              rw [c2] at k
              have k : ErrOk mg K (E.err σ) F H x := k
              exact ErrOk.mono (x1.trans x15) k
            | stk =>
              rw [hy] at c2
              have c2 : R = .stk := c2
              rw [c2] at k
              exact k.elim
            | ok y =>
              rw [hy] at c2
              have c2 : R = ((compLX g mt me (forget vs ρ) (ds.drop (i + 1))).bind fun ys => .ok (y :: ys)).bind fun rs => .ok (ads ++ rs) := c2
              rw [bind_assoc'] at c2
              intro yv F6 H6 x6 r6
              have x26 := x25.trans x6
              have f6 : F6 Dl = none := x26.o Dl f2 nD
              have sub6 : Ex F6 (upd H6 Dl (.lst (acc ++ [yv]))) := fun b u q => by rw [upd_ne (ne_of_none q f6)]; exact x26.s b u q
              refine ⟨acc, x26.h _ _ h2, by omega, F6, acc ++ [yv], ads ++ [y], ⟨(x15.trans x6).f, Ex.mut (x15.trans x6).h hD, (x15.trans x6).o, sub6, (x15.trans x6).n⟩, f6, upd_same, (r2.mono x26.f).append (.cons r6 .nil), by rw [List.length_append, List.length_singleton]; omega, ?_⟩
              rw [c2]
              congr 1
              funext rs
              show Res.ok (ads ++ (y :: rs)) = Res.ok (ads ++ [y] ++ rs)
              rw [List.append_assoc]; rfl
    · have e : i = ds.length := by omega
      have ed : ds.drop i = [] := by rw [e, List.drop_length]
      rw [ed] at c2
      have c2 : R = .ok (ads ++ []) := c2
      rw [List.append_nil] at c2
      rw [c2] at k
      exact .inl ⟨w2 e, k Dl acc F2 H2 (x1.trans x2) (fresh_back x1.h hD) f2 h2 r2⟩) fun _ z => z⟩
theorem dn_lcX {elt tg iter : Expr} {ifs : List Expr} {scope : Scope} {own : List (Str × Nat)} {mi : Env → Res (List D)} {is : List Nat} {g : D → Env → Option Env} {mt : Env → Res Bool} {me : Env → Res D} (tk : L2N.Takes X (fun cls d σ H => E.err σ cls d H)) (hstk : X.stack = X.env :: X.outer) (hfr : X.env.frame = some X.env.locals)
    (hc : X.calm = true) (hN : X.N.Nodup) (hi : DIp X κ E tg iter mi) (ok : BlkOk X.N X.env.scope scope own) (his : ∀ i ∈ is, i ∈ own.map (·.2))
    (hg : ∀ (s : Shared) (H : Hp) (C : Addr) (cl : List (Str × Addr)) (fp : List Addr), DG (X.blk s H scope (compEnvC scope cl C X.env) fp) κ tg is g) (ht : ∀ (s : Shared) (H : Hp) (C : Addr) (cl : List (Str × Addr)) (fp : List Addr), DTs (X.blk s H scope (compEnvC scope cl C X.env) fp) κ EX0 ifs mt)
    (he : ∀ (σ0 : L2.St) (s : Shared) (H : Hp) (C : Addr) (cl : List (Str × Addr)) (fp : List Addr), (∀ σ', PassesAt (L2N.CX X.prog X.w) (X.blkX s H scope (compEnvC scope cl C X.env) fp) σ' ((EXb (E.err σ0)).err σ')) → DE (X.blkX s H scope (compEnvC scope cl C X.env) fp) κ (EXb (E.err σ0)) elt me) (hs : ∀ x, foldedSetIterable iter X.env x = pure x := by intro _; rfl) :
    DN X κ E (.ListComp elt [⟨tg, iter, ifs, 0⟩] scope pos) (mLcX mi g mt me (own.map (·.2))) :=
  (pe_lcX (wi := rdIp X.mg X.K κ E mi) (g := rdG X.K κ is g) (tt := rdT X.mg X.K κ EX0 mt) (te := fun σ0 => rdE X.mg X.K κ (EXb (E.err σ0)) me) tk hstk hfr hc hN hi ok hg ht (fun σ0 s H C cl fp hp => he σ0 s H C cl fp hp) hs).imp (lc_readX his)
@[simp] theorem mLcX_at (it : Env → Res (List D)) (g : D → Env → Option Env) (t : Env → Res Bool) (m : Env → Res D) (vs : List Nat) (ρ : Env) : mLcX it g t m vs ρ = (it ρ).bind fun ds => if ds.length ≤ sizeLine then compLX g t m (forget vs ρ) ds else .stk := rfl
end
end WD

/-! a def that begins with own = d.setdefault(k, []) and then changes own: d a dict of lists, changed for its caller -/
namespace WD
open PySem PySem.Spec PyProof.Rows L2
open Evl (Ex Ex.refl Ex.trans Ex.new Ex.mut ex_l ex_t fresh_back)
/-- the heap behind own = d.setdefault(k, []): p is the new list, b what own names -/
def setdH (H : Hp) (a p : Addr) (kvs : List (Key × V)) (k : Key) : Hp := if valV kvs k = none then upd (upd H p (.lst [])) a (.dK (putK kvs k (.ref p))) else upd H p (.lst [])
def setdB (p : Addr) (kvs : List (Key × V)) (k : Key) : V := match valV kvs k with
  | none => .ref p
  | some v => v
/-- m2: [the third argument, the list] to what the list is then -/
def spAdd (K : Frag) (m2 : List D → Res D) : Sp := fun vs H Q E => ∃ (F : Hp) (a : Addr) (kvs : List (Key × V)) (k : Key) (nv : V) (dn : D), vs = [.ref a, kV k, nv] ∧ Ex F H ∧ NF F ∧ F a = none ∧ H a = some (.dK kvs) ∧ kvs.length < sizeLine ∧ Rp K F nv dn ∧
  ∀ p, H p = none → ∃ b us xs, setdB p kvs k = .ref b ∧ F b = none ∧ setdH H a p kvs k b = some (.lst us) ∧ RpA K F us xs ∧ b ≠ a ∧
    (m2 [dn, .list xs]).sat (fun d' => ∀ F' H', Ext F (delH (setdH H a p kvs k) b) F' H' → F' b = none → OwnAt K F' H' b d' → Q .non H') (fun _ => False)
theorem pss_some {X : Cx} {ι : Type} {sts : List Stmt} {t : ι → TS} (h : ∀ i, PSs X sts (t i)) : PSs X sts (fun D σ H => ∃ i, t i D σ H) := ⟨fun pins s σ H D I ⟨i, hi⟩ => (h i).run pins s σ H D I hi⟩
/-- [.., number, own] at the slots 2 and 3 -/
def addOut (o : Out) : Res D :=
  match o with
  | .nx ρ => ofO (ρ[3]?).join
  | _ => .stk
def mkAdd (body : Env → Out) : List D → Res D := fun ds => match ds with
  | [dn, d] => addOut (body [none, none, some dn, some d])
  | _ => .stk
theorem fn_okAdd {P : Program} {w : World} {K : Frag} {mg : Mg} {base : Heap} {x qual : Str} {st : Stmt} {f : Addr} {fd : FuncData} {k : Nat} {body : Env → Out} {nd nk nn no : Str} {px pa p1 p2 p3 pc pp : Pos} {rest : List Stmt} (F : Fun K x qual st f fd) (S : FnScope [nd, nk, nn, no] [nd, nk, nn] (defScope st))
    (hst : defBody st = .Assign [.Name no px] (.Call (.Attribute (.Name nd p1) "setdefault" pa) [.Name nk p2, .List [] p3] [] pc) pp :: rest)
    (hset : ∀ (b : Addr) (cdv : Value) (A : Around) (outer : List PySem.Env) (s : Shared) (H : Hp) (E : XK), PS (cxOf (L2N.CX P w) P w K mg base [nd, nk, nn, no] qual (defScope st) f cdv A outer s H E) (.Assign [.Name no px] (.Call (.Attribute (.Name nd p1) "setdefault" pa) [.Name nk p2, .List [] p3] [] pc) pp) (tAsg (tDSetd (tVar 0) (tVar 1) (tLst tNil)) (gName 3)))
    (hbody : ∀ (b : Addr) (cdv : Value) (A : Around) (outer : List PySem.Env) (s : Shared) (H : Hp) (E : XK), Room k (A.deeper (envOfC qual (defScope st) s.heap.objs.size f cdv)) →
      DSs (cxOf (L2N.CX P w) P w K mg base [nd, nk, nn, no] qual (defScope st) f cdv A outer s H E) (kdW (kdT []) 3 b) (eXW K b E) rest body) : FnOk P w K mg base (L2N.CX P w) (k + 1) f fd [nd, nk, nn] (spAdd K (mkAdd body)) := by
  refine F.okQ S (fun vs H Q E ⟨F, a, kvs, k, nv, dn, e, _⟩ => by rw [e]; rfl) fun cdv A outer s H vs Q E hr h => ?_
  obtain ⟨G, a, kvs, q, nv, dn, rfl, ex, nf, ga, hH, hl, rn, hp⟩ := h
  rw [hst]
  refine ⟨_, pss_cons (hset a cdv A outer s H E) (pss_some fun b => hbody b cdv A outer s H E hr), ?_⟩
  have sz0 : ([] : List V).length ≤ sizeLine := Nat.zero_le _
  have stt : ∀ (p b : Addr) (us : List V) (xs : List D), H p = none → G b = none → setdH H a p kvs q b = some (.lst us) → RpA K G us xs → Stt K (kdW (kdT []) 3 b) G (delH (setdH H a p kvs q) b) G (setdH H a p kvs q) [some (.ref a), some (kV q), some nv, some (.ref b)] [none, none, some dn, some (.list xs)] := fun p b us xs hp0 fb gb rx => by
    refine ⟨Ex.refl G, delH_ex _ b, fun _ h _ => h, fun c u e => ?_, nf, rfl, fun i d h => ?_, fun i j c di dj u w n hi hj _ _ oi oj => ?_⟩
    · have cp : c ≠ p := fun z => by rw [z] at e; rw [ex _ _ e] at hp0; cases hp0
      have ca : c ≠ a := fun z => by rw [z, ga] at e; cases e
      unfold setdH
      split
      · rw [upd_ne ca, upd_ne cp]; exact ex _ _ e
      · rw [upd_ne cp]; exact ex _ _ e
    · match i, h with
      | 2, h =>
        cases h
        exact ⟨nv, rfl, rn⟩
      | 3, h =>
        cases h
        exact ⟨.ref b, rfl, by rw [kdW_self]; exact ⟨rfl, delH_self, fb, .inl ⟨us, xs, rfl, gb, rx⟩⟩⟩
    · have k3 : ∀ i d u, ([none, none, some dn, some (.list xs)] : Env)[i]? = some (some d) → Owns (kdW (kdT []) 3 b i) (setdH H a p kvs q) u c → i = 3 := fun i d u h o => by
        match i, h with
        | 2, h => exact o.elim
        | 3, h => rfl
      exact n ((k3 i di u hi oi).trans (k3 j dj w hj oj).symm)
  have fin : ∀ (p b : Addr) (us : List V) (xs : List D), H p = none → G b = none → setdH H a p kvs q b = some (.lst us) → RpA K G us xs → (mkAdd body [dn, .list xs]).sat (fun d' => ∀ F' H', Ext G (delH (setdH H a p kvs q) b) F' H' → F' b = none → OwnAt K F' H' b d' → Q .non H') (fun _ => False) →
      ∃ b', rdS mg K (kdW (kdT []) 3 b') (eXW K b' E) body { nx := fun _ H' => Q .non H', rt := Q } [some (.ref a), some (kV q), some nv, some (.ref b)] (setdH H a p kvs q) := fun p b us xs hp0 fb gb rx c => by
    refine ⟨b, G, _, G, _, stt p b us xs hp0 fb gb rx, ?_⟩
    have c : (addOut (body [none, none, some dn, some (.list xs)])).sat (fun d' => ∀ F' H', Ext G (delH (setdH H a p kvs q) b) F' H' → F' b = none → OwnAt K F' H' b d' → Q .non H') (fun _ => False) := c
    generalize body [none, none, some dn, some (.list xs)] = o at c ⊢
    cases o with
    | nx ρ =>
      intro σ' F' H' _ S'
      obtain ⟨d', hd', c⟩ := ofO_sat (show (ofO (ρ[3]?).join).sat _ _ from c)
      obtain ⟨u, hu, so⟩ := S'.slot 3 d' (join_some hd')
      rw [kdW_self] at so
      obtain ⟨e, h0, f0, o⟩ := so
      exact c F' H' S'.ext f0 o
    | bk ρ => exact (show False from c).elim
    | ct ρ => exact (show False from c).elim
    | rt d => exact (show False from c).elim
    | err x => exact (show False from c).elim
    | stk => exact (show False from c).elim
  refine ⟨.ref a, rfl, a, rfl, .inl ⟨kvs, .inl hH⟩, kV q, rfl, sz0, fun p hp0 => ?_⟩
  have pa : a ≠ p := fun z => by rw [← z, hH] at hp0; cases hp0
  obtain ⟨b, us, xs, eb, fb, gb, rx, nba, c⟩ := hp p hp0
  have key := fin p b us xs hp0 fb gb rx c
  refine ⟨kvs, q, by rw [upd_ne pa]; exact hH, rfl, hl, fun v hv => ?_, fun hn => ?_⟩
  · unfold setdB at eb
    rw [hv] at eb
    have eb : v = .ref b := eb
    subst eb
    unfold setdH at key
    rw [hv, if_neg (by simp)] at key
    exact key
  · unfold setdB at eb
    rw [hn] at eb
    have eb : V.ref p = .ref b := eb
    cases eb
    unfold setdH at key
    rw [if_pos hn] at key
    exact key
structure FnAdd (P : Program) (w : World) (K : Frag) (mg : Mg) (base : Heap) (k : Nat) (x : Str) (ps : List Str) (m2 : List D → Res D) : Prop where
  ex : ∃ f fd, mg x = some (.ref f) ∧ PySem.W.keepIn K (.ref f) = true ∧ Binds K fd ps [] ∧ FnOk P w K mg base (L2N.CX P w) k f fd ps (spAdd K m2)
def addFin (i : Nat) (q : Key) (ρ : Env) (ds : List (D × D)) (xs : List D) (m2 : List D → Res D) (dn : D) : Out := (noErr (m2 [dn, .list xs])).out fun d' => match d' with
  | .list ys => .nx (ρ.set i (some (.dict (putD ds q (.list ys)))))
  | _ => .stk
/-- add(d, k, n): own = d.setdefault(k, []), then own is changed -/
def mAddS (i : Nat) (mk mn : Env → Res D) (m2 : List D → Res D) : Env → Out := fun ρ => (getDct i ρ).out fun ds => (mk ρ).out fun dk => (ofO (keyOf dk)).out fun q => (mn ρ).out fun dn => if ds.length < sizeLine then (match valD ds q with
  | none => addFin i q ρ (putD ds q (.list [])) [] m2 dn
  | some (.list xs) => addFin i q ρ ds xs m2 dn
  | some _ => .stk) else .stk
section
variable {X : Cx} {κ : Nat → Kd} {E : EX} {ek en : Expr} {mk mn : Env → Res D} {m2 : List D → Res D} {pos : Pos}
theorem od_back {K : Frag} {F0 H0 F H F' H' : Hp} {σ : L2.St} {ρ : Env} (S : Stt K κ F0 H0 F H σ ρ) {i : Nat} {ds : List (D × D)} {q : Key} {xs ys : List D} {a b : Addr} {kvs : List (Key × V)} (hk : κ i = .od) (hd : ρ[i]? = some (some (.dict ds))) (hv : valD ds q = some (.list xs)) (hs : σ[i]? = some (some (.ref a))) (g : H a = some (.dK kvs)) (hb : valV kvs q = some (.ref b))
    (x : Ext F (delH H b) F' H') (fb : F' b = none) (o : OwnAt K F' H' b (.list ys)) : Stt K κ F0 H0 F' H' σ (ρ.set i (some (.dict (putD ds q (.list ys))))) := by
  obtain ⟨a', kvs', b', vs, e1, e2, _, e3, e4, _, gr⟩ := od_grow S hk hd hv
  rw [hs] at e1; cases e1
  rw [g] at e2; cases e2
  rw [hb] at e3; cases e3
  rcases o with ⟨vs', ys', e, hb', r⟩ | ⟨_, _, e, _⟩
  · cases e
    have xm : Ext F H F' (fun c => if c = b then some (.lst vs) else H' c) := by
      refine ⟨x.f, fun c u e => ?_, fun c h n => ?_, fun c u e => ?_, x.n⟩
      · by_cases z : c = b
        · rw [if_pos z, ← e4, ← z]; exact e
        · rw [if_neg z]; exact x.h c u (by rw [delH_ne z]; exact e)
      · by_cases z : c = b
        · rw [z]; exact fb
        · exact x.o c h (by rw [delH_ne z]; exact n)
      · by_cases z : c = b
        · rw [z, fb] at e; cases e
        · rw [if_neg z]; exact x.s c u e
    have s := gr F' _ vs' ys xm r
    have eH : upd (fun c => if c = b then some (.lst vs) else H' c) b (.lst vs') = H' := by
      funext c
      by_cases z : c = b
      · subst z; rw [upd_same, hb']
      · rw [upd_ne z, if_neg z]
    rw [eH] at s
    exact s
  · cases e
theorem addFin_out {mg : Mg} {K : Frag} {F0 H0 F H F1 H1 : Hp} {σ : L2.St} {ρ ρ3 : Env} {Dn : Ends} (S : Stt K κ F0 H0 F1 H1 σ ρ3) {i : Nat} {ds : List (D × D)} {q : Key} {xs : List D} {a b : Addr} {kvs : List (Key × V)} {dn : D} (hk : κ i = .od) (hd : ρ3[i]? = some (some (.dict ds))) (hv : valD ds q = some (.list xs)) (hs : σ[i]? = some (some (.ref a))) (g : H1 a = some (.dK kvs)) (hb : valV kvs q = some (.ref b))
    (hρ : ∀ z, ρ3.set i z = ρ.set i z) (x : Ex F F1) (c : OutOk mg K κ E F0 H0 F H Dn (addFin i q ρ ds xs m2 dn)) :
    (m2 [dn, .list xs]).sat (fun d' => ∀ F' H', Ext F1 (delH H1 b) F' H' → F' b = none → OwnAt K F' H' b d' → Dn.nx σ H') (fun _ => False) := by
  unfold addFin at c
  refine Res.sat_imp (noErr_sat (R' := fun _ => False) (out_sat c)) (fun d' _ c F' H' x3 fb o => ?_) fun _ z => z
  cases d' with
  | list ys =>
    refine c σ F' H' (x.trans x3.f) ?_
    rw [← hρ]
    exact od_back S hk hd hv hs g hb x3 fb o
  | _ => exact (show False from c).elim
theorem valD_putN {ds : List (D × D)} {q : Key} {d : D} (h : valD ds q = none) : valD (putD ds q d) q = some d := by
  have hf : ds.find? (fun p => decide (keyOf p.1 = some q)) = none := by
    unfold valD at h
    cases e : ds.find? (fun p => decide (keyOf p.1 = some q)) with
    | none => rfl
    | some p => rw [e] at h; cases h
  have ha : ¬ (ds.any fun p => decide (keyOf p.1 = some q)) = true := fun z => by
    obtain ⟨p, hp, hq⟩ := List.any_eq_true.mp z
    exact (List.find?_eq_none.mp hf p hp) hq
  unfold putD valD
  rw [if_neg ha, List.find?_append, hf]
  simp [keyOf_keyD]
theorem ds_addS {k i : Nat} {x y : Str} {p py spos : Pos} {ps : List Str} (G : FnAdd X.prog X.w X.K X.mg X.base k x ps m2) (hr : Room k X.A) (hx : ∀ σ, PassesAt (L2N.CX X.prog X.w) X σ (E.err σ)) (hg : Gl X x) (hk : κ i = .od) (hN : X.N[i]? = some y) (hv : Vis X.env.scope y) (he : DE X κ E ek mk) (hn : DE X κ E en mn)
    (hs : swapsWith (.Call (.Name x p) [.Name y py, ek, en] [] pos) none spos.line X.env = pure false := by rfl) (hdb : (x == ("__debug__" : Str)) = false := by decide) (hdy : (y == ("__debug__" : Str)) = false := by decide) (hcy : (y == ("__classdict__" : Str)) = false := by decide)
    (h1 : starEach [.Name y py, ek, en] X.env = (false, eval (.Name y py) X.env) :: starEach [ek, en] X.env := by rfl) (h2 : starEach [ek, en] X.env = (false, eval ek X.env) :: starEach [en] X.env := by rfl) (h3 : starEach [en] X.env = (false, eval en X.env) :: starEach [] X.env := by rfl)
    (hpl : (backTo pos (starEach [ek, en] X.env)).any (·.1) = false := by rfl) :
    DS X κ E (.Expr (.Call (.Name x p) [.Name y py, ek, en] [] pos) spos) (mAddS i mk mn m2) := by
  obtain ⟨f, fd, hm, hkp, hb, hF⟩ := G.ex
  refine (ps_expr (pe_callS hF hr hg hm hkp hb hx (pa_cons (pe_var hN hv hdy hcy) (pa_cons he (pa_cons hn pa_nil h3) h2) h1) hdb h1 hpl) hs).imp fun Dn σ H ⟨F0, H0, F, ρ, S, c⟩ => ?_
  obtain ⟨ds, hd, c⟩ := getDct_sat (out_sat c)
  obtain ⟨a, kvs, s0, a0, fa, g, ok, n1, n2⟩ := od_at S hk hd
  refine ⟨.ref a, s0, F0, H0, F, ρ, S, Res.sat_imp (out_sat c) (fun dk _ c y F1 H1 x1 ry => ?_) fun x z => err_back S z⟩
  obtain ⟨q, hkk, c⟩ := ofO_sat (out_sat c)
  obtain ⟨ey, _, ko⟩ := ry.key hkk
  subst ey
  refine ⟨F0, H0, F1, ρ, S.mono x1, Res.sat_imp (out_sat c) (fun dn _ c nv F2 H2 x2 rn => ?_) fun x z => (err_back S z).mono x1⟩
  by_cases z : ds.length < sizeLine
  case neg => rw [if_neg z] at c; exact (show False from c).elim
  rw [if_pos z] at c
  have x12 := x1.trans x2
  have S2 := S.mono x12
  have g2 : H2 a = some (.dK kvs) := x12.h _ _ g
  obtain ⟨a', kvs', e1, _, fa2, g2', ok2, _, _⟩ := od_at S2 hk hd
  rw [s0] at e1; cases e1
  rw [g2] at g2'; cases g2'
  refine ⟨F2, a, kvs, q, nv, dn, rfl, x2.s, x12.n S.nf, fa2, g2, by rw [← ok2.length]; exact z, rn, fun p' hp => ?_⟩
  have pa : a ≠ p' := fun e => by rw [← e, g2] at hp; cases hp
  have fp : F2 p' = none := fresh_back x2.s hp
  have x3 : Ext F2 H2 F2 (upd H2 p' (.lst [])) := .newO x2.s hp
  have S3 := S2.mono x3
  have g3 : upd H2 p' (.lst []) a = some (.dK kvs) := by rw [upd_ne pa]; exact g2
  rcases ok2.val q with ⟨hvn, hdn⟩ | ⟨b, vs, xs, hmem, hvk, hdk, h0b, fb, hbv, rb⟩
  · rw [hdn] at c
    have hno : ∀ j dj w, ρ[j]? = some (some dj) → σ[j]? = some (some w) → ¬ Owns (κ j) (upd H2 p' (.lst [])) w p' := fun j dj w hj ej ow =>
      ((S2.slotAt hj ej).owned (Owns.back (S2.slotAt hj ej) (fun a _ o q => x3.h a o q) (fun a o q => x3.s a o (x3.f a o q)) ow)).2.2 hp
    have S4 := od_new (vs := []) (xs := []) S3 hk hd s0 ko g3 hvn (fresh_back S2.h0 hp) fp upd_same .nil hno
    have hil : i < ρ.length := (List.getElem?_eq_some_iff.mp hd).1
    have hd4 : (ρ.set i (some (.dict (putD ds q (.list [])))))[i]? = some (some (.dict (putD ds q (.list [])))) := List.getElem?_set_self hil
    have hv4 : valD (putD ds q (.list [])) q = some (.list []) := valD_putN hdn
    have r := addFin_out (H := H) (b := p') S4 hk hd4 hv4 s0 upd_same (by rw [valV_put, if_pos rfl]) (fun z => by rw [List.set_set]) x12.f c
    refine ⟨p', [], [], by unfold setdB; rw [hvn], fp, by unfold setdH; rw [if_pos hvn, upd_ne pa.symm, upd_same], .nil, pa.symm, ?_⟩
    unfold setdH
    rw [if_pos hvn]
    exact r
  · rw [hdk] at c
    have bp : b ≠ p' := fun e => by rw [e, hp] at hbv; cases hbv
    have ba : b ≠ a := fun e => by rw [e, g2] at hbv; cases hbv
    have hne : ¬ valV kvs q = none := by rw [hvk]; simp
    have r := addFin_out (H := H) S3 hk hd hdk s0 g3 hvk (fun _ => rfl) x12.f c
    refine ⟨b, vs, xs, by unfold setdB; rw [hvk], fb, by unfold setdH; rw [if_neg hne, upd_ne bp]; exact hbv, rb, ba, ?_⟩
    unfold setdH
    rw [if_neg hne]
    exact r
theorem sg_addFin {i : Nat} {q : Key} {ds : List (D × D)} {xs : List D} {dn : D} : Straight (fun ρ => addFin i q ρ ds xs m2 dn) := fun ρ => sg_out fun d => by
  cases d <;> first | exact sg_nx | exact sg_stk
theorem sg_addS {i : Nat} : Straight (mAddS i mk mn m2) := fun ρ => sg_out fun ds => sg_out fun dk => sg_out fun q => sg_out fun dn => by
  by_cases z : ds.length < sizeLine
  · rw [if_pos z]
    cases valD ds q with
    | none => exact sg_addFin ρ
    | some d => cases d <;> first | exact sg_addFin ρ | exact sg_stk
  · rw [if_neg z]; exact sg_stk
end
end WD

/-! sorted(d), the keys texts; sorted(list of texts) -/
namespace WD
open PySem PySem.Spec PyProof.Rows L2
open Evl (Ex Ex.refl Ex.trans Ex.new Ex.mut ex_l ex_t fresh_back)
def leS (a b : Str) : Prop := ltCps b.cps.toList a.cps.toList = false
theorem leS_le {a b : Str} : leS a b ↔ a.cps.toList ≤ b.cps.toList := by
  unfold leS
  rw [ltCps_eq]
  simp
theorem leS_trans {a b c : Str} (h : leS a b) (g : leS b c) : leS a c := leS_le.mpr (List.le_trans (leS_le.mp h) (leS_le.mp g))
theorem leS_total (a b : Str) : leS a b ∨ leS b a := (List.le_total a.cps.toList b.cps.toList).imp leS_le.mpr leS_le.mpr
theorem leS_anti {a b : Str} (h : leS a b) (g : leS b a) : a = b := by
  have e := List.le_antisymm (leS_le.mp h) (leS_le.mp g)
  cases a; cases b
  simp only [Str.mk.injEq]
  exact Array.toList_inj.mp e
theorem rising_all : ∀ (l : List Str) (p : Str), risingS p l = true → (∀ x ∈ l, leS p x) ∧ l.Pairwise leS
  | [], p, _ => ⟨(fun _ h => by cases h), List.Pairwise.nil⟩
  | x :: r, p, h => by
    unfold risingS at h
    rw [Bool.and_eq_true] at h
    have hx : leS p x := by simpa [leS] using h.1
    obtain ⟨a, b⟩ := rising_all r x h.2
    refine ⟨fun y hy => ?_, List.pairwise_cons.mpr ⟨a, b⟩⟩
    rcases List.mem_cons.mp hy with rfl | hy
    · exact hx
    · exact leS_trans hx (a y hy)
theorem sorted_pair : ∀ {l : List Str}, sortedS l = true → l.Pairwise leS
  | [], _ => List.Pairwise.nil
  | x :: r, h => by
    obtain ⟨a, b⟩ := rising_all r x h
    exact List.pairwise_cons.mpr ⟨a, b⟩
def srtT (ks : List Str) : List Str := ks.mergeSort fun a b => !ltCps b.cps.toList a.cps.toList
theorem srtT_perm (ks : List Str) : (srtT ks).Perm ks := List.mergeSort_perm _ _
theorem srtT_pair (ks : List Str) : (srtT ks).Pairwise leS := by
  have := List.pairwise_mergeSort (le := fun a b : Str => !ltCps b.cps.toList a.cps.toList) (fun a b c h1 h2 => by
    have h1 : leS a b := by simpa [leS] using h1
    have h2 : leS b c := by simpa [leS] using h2
    have := leS_trans h1 h2
    simpa [leS] using this) (fun a b => by
    rcases leS_total a b with h | h
    · have : ltCps b.cps.toList a.cps.toList = false := h
      simp [this]
    · have : ltCps a.cps.toList b.cps.toList = false := h
      simp [this]) ks
  exact this.imp fun h => by simpa [leS] using h
theorem uniqT : ∀ {xs ys : List Str}, xs.Perm ys → xs.Pairwise leS → ys.Pairwise leS → xs = ys
  | [], ys, h, _, _ => by rw [List.nil_perm.mp h]
  | x :: xs, [], h, _, _ => by have := h.length_eq; simp at this
  | x :: xs, y :: ys, h, h1, h2 => by
    obtain ⟨a1, a2⟩ := List.pairwise_cons.mp h1
    obtain ⟨b1, b2⟩ := List.pairwise_cons.mp h2
    have hx : x ∈ y :: ys := h.mem_iff.mp (by simp)
    have hy : y ∈ x :: xs := h.mem_iff.mpr (by simp)
    have e : x = y := by
      rcases List.mem_cons.mp hx with z | z
      · exact z
      · rcases List.mem_cons.mp hy with w | w
        · exact w.symm
        · exact leS_anti (a1 y w) (b1 x z)
    subst e
    rw [uniqT ((List.perm_cons x).mp h) a2 b2]
def keyTs : List (D × D) → Option (List Str)
  | [] => some []
  | (.str x, _) :: ds => (keyTs ds).map (x :: ·)
  | _ => none
theorem keyTs_v {K : Frag} {F : Hp} : ∀ {kvs : List (Key × V)} {ds : List (D × D)} {ks : List Str}, RpK K F kvs ds → keyTs ds = some ks → kvs.map (·.1) = ks.map Sum.inr ∧ ∀ x ∈ ks, OkS x
  | _, _, ks, .nil, h => by cases h; exact ⟨rfl, (fun _ h => by cases h)⟩
  | _, _, ks, .cons (k := k) ko r a, h => by
    cases k with
    | inr x =>
      obtain ⟨rs, h1, h2⟩ := Option.map_eq_some_iff.mp (show (keyTs _).map (x :: ·) = some ks from h)
      subst h2
      obtain ⟨e1, e2⟩ := keyTs_v a h1
      refine ⟨by rw [List.map_cons, List.map_cons, e1], fun y hy => ?_⟩
      rcases List.mem_cons.mp hy with rfl | hy
      · exact ko
      · exact e2 y hy
    | inl i => cases h
theorem strs_rpA {K : Frag} {F : Hp} : ∀ ns : List Str, (∀ x ∈ ns, OkS x) → RpA K F (ns.map V.str) (ns.map PyData.str)
  | [], _ => .nil
  | n :: ns, h => .cons (.str n (h n (by simp))) (strs_rpA ns fun x hx => h x (by simp [hx]))
def mSortT (m : Env → Res D) : Env → Res (List D) := fun ρ => (m ρ).bind fun d => match d with
  | .dict ds => (ofO (keyTs ds)).bind fun ks => if ks.length < 64 then .ok ((srtT ks).map PyData.str) else .stk
  | _ => .stk
section
variable {X : Cx} {κ : Nat → Kd} {E : EX} {e : Expr} {pos p : Pos} {ma : Env → Res D}
theorem dn_sortT (hc : X.calm = true) (hg : Gl X "sorted") (hm : X.mg "sorted" = none) (ha : DB X κ E e ma) (hv : bootBuiltins "sorted" = some (.builtin "sorted") := by decide +kernel) (he : starEach [e] X.env = (false, eval e X.env) :: starEach [] X.env := by rfl) (hpl : (backTo pos (starEach [] X.env)).any (·.1) = false := by rfl) :
    DN X κ E (.Call (.Name "sorted" p) [e] [] pos) (mSortT ma) :=
  (pe_callB (call_sortedD hc) hg hm hv (pa_cons ha pa_nil he) (by decide) (by decide) he hpl).imp fun σ H Q ⟨F0, H0, F, ρ, S, c⟩ => ⟨F0, H0, F, ρ, S, Res.sat_imp (Res.sat_bind c) (fun d _ k v F' H' x r => by
    cases d with
    | dict ds =>
      obtain ⟨ks, hk, k⟩ := ofO_sat (Res.sat_bind k)
      by_cases z : ks.length < 64
      · simp only [if_pos z] at k
        obtain ⟨q, kvs, rfl, h, rk⟩ := r.dict x.s
        obtain ⟨kv1, kv2⟩ := keyTs_v rk hk
        refine ⟨q, kvs, ks, rfl, h, kv1, z, fun ys q2 hp hs hq => ?_⟩
        have e : ys = srtT ks := uniqT (hp.trans (srtT_perm ks).symm) (sorted_pair hs) (srtT_pair ks)
        subst e
        exact k q2 _ F' _ (x.trans (.newO x.s hq)) (fresh_back x.h hq) (none_of_ex x.s hq) upd_same (strs_rpA _ fun y hy => kv2 y ((srtT_perm ks).mem_iff.mp hy))
      · simp only [if_neg z] at k; exact k.elim
    | _ => exact k.elim) fun _ z => z⟩
/-- the empty dict display, to be looked at only -/
theorem db_dict : DB X κ E (.Dict [] [] pos) (mC (.dict [])) := (pe_dnewK).imp fun σ H Q ⟨F0, H0, F, ρ, S, c⟩ => fun q hq =>
  c _ F _ (Ext.newO S.sub hq) (.inr ⟨q, rfl, .inr ⟨[], [], rfl, upd_same, .nil⟩⟩)
def strLs : List D → Option (List Str)
  | [] => some []
  | .str x :: ds => (strLs ds).map (x :: ·)
  | _ => none
theorem strLs_v {K : Frag} {F : Hp} : ∀ {vs : List V} {ds : List D} {ks : List Str}, RpA K F vs ds → strLs ds = some ks → vs = ks.map V.str ∧ ∀ x ∈ ks, OkS x
  | _, _, ks, .nil, h => by cases h; exact ⟨rfl, (fun _ h => by cases h)⟩
  | _, _, ks, .cons (d := d) r a, h => by
    cases d with
    | str x =>
      obtain ⟨rs, h1, h2⟩ := Option.map_eq_some_iff.mp (show (strLs _).map (x :: ·) = some ks from h)
      subst h2
      obtain ⟨e1, e2⟩ := strLs_v a h1
      cases r with
      | str y ok =>
        refine ⟨by rw [List.map_cons, e1], fun y hy => ?_⟩
        rcases List.mem_cons.mp hy with rfl | hy
        · exact ok
        · exact e2 y hy
    | _ => cases h
def mSortL (m : Env → Res D) : Env → Res (List D) := fun ρ => (m ρ).bind fun d => match d with
  | .list ds => (ofO (strLs ds)).bind fun ks => if ks.length < 64 then .ok ((srtT ks).map PyData.str) else .stk
  | _ => .stk
theorem dn_sortL (hg : Gl X "sorted") (hm : X.mg "sorted" = none) (ha : DB X κ E e ma) (hv : bootBuiltins "sorted" = some (.builtin "sorted") := by decide +kernel) (he : starEach [e] X.env = (false, eval e X.env) :: starEach [] X.env := by rfl) (hpl : (backTo pos (starEach [] X.env)).any (·.1) = false := by rfl) :
    DN X κ E (.Call (.Name "sorted" p) [e] [] pos) (mSortL ma) :=
  (pe_callB cr_sortedS hg hm hv (pa_cons ha pa_nil he) (by decide) (by decide) he hpl).imp fun σ H Q ⟨F0, H0, F, ρ, S, c⟩ => ⟨F0, H0, F, ρ, S, Res.sat_imp (Res.sat_bind c) (fun d _ k v F' H' x r => by
    cases d with
    | list ds =>
      obtain ⟨ks, hk, k⟩ := ofO_sat (Res.sat_bind k)
      by_cases z : ks.length < 64
      · simp only [if_pos z] at k
        obtain ⟨q, vs, rfl, h, rk⟩ := r.list x.s
        obtain ⟨kv1, kv2⟩ := strLs_v rk hk
        subst kv1
        refine ⟨q, ks, rfl, h, z, fun ys q2 hp hs hq => ?_⟩
        have e : ys = srtT ks := uniqT (hp.trans (srtT_perm ks).symm) (sorted_pair hs) (srtT_pair ks)
        subst e
        exact k q2 _ F' _ (x.trans (.newO x.s hq)) (fresh_back x.h hq) (none_of_ex x.s hq) upd_same (strs_rpA _ fun y hy => kv2 y ((srtT_perm ks).mem_iff.mp hy))
      · simp only [if_neg z] at k; exact k.elim
    | _ => exact k.elim) fun _ z => z⟩
/-! for v in d.values() -/
def mValsX (m : Env → Res D) : Env → Res (List D) := fun ρ => (m ρ).bind fun d => match d with
  | .dict ds => .ok (ds.map (·.2))
  | _ => .stk
@[simp] theorem mValsX_at (m : Env → Res D) (ρ : Env) : mValsX m ρ = (m ρ).bind fun d => match d with
  | .dict ds => .ok (ds.map (·.2))
  | _ => .stk := rfl
@[simp] theorem mSortT_at (m : Env → Res D) (ρ : Env) : mSortT m ρ = (m ρ).bind fun d => match d with
  | .dict ds => (ofO (keyTs ds)).bind fun ks => if ks.length < 64 then .ok ((srtT ks).map PyData.str) else .stk
  | _ => .stk := rfl
@[simp] theorem mSortL_at (m : Env → Res D) (ρ : Env) : mSortL m ρ = (m ρ).bind fun d => match d with
  | .list ds => (ofO (strLs ds)).bind fun ks => if ks.length < 64 then .ok ((srtT ks).map PyData.str) else .stk
  | _ => .stk := rfl
theorem valsA {K : Frag} {F : Hp} : ∀ {kvs : List (Key × V)} {ds : List (D × D)}, RpK K F kvs ds → RpA K F (kvs.map (·.2)) (ds.map (·.2))
  | _, _, .nil => .nil
  | _, _, .cons ko r a => .cons r (valsA a)
theorem walk_vals {K : Frag} {F : Hp} {d : Addr} {ob : Obj} {kvs : List (Key × V)} {ds : List (D × D)} (h : F d = some (.frz ob (.dK kvs))) (r : RpK K F kvs ds) : WalkD K (fun F2 H2 => Ex F F2) (Itd d ob kvs) (ds.map (·.2)) := fun i F2 H2 g s hi => by
  have hl := (valsA r).length
  rw [List.length_map, List.length_map] at hl
  rw [List.length_map] at hi ⊢
  have hd : H2 d = some (.frz ob (.dK kvs)) := s _ _ (g _ _ h)
  refine ⟨fun hlt => ⟨⟨hd, by omega⟩, fun x H3 ⟨e, k, hk⟩ => ?_⟩, fun e => ⟨hd, by omega⟩⟩
  subst e
  have hg : (kvs.map fun kv => kv.2)[i]? = some x := by rw [List.getElem?_map, hk]; rfl
  obtain ⟨dd, h1, h2⟩ := (valsA (r.mono g)).getV hg
  exact ⟨dd, F2, h1, Ext.refl s, h2⟩
theorem di_vals {tg : Expr} {apos cpos : Pos} (ha : DE X κ E e ma) (hbase : attributeBase e "values" X.env (eval e X.env) = eval e X.env := by rfl) (hline : (apos.endLine == cpos.line) = true := by rfl) : DI X κ E tg (.Call (.Attribute e "values" apos) [] [] cpos) (mValsX ma) :=
  (pi_values ha hbase hline).imp fun σ H R ⟨F0, H0, F, ρ, S, k⟩ => ⟨F0, H0, F, ρ, S, Res.sat_imp (Res.sat_bind k) (fun d _ k v F' H' x r => by
    cases r with
    | @dct p kvs ds h a =>
      rcases h with h | ⟨ob, h⟩
      · exact absurd h ((x.n S.nf) p kvs)
      · exact ⟨p, ob, kvs, rfl, x.s _ _ h, k _ F' H' x (walk_vals h a)⟩
    | _ => exact k.elim) fun _ z => z⟩
end
end WD

/-! lists of lists of their own: x = [[], []], x[k].append(v), x[k] read -/
namespace WD
open PySem PySem.Spec PyProof.Rows L2
open Evl (Ex Ex.refl Ex.trans Ex.new Ex.mut ex_l ex_t fresh_back)
section
variable {K : Frag} {κ : Nat → Kd} {F0 H0 F H F' H' : Hp} {σ : L2.St} {ρ : Env}
theorem OlK.get : ∀ {bs : List Addr} {ds : List D} {j : Nat} {d : D}, OlK K H0 F H bs ds → ds[j]? = some d → ∃ b vs xs, bs[j]? = some b ∧ d = .list xs ∧ H b = some (.lst vs) ∧ RpA K F vs xs
  | _, _, _, _, .nil, h => by cases h
  | _, _, 0, d, .cons h1 h2 h3 h4 h5, h => by
    have e : PyData.list _ = d := Option.some.inj h
    exact ⟨_, _, _, rfl, e.symm, h3, h4⟩
  | _, _, j + 1, d, .cons h1 h2 h3 h4 h5, h => h5.get (j := j) h
theorem OlK.put {b : Addr} {vs' : List V} {xs' : List D} (f : Ex F F') (hb : H' b = some (.lst vs')) (r : RpA K F' vs' xs') {bs : List Addr} {ds : List D} (ok : OlK K H0 F H bs ds) : ∀ {j : Nat}, bs[j]? = some b → bs.Nodup → (∀ c ∈ bs, F' c = none) → (∀ c ∈ bs, c ≠ b → ∀ o, H c = some o → H' c = some o) → OlK K H0 F' H' bs (ds.set j (.list xs')) := by
  induction ok with
  | nil => intro j h; cases h
  | @cons c vs xs bs ds h1 h2 h3 h4 h5 ih =>
    intro j h nd hF ho
    obtain ⟨n1, n2⟩ := List.nodup_cons.mp nd
    cases j with
    | zero =>
      have e : c = b := Option.some.inj h
      subst e
      exact .cons h1 (hF _ List.mem_cons_self) hb r (h5.mono f (fun d hd => hF d (List.mem_cons_of_mem _ hd)) fun d hd => ho d (List.mem_cons_of_mem _ hd) fun z => n1 (z ▸ hd))
    | succ j =>
      have h : bs[j]? = some b := h
      have hm : b ∈ bs := List.mem_of_getElem? h
      exact .cons h1 (hF _ List.mem_cons_self) (ho _ List.mem_cons_self (fun z => n1 (z ▸ hm)) _ h3) (h4.mono f) (ih h n2 (fun d hd => hF d (List.mem_cons_of_mem _ hd)) fun d hd => ho d (List.mem_cons_of_mem _ hd))
theorem ol_at (S : Stt K κ F0 H0 F H σ ρ) {i : Nat} {d : D} (hk : κ i = .ol) (h : ρ[i]? = some (some d)) :
    ∃ a bs ds, d = .list ds ∧ σ[i]? = some (some (.ref a)) ∧ H0 a = none ∧ F a = none ∧ H a = some (.lst (bs.map V.ref)) ∧ OlK K H0 F H bs ds ∧ bs.Nodup ∧ a ∉ bs := by
  obtain ⟨v, h1, h2⟩ := S.slot i _ h
  rw [hk] at h2
  obtain ⟨a, bs, ds, e, h0, f0, e2, g, ok, n1, n2⟩ := h2
  exact ⟨a, bs, ds, e2, by rw [h1, e], h0, f0, g, ok, n1, n2⟩
/-- one of the lists grows -/
theorem ol_grow (S : Stt K κ F0 H0 F H σ ρ) {i j : Nat} {ds : List D} {d : D} (hk : κ i = .ol) (hd : ρ[i]? = some (some (.list ds))) (hj : ds[j]? = some d) :
    ∃ (a : Addr) (bs : List Addr) (b : Addr) (vs : List V) (xs : List D), d = .list xs ∧ σ[i]? = some (some (.ref a)) ∧ H a = some (.lst (bs.map V.ref)) ∧ bs.length = ds.length ∧ bs[j]? = some b ∧ H b = some (.lst vs) ∧ RpA K F vs xs ∧ ∀ F' H' vs' xs', Ext F H F' H' → RpA K F' vs' xs' → Stt K κ F0 H0 F' (upd H' b (.lst vs')) σ (ρ.set i (some (.list (ds.set j (.list xs'))))) := by
  obtain ⟨a, bs, ds', e0, e1, a0, fa, g, ok, n1, n2⟩ := ol_at S hk hd
  cases e0
  obtain ⟨b, vs, xs, hbj, rfl, hb, rx⟩ := ok.get hj
  have hm : b ∈ bs := List.mem_of_getElem? hbj
  obtain ⟨_, fb, _⟩ := ok.mem hm
  refine ⟨a, bs, b, vs, xs, rfl, e1, g, ok.len, hbj, hb, rx, fun F' H' vs' xs' x r => ?_⟩
  have S' := S.mono x
  have fb' : F' b = none := x.o b fb (some_ne hb)
  have fa' : F' a = none := x.o a fa (some_ne g)
  have ab : a ≠ b := fun z => n2 (by rw [z]; exact hm)
  have own : Owns (κ i) H' (.ref a) b := by rw [hk]; exact .inr ⟨a, _, rfl, x.h _ _ g, List.mem_map.mpr ⟨b, hm, rfl⟩⟩
  have inF : ∀ c o, F' c = some o → upd H' b (.lst vs') c = some o := fun c o e => by rw [upd_ne (ne_of_none e fb')]; exact x.s c o e
  refine S'.chg hd e1 (Ex.refl F') inF S'.nf (fun _ h _ => h) (fun c y hy nb => ?_) ?_ fun c oc => .inl ?_
  · rw [upd_ne (fun z => nb (by rw [z]; exact own))]; exact hy
  · rw [hk]
    refine ⟨a, bs, _, rfl, a0, fa', rfl, by rw [upd_ne ab]; exact x.h _ _ g, ?_, n1, n2⟩
    exact OlK.put x.f upd_same r ok hbj n1 (fun c hc => x.o c (ok.mem hc).2.1 (some_ne (ok.mem hc).2.2.choose_spec)) fun c hc nb o ho => by rw [upd_ne nb]; exact x.h _ _ ho
  · rw [hk] at oc ⊢
    rcases (show V.ref a = .ref c ∨ ∃ a2 w2, V.ref a = .ref a2 ∧ upd H' b (.lst vs') a2 = some (.lst w2) ∧ V.ref c ∈ w2 from oc) with z | ⟨a2, w2, e3, e4, e5⟩
    · exact .inl z
    · cases e3
      rw [upd_ne ab] at e4
      exact .inr ⟨a, w2, rfl, e4, e5⟩
end
section
variable {X : Cx} {κ : Nat → Kd} {E : EX} {a b c e o : Expr} {es : List Expr} {pos : Pos} {ma mb mk mv me m : Env → Res D}
/-- x = [[], []] -/
def mNewL2 (i : Nat) : Env → Out := fun ρ => .nx (ρ.set i (some (.list [.list [], .list []])))
theorem ds_setL2 {i : Nat} {x : Str} {pos' p2 p3 p4 : Pos} (hk : κ i = .ol) (hN : X.N.Nodup) (hi : X.N[i]? = some x) (hx : Loc X.env.scope x) (hs : swapsWith (.List [.List [] p3, .List [] p4] p2) (some (.Name x pos')) pos.line X.env = pure false := by rfl)
    (hf : X.fn x = true ∨ X.env.scope.names.lookup x = some .local := by first | exact .inl rfl | exact .inr rfl | assumption) : DS X κ E (.Assign [.Name x pos'] (.List [.List [] p3, .List [] p4] p2) pos) (mNewL2 i) :=
  (ps_set (i := i) hN hi hx (pe_lst (pa_cons (pe_lst pa_nil) (pa_cons (pe_lst pa_nil) pa_nil))) hs hf).imp fun Dn σ H ⟨F0, H0, F, ρ, S, k⟩ => ⟨Nat.zero_le _, fun p hp => ⟨Nat.zero_le _, fun q hq => ⟨by rw [sizeLine_eq]; show 2 ≤ _; omega, fun a ha => by
    have x1 := Ext.newO (o := .lst []) S.sub hp
    have x2 := Ext.newO (o := .lst []) x1.s hq
    have x3 := Ext.newO (o := .lst [.ref p, .ref q]) x2.s ha
    have y := (x1.trans x2).trans x3
    have S1 := S.mono x1
    have S2 := S1.mono x2
    have hq0 : H q = none := by
      cases z : H q with
      | none => rfl
      | some o => have := x1.h _ _ z; rw [hq] at this; cases this
    have ha0 : H a = none := by
      cases z : H a with
      | none => rfl
      | some o => have := (x1.trans x2).h _ _ z; rw [ha] at this; cases this
    have pq : p ≠ q := fun z => by rw [← z, upd_same] at hq; cases hq
    have pa : p ≠ a := fun z => by rw [← z, upd_ne pq, upd_same] at ha; cases ha
    have qa : q ≠ a := fun z => by rw [← z, upd_same] at ha; cases ha
    have gp : upd (upd (upd H p (.lst [])) q (.lst [])) a (.lst [.ref p, .ref q]) p = some (.lst []) := by rw [upd_ne pa, upd_ne pq, upd_same]
    have gq : upd (upd (upd H p (.lst [])) q (.lst [])) a (.lst [.ref p, .ref q]) q = some (.lst []) := by rw [upd_ne qa, upd_same]
    refine k _ F _ (Ex.refl F) ((S.mono y).setW ?_ fun j c dj w hj ej nj oi oj => ?_)
    · rw [hk]
      exact ⟨a, [p, q], _, rfl, fresh_back S.h0 ha0, none_of_ex S.sub ha0, rfl, upd_same, .cons (fresh_back S.h0 hp) (none_of_ex S.sub hp) gp .nil (.cons (fresh_back S.h0 hq0) (none_of_ex S.sub hq0) gq .nil .nil), by simp [pq], by simp [Ne.symm pa, Ne.symm qa]⟩
    · have hc : c = a ∨ c = p ∨ c = q := by
        rw [hk] at oi
        rcases (show V.ref a = .ref c ∨ ∃ a2 ws, V.ref a = .ref a2 ∧ upd (upd (upd H p (.lst [])) q (.lst [])) a (.lst [.ref p, .ref q]) a2 = some (.lst ws) ∧ V.ref c ∈ ws from oi) with z | ⟨a2, ws, e1, e2, e3⟩
        · cases z; exact .inl rfl
        · cases e1; rw [upd_same] at e2; cases e2
          rcases List.mem_cons.mp e3 with z | z
          · cases z; exact .inr (.inl rfl)
          · cases List.mem_singleton.mp z; exact .inr (.inr rfl)
      have g := S.slotAt hj ej
      have hn := (g.owned (Owns.back g (fun a _ o q => y.h a o q) (fun a o q => y.s a o (y.f a o q)) oj)).2.2
      rcases hc with rfl | rfl | rfl
      · exact hn ha0
      · exact hn hp
      · exact hn hq0⟩⟩⟩
/-- the place an index means, and the list there -/
def ixD (n : Nat) : D → Res Nat
  | .int k => ofO (ixN n k)
  | _ => .stk
theorem ixD_sat {n : Nat} {d : D} {P : Nat → Prop} {R : Exn → Prop} (h : (ixD n d).sat P R) : ∃ k j, d = .int k ∧ ixN n k = some j ∧ P j := by
  unfold ixD at h
  split at h
  · rename_i k
    obtain ⟨j, hj, h⟩ := ofO_sat h
    exact ⟨k, j, rfl, hj, h⟩
  · exact h.elim
def lsAt (ds : List D) (j : Nat) : Res (List D) := match ds[j]? with
  | some (.list xs) => .ok xs
  | _ => .stk
theorem lsAt_sat {ds : List D} {j : Nat} {P : List D → Prop} {R : Exn → Prop} (h : (lsAt ds j).sat P R) : ∃ xs, ds[j]? = some (.list xs) ∧ P xs := by
  unfold lsAt at h
  split at h
  · rename_i xs e; exact ⟨xs, e, h⟩
  · exact h.elim
/-- x[k].append(v) -/
def mAppL (i : Nat) (mk m : Env → Res D) : Env → Out := fun ρ => (getL i ρ).out fun ds => (mk ρ).out fun dk => (ixD ds.length dk).out fun j => (lsAt ds j).out fun xs => (m ρ).out fun y => if xs.length < sizeLine then .nx (ρ.set i (some (.list (ds.set j (.list (xs ++ [y])))))) else .stk
theorem ds_appL {i : Nat} {x : Str} {px : Pos} {apos cpos pos p3 : Pos} (hk : κ i = .ol) (hN : X.N[i]? = some x) (hv : Vis X.env.scope x)
    (hx : PE X (.Call (.Attribute (.Subscript (.Name x px) a p3) "append" apos) [e] [] cpos) (tBM X.K "list" rAppend (tOp (rIxL X.K) (tVar i) (rdE X.mg X.K κ E mk)) (tCons (rdE X.mg X.K κ E m) tNil)))
    (hs : swapsWith (.Call (.Attribute (.Subscript (.Name x px) a p3) "append" apos) [e] [] cpos) none pos.line X.env = pure false := by rfl) : DS X κ E (.Expr (.Call (.Attribute (.Subscript (.Name x px) a p3) "append" apos) [e] [] cpos) pos) (mAppL i mk m) :=
  (ps_expr hx hs).imp fun Dn σ H ⟨F0, H0, F, ρ, S, k⟩ => by
    obtain ⟨ds, hd, k⟩ := getL_sat (out_sat k)
    obtain ⟨a, bs, ds', e0, hs', a0, fa, g, ok, n1, n2⟩ := ol_at S hk hd
    cases e0
    refine ⟨.ref a, hs', F0, H0, F, ρ, S, Res.sat_imp (out_sat k) (fun dk _ k y1 F1 H1 x1 r1 => ?_) fun x z => err_back S z⟩
    have S1 := S.mono x1
    obtain ⟨kk, j, rfl, hj, k⟩ := ixD_sat (out_sat k)
    cases r1
    obtain ⟨xs, hxs, k⟩ := lsAt_sat (out_sat k)
    obtain ⟨a', bs', b, vs, xs', e3, e4, g4, l4, hb4, h4, r4, gr⟩ := ol_grow S hk hd hxs
    cases e3
    rw [hs'] at e4
    cases e4
    rw [g] at g4
    have hbs : atI (bs.map V.ref) kk = some (.ref b) := by
      have eb : bs.map V.ref = bs'.map V.ref := HO.lst.inj (Option.some.inj g4)
      rw [eb]
      unfold atI
      rw [List.length_map, l4, hj]
      show (bs'.map V.ref)[j]? = _
      rw [List.getElem?_map, hb4]; rfl
    refine ⟨a, bs.map V.ref, kk, .ref b, rfl, rfl, Evl.sq_of (x1.h _ _ g), hbs, .inl ⟨rfl, vs, Evl.sq_of (x1.h _ _ h4)⟩, F0, H0, F1, ρ, S1, Res.sat_imp (out_sat k) (fun dy _ k y3 F3 H3 x3 r3 => ?_) fun x z => err_back S1 z⟩
    have x13 := x1.trans x3
    by_cases z : xs.length < sizeLine
    · simp only [if_pos z] at k
      exact ⟨b, vs, y3, rfl, rfl, x13.h _ _ h4, by rw [r4.length]; exact z, k _ F3 _ x13.f (gr F3 H3 _ _ x13 ((r4.mono x13.f).append (.cons r3 .nil)))⟩
    · simp only [if_neg z] at k; exact k.elim
/-- x[k], read -/
theorem db_olAt {i : Nat} {x : Str} {px : Pos} (hk : κ i = .ol) (hN : X.N[i]? = some x) (hv : Vis X.env.scope x) (hb : DE X κ E b mk) (hs : PlainIx b := by exact fun _ _ => rfl) (hdb : (x == ("__debug__" : Str)) = false := by decide) (hcd : (x == ("__classdict__" : Str)) = false := by decide) : DB X κ E (.Subscript (.Name x px) b pos) (mBin atD (mVar i) mk) :=
  (pe_ix ix_list (pe_var hN hv hdb hcd) hb hs).imp fun σ H Q ⟨F0, H0, F, ρ, S, c⟩ => by
    have c1 := Res.sat_bind c
    obtain ⟨d, hd, c2⟩ := ofO_sat c1
    obtain ⟨a, bs, ds, e0, hs, a0, fa, g, ok, n1, n2⟩ := ol_at S hk (join_some hd)
    subst e0
    refine ⟨.ref a, hs, F0, H0, F, ρ, S, Res.sat_imp (Res.sat_bind c2) (fun dk _ k y1 F1 H1 x1 r1 => ?_) fun _ z => z⟩
    cases dk with
    | int kk =>
      cases r1
      obtain ⟨d, hd2, k⟩ := ofO_sat (show (ofO (atI ds kk)).sat _ _ from k)
      unfold atI at hd2
      cases hj : ixN ds.length kk with
      | none => rw [hj] at hd2; cases hd2
      | some j =>
        rw [hj] at hd2
        obtain ⟨b, vs, xs, hb1, rfl, hb2, r⟩ := ok.get (show ds[j]? = some d from hd2)
        have hbs : atI (bs.map V.ref) kk = some (.ref b) := by
          unfold atI
          rw [List.length_map, ok.len, hj]
          show (bs.map V.ref)[j]? = _
          rw [List.getElem?_map, hb1]; rfl
        exact ⟨a, bs.map V.ref, kk, .ref b, rfl, rfl, Evl.sq_of (x1.h _ _ g), hbs, k (.ref b) F1 H1 x1 (.inr ⟨b, rfl, .inl ⟨vs, xs, rfl, x1.h _ _ hb2, r.mono x1.f⟩⟩)⟩
    | _ => exact k.elim
theorem sg_newL2 {i : Nat} : Straight (mNewL2 i) := fun ρ => ⟨fun ρ' h => (by cases h), fun ρ' h => (by cases h)⟩
end
end WD

/-! [e for x in xs for y in ys(x)] -/
namespace WD
open PySem PySem.Spec PyProof.Rows L2
open Evl (Ex Ex.refl Ex.trans Ex.new Ex.mut ex_l ex_t fresh_back)
section
variable {K : Frag} {κ : Nat → Kd} {F0 H0 F H : Hp} {σ : L2.St} {ρ : Env}
def NoOwn (κ : Nat → Kd) (H : Hp) (σ : L2.St) (ρ : Env) (Dl : Addr) : Prop := ∀ j d w, ρ[j]? = some (some d) → σ[j]? = some (some w) → ¬ Owns (κ j) H w Dl
theorem NoOwn.mono (S : Stt K κ F0 H0 F H σ ρ) {F' H' : Hp} (x : Ext F H F' H') {Dl : Addr} (h : NoOwn κ H σ ρ Dl) : NoOwn κ H' σ ρ Dl := fun j d w hj ej ow =>
  h j d w hj ej (Owns.back (S.slotAt hj ej) (fun a _ o q => x.h a o q) (fun a o q => x.s a o (x.f a o q)) ow)
theorem NoOwn.upd (S : Stt K κ F0 H0 F H σ ρ) {Dl : Addr} {o : HO} (hF : F Dl = none) (h : NoOwn κ H σ ρ Dl) : NoOwn κ (upd H Dl o) σ ρ Dl := fun j d w hj ej ow =>
  h j d w hj ej (Owns.back (S.slotAt hj ej) (fun a ea x q => by
    rw [upd_ne fun z => ?_]; exact q
    subst ea z
    refine h j d _ hj ej ?_
    have q := owns_owned ow
    generalize κ j = k at q ⊢
    cases k <;> first | exact rfl | exact Or.inl rfl | cases q) (fun a o q => by rw [upd_ne (ne_of_none q hF)]; exact S.sub a o q) ow)
/-- an object that no slot owns is changed -/
theorem Stt.updFree (S : Stt K κ F0 H0 F H σ ρ) {Dl : Addr} {o : HO} (h0 : H0 Dl = none) (hF : F Dl = none) (no : NoOwn κ H σ ρ Dl) : Stt K κ F0 H0 F (upd H Dl o) σ ρ := by
  have sub : ∀ a u, F a = some u → upd H Dl o a = some u := fun a u q => by rw [upd_ne (ne_of_none q hF)]; exact S.sub a u q
  have keep : ∀ {j : Nat} {d : D} {w : V}, ρ[j]? = some (some d) → σ[j]? = some (some w) → ∀ b, Owns (κ j) H w b → ∀ u, H b = some u → upd H Dl o b = some u := fun {j d w} hj ej b ob u hu => by
    rw [upd_ne fun z => no j d w hj ej (by rw [← z]; exact ob)]; exact hu
  have back : ∀ {j : Nat} {d : D} {w : V} {b : Addr}, ρ[j]? = some (some d) → σ[j]? = some (some w) → Owns (κ j) (upd H Dl o) w b → Owns (κ j) H w b := fun {j d w b} hj ej ow =>
    Owns.back (S.slotAt hj ej) (fun a ea x q => by
      subst ea
      refine keep hj ej a ?_ x q
      have q := owns_owned ow
      generalize κ j = k at q ⊢
      cases k <;> first | exact rfl | exact Or.inl rfl | cases q) sub ow
  refine ⟨S.ex0, fun b u e => by rw [upd_ne (ne_of_none e h0)]; exact S.h0 b u e, S.o0, sub, S.nf, S.len, fun j d hj => ?_, fun i j b di dj u w n hi hj ei ej oi oj => S.sep i j b di dj u w n hi hj ei ej (back hi ei oi) (back hj ej oj)⟩
  obtain ⟨w, g1, g2⟩ := S.slot j d hj
  exact ⟨w, g1, g2.keep (Ex.refl F) (fun b ob => (g2.owned ob).2.1) (fun b u hb hu => by rw [upd_ne fun z => hb (by rw [z]; exact h0)]; exact hu) (keep hj g1) sub⟩
end
/-- the names that a target stores -/
def GIn (is : List Nat) (g : D → Env → Option Env) : Prop := ∀ d ρ ρ', g d ρ = some ρ' → ∀ i, i ∉ is → ρ'[i]? = ρ[i]?
theorem gin_set (i : Nat) : GIn [i] (gSet i) := fun d ρ ρ' h j hj => by
  have : ρ.set i (some d) = ρ' := Option.some.inj h
  rw [← this, List.getElem?_set_ne (fun z => hj (by simp [z]))]
def comp2 (g : D → Env → Option Env) (mi1 : Env → Res (List D)) (g1 : D → Env → Option Env) (t1 : Env → Res Bool) (m : Env → Res D) (vs1 : List Nat) (ρ : Env) : List D → Res (List D)
  | [] => .ok []
  | d :: ds =>
    match g d ρ with
    | none => .stk
    | some ρ1 => (noErr (mi1 ρ1)).bind fun es => (noErr (compL g1 t1 m (forget vs1 ρ1) es)).bind fun xs => (comp2 g mi1 g1 t1 m vs1 ρ ds).bind fun ys => .ok (xs ++ ys)
def mLc2 (it : Env → Res (List D)) (g : D → Env → Option Env) (mi1 : Env → Res (List D)) (g1 : D → Env → Option Env) (t1 : Env → Res Bool) (m : Env → Res D) (vs vs1 : List Nat) : Env → Res (List D) := fun ρ =>
  (it ρ).bind fun ds => (noErr (comp2 g mi1 g1 t1 m vs1 (forget vs ρ) ds)).bind fun out => if out.length ≤ sizeLine then .ok out else .stk
section
variable {X : Cx} {κ : Nat → Kd} {E : EX} {pos : Pos}
theorem lc2_read {mg : Mg} {K : Frag} {mi mi1 : Env → Res (List D)} {is is1 vs vs1 : List Nat} {g g1 : D → Env → Option Env} {mt1 : Env → Res Bool} {me : Env → Res D} (his : ∀ i ∈ is, i ∈ vs) (his1 : ∀ i ∈ is1, i ∈ vs1) (hg : GIn is g) (him : ∀ i ∈ is, κ i = .im) : ∀ σ H Q, rdN mg K κ E (mLc2 mi g mi1 g1 mt1 me vs vs1) σ H Q →
    tLc2 (rdIp mg K κ E mi) (rdG K κ is g) (rdT mg K κ EX0 mYes) (rdI mg K κ EX0 mi1) (rdG K κ is1 g1) (rdT mg K κ EX0 mt1) (rdE mg K κ EX0 me) vs vs1 σ H Q :=
  fun σ H Q ⟨F0, H0, F, ρ, S, k⟩ => ⟨F0, H0, F, ρ, S, Res.sat_imp (Res.sat_bind k) (fun ds _ k J F1 H1 x1 w Dl hD => by
    have k := noErr_sat (R' := fun _ => False) (Res.sat_bind k)
    cases hc : comp2 g mi1 g1 mt1 me vs1 (forget vs ρ) ds with
    | err x => rw [hc] at k; exact k.elim
    | stk => rw [hc] at k; exact k.elim
    | ok out =>
      rw [hc] at k
      have k : (if out.length ≤ sizeLine then (Res.ok out : Res (List D)) else .stk).sat _ _ := k
      by_cases hz : out.length ≤ sizeLine
      case neg => rw [if_neg hz] at k; exact k.elim
      rw [if_pos hz] at k
      have fD : F1 Dl = none := none_of_ex x1.s hD
      have SW := (S.mono x1).wipe vs
      have h0D : H0 Dl = none := fresh_back (S.mono x1).h0 hD
      have P0 : Prop := True
      let P : Nat → Hp → Prop := fun i H2 => ∃ F2 acc ads rs, Ext F1 H1 F2 H2 ∧ F2 Dl = none ∧ H2 Dl = some (.lst acc) ∧ RpA K F2 acc ads ∧ comp2 g mi1 g1 mt1 me vs1 (forget vs ρ) (ds.drop i) = .ok rs ∧ ads ++ rs = out
      refine ⟨fun i m H2 => m = ds.length - i ∧ i ≤ ds.length ∧ P i H2,
        ⟨ds.length, rfl, Nat.zero_le _, F1, [], [], out, .newO x1.s hD, fD, upd_same, .nil, hc, rfl⟩, ?_⟩
      rintro i m H2 ⟨rfl, hi, F2, acc, ads, rs, x2, f2, h2, r2, c2, e2⟩
      obtain ⟨w1, w2⟩ := w i F2 H2 x2 x2.s hi
      by_cases hlt : i < ds.length
      · obtain ⟨go, yl⟩ := w1 hlt
        have ed : ds.drop i = ds[i] :: ds.drop (i + 1) := List.drop_eq_getElem_cons hlt
        refine .inr ⟨go, fun H3 => P (i + 1) H3, fun H3 z => ⟨ds.length - (i + 1), by omega, rfl, hlt, z⟩, fun x H3 y => ?_⟩
        obtain ⟨d, F3, ed2, x3, r3⟩ := yl x H3 y
        have hd : ds[i] = d := by
          have := List.getElem?_eq_getElem hlt
          rw [this] at ed2
          exact Option.some.inj ed2
        rw [ed, hd] at c2
        unfold comp2 at c2
        cases q : g d (forget vs ρ) with
        | none => rw [q] at c2; cases c2
        | some ρ1 =>
          simp only [q] at c2
          obtain ⟨es, hes, c2⟩ := bind_ok c2
          have hes := noErr_ok hes
          obtain ⟨xs, hxs, c2⟩ := bind_ok c2
          have hxs := noErr_ok hxs
          obtain ⟨ys, hys, c2⟩ := bind_ok c2
          cases c2
          have x13 := x2.trans x3
          refine ⟨F0, H0, F3, forget vs ρ, d, ρ1, SW.mono x13, r3, q, fun σ4 F4 H4 x4 S4 l4 o4 => ⟨wipe_eq (by rw [l4, wipe_length]) o4 his, F0, H0, F4, ρ1, S4, ?_⟩⟩
          intro F5 H5 x5
          refine ⟨F0, H0, F5, ρ1, S4.mono x5, ?_⟩
          rw [hes]
          intro J1 F6 H6 x6 wj
          have x16 := ((x13.trans x4).trans x5).trans x6
          have nD : H2 Dl ≠ none := some_ne h2
          have x26 := ((x3.trans x4).trans x5).trans x6
          have f6 : F6 Dl = none := x26.o Dl f2 nD
          have S6 := (S4.mono x5).mono x6
          -- no slot owns the list that grows
          have no4 : NoOwn κ H4 σ4 ρ1 Dl := fun j dj wj hj ej ow => by
            by_cases hji : j ∈ is
            · rw [him j hji] at ow; exact ow.elim
            · rw [hg d _ _ q j hji] at hj
              rw [o4 j hji] at ej
              have y := (x13.trans x4)
              have ow1 := Owns.back (SW.slotAt hj ej) (fun a _ o q => y.h a o q) (fun a o q => y.s a o (y.f a o q)) ow
              exact ((SW.slotAt hj ej).owned ow1).2.2 hD
          have no6 : NoOwn κ H6 σ4 ρ1 Dl := NoOwn.mono (S4.mono x5) x6 (NoOwn.mono S4 x5 no4)
          refine ⟨fun j k H7 => k = es.length - j ∧ j ≤ es.length ∧ ∃ F7 acc ads rs, Stt K κ F0 H0 F7 H7 σ4 ρ1 ∧ NoOwn κ H7 σ4 ρ1 Dl ∧ Ex F6 F7 ∧ Ext F1 H1 F7 H7 ∧ F7 Dl = none ∧ H7 Dl = some (.lst acc) ∧ RpA K F7 acc ads ∧ compL g1 mt1 me (forget vs1 ρ1) (es.drop j) = .ok rs ∧ ads ++ (rs ++ ys) = out,
            ⟨es.length, rfl, Nat.zero_le _, F6, acc, ads, xs, S6, no6, Ex.refl F6, x16, f6, x26.h _ _ h2, r2.mono x26.f, hxs, e2⟩, ?_⟩
          rintro j k' H7 ⟨rfl, hj, F7, acc7, ads7, rs7, S7, no7, e67, x17, f7, h7, r7, c7, e7⟩
          obtain ⟨v1, v2⟩ := wj j F7 H7 e67 x17.s hj
          by_cases hlt1 : j < es.length
          · obtain ⟨go1, yl1⟩ := v1 hlt1
            have ed1 : es.drop j = es[j] :: es.drop (j + 1) := List.drop_eq_getElem_cons hlt1
            refine .inr ⟨go1, fun H8 => ∃ F7 acc ads rs, Stt K κ F0 H0 F7 H8 σ4 ρ1 ∧ NoOwn κ H8 σ4 ρ1 Dl ∧ Ex F6 F7 ∧ Ext F1 H1 F7 H8 ∧ F7 Dl = none ∧ H8 Dl = some (.lst acc) ∧ RpA K F7 acc ads ∧ compL g1 mt1 me (forget vs1 ρ1) (es.drop (j + 1)) = .ok rs ∧ ads ++ (rs ++ ys) = out,
              fun H8 z => ⟨es.length - (j + 1), by omega, rfl, hlt1, z⟩, fun x1' H8 y1 => ?_⟩
            obtain ⟨d1, F8, ed8, x8, r8⟩ := yl1 x1' H8 y1
            have hd1 : es[j] = d1 := by
              have := List.getElem?_eq_getElem hlt1
              rw [this] at ed8
              exact Option.some.inj ed8
            rw [ed1, hd1] at c7
            unfold compL at c7
            cases q1 : g1 d1 (forget vs1 ρ1) with
            | none => rw [q1] at c7; cases c7
            | some ρ3 =>
              simp only [q1] at c7
              obtain ⟨b, hb, c7⟩ := bind_ok c7
              have hb := noErr_ok hb
              refine ⟨F0, H0, F8, forget vs1 ρ1, d1, ρ3, (S7.mono x8).wipe vs1, r8, q1, fun σ9 F9 H9 x9 S9 l9 o9 => ⟨wipe_eq (by rw [l9, wipe_length]) o9 his1, F0, H0, F9, ρ3, S9, ?_⟩⟩
              rw [hb]
              intro Fa Ha xa
              have x7a := (x8.trans x9).trans xa
              have nD7 : H7 Dl ≠ none := some_ne h7
              have fa : Fa Dl = none := x7a.o Dl f7 nD7
              cases b with
              | false => exact ⟨Fa, acc7, ads7, rs7, S7.mono x7a, NoOwn.mono S7 x7a no7, e67.trans x7a.f, x17.trans x7a, fa, x7a.h _ _ h7, r7.mono x7a.f, c7, e7⟩
              | true =>
                obtain ⟨yv, hy, c7⟩ := bind_ok c7
                have hy := noErr_ok hy
                obtain ⟨zs, hzs, c7⟩ := bind_ok c7
                cases c7
                refine ⟨F0, H0, Fa, ρ3, S9.mono xa, ?_⟩
                rw [hy]
                intro vv Fb Hb xb rb
                have x7b := x7a.trans xb
                have fb : Fb Dl = none := x7b.o Dl f7 nD7
                have x1b := x17.trans x7b
                have subb : Ex Fb (upd Hb Dl (.lst (acc7 ++ [vv]))) := fun b u q => by rw [upd_ne (ne_of_none q fb)]; exact x7b.s b u q
                have lacc : acc7.length < sizeLine := by
                  have l1 := r7.length
                  have l2 := congrArg List.length e7
                  simp only [List.length_append, List.length_cons] at l2
                  omega
                have Sb := S7.mono x7b
                have nob := NoOwn.mono S7 x7b no7
                exact ⟨acc7, x7b.h _ _ h7, lacc, Fb, acc7 ++ [vv], ads7 ++ [yv], zs, Sb.updFree h0D fb nob, NoOwn.upd Sb fb nob, e67.trans x7b.f, ⟨x1b.f, Ex.mut x1b.h hD, x1b.o, subb, x1b.n⟩, fb, upd_same, (r7.mono x7b.f).append (.cons rb .nil), hzs, by rw [← e7]; simp⟩
          · have ej : j = es.length := by omega
            have edj : es.drop j = [] := by rw [ej, List.drop_length]
            rw [edj] at c7
            cases c7
            exact .inl ⟨v2 ej, F7, acc7, ads7, ys, x17, f7, h7, r7, hys, by rw [← e7]; rfl⟩
      · have e : i = ds.length := by omega
        have ed : ds.drop i = [] := by rw [e, List.drop_length]
        rw [ed] at c2
        cases c2
        rw [List.append_nil] at e2
        subst e2
        exact .inl ⟨w2 e, k Dl acc F2 H2 (x1.trans x2) (fresh_back x1.h hD) f2 h2 r2⟩) fun _ z => z⟩
/-- name = [e for x in xs for y in ys] -/
theorem ds_setLc2 {i : Nat} {y : Str} {py spos : Pos} {elt tg iter tg1 iter1 : Expr} {ifs1 : List Expr} {scope : Scope} {own : List (Str × Nat)} {vs1 : List Nat} {mi mi1 : Env → Res (List D)} {is is1 : List Nat} {g g1 : D → Env → Option Env} {mt1 : Env → Res Bool} {me : Env → Res D} (hk : κ i = .im) (his : ∀ i ∈ is, i ∈ own.map (·.2)) (his1 : ∀ i ∈ is1, i ∈ vs1) (hg : GIn is g) (him : ∀ i ∈ is, κ i = .im)
    (h : PS X (.Assign [.Name y py] (.ListComp elt [⟨tg, iter, [], 0⟩, ⟨tg1, iter1, ifs1, 0⟩] scope pos) spos) (tAsg (tLc2 (rdIp X.mg X.K κ E mi) (rdG X.K κ is g) (rdT X.mg X.K κ EX0 mYes) (rdI X.mg X.K κ EX0 mi1) (rdG X.K κ is1 g1) (rdT X.mg X.K κ EX0 mt1) (rdE X.mg X.K κ EX0 me) (own.map (·.2)) vs1) (gName i))) :
    DS X κ E (.Assign [.Name y py] (.ListComp elt [⟨tg, iter, [], 0⟩, ⟨tg1, iter1, ifs1, 0⟩] scope pos) spos) (mAsg i (mList (mLc2 mi g mi1 g1 mt1 me (own.map (·.2)) vs1))) :=
  h.imp fun Dn σ H ⟨F0, H0, F, ρ, S, k⟩ => by
    refine lc2_read (mg := X.mg) (K := X.K) (E := E) his his1 hg him σ H _ ⟨F0, H0, F, ρ, S, ?_⟩
    have k1 := Res.sat_imp (R' := ErrOk X.mg X.K (E.err σ) F H) (out_sat k) (fun d _ k => k) fun x z => err_back S z
    refine Res.sat_imp (Res.sat_bind k1) (fun ds _ k p vs F' H' x hp fp hv r => ?_) fun _ z => z
    have fr : Ext F H (upd F' p (.lst vs)) H' := ⟨x.f.trans (Ex.new fp), x.h, fun a h1 h2 => by
      rw [upd_ne (fun z => h2 (by rw [z]; exact hp))]; exact x.o a h1 h2, fun a u q => by
      by_cases z : a = p
      · subst z; rw [upd_same] at q; cases q; exact hv
      · rw [upd_ne z] at q; exact x.s a u q, fun n => (x.n n).upd (fun _ h => by cases h)⟩
    exact k _ _ H' fr.f ((S.mono fr).set hk (.lst (Evl.sq_of upd_same) (r.mono (Ex.new fp))))
theorem dn_lc2 {elt tg iter tg1 iter1 : Expr} {ifs1 : List Expr} {scope : Scope} {own : List (Str × Nat)} {vs1 : List Nat} {mi mi1 : Env → Res (List D)} {is is1 : List Nat} {g g1 : D → Env → Option Env} {mt1 : Env → Res Bool} {me : Env → Res D} (hc : X.calm = true) (hN : X.N.Nodup) (hi : DIp X κ E tg iter mi) (ok : BlkOk X.N X.env.scope scope own) (hv : ∀ i ∈ vs1, i ∈ own.map (·.2)) (his : ∀ i ∈ is, i ∈ own.map (·.2)) (his1 : ∀ i ∈ is1, i ∈ vs1) (hgi : GIn is g) (him : ∀ i ∈ is, κ i = .im)
    (hg : ∀ (s : Shared) (H : Hp) (C : Addr) (cl : List (Str × Addr)) (fp : List Addr), DG (X.blk s H scope (compEnvC scope cl C X.env) fp) κ tg is g)
    (hi1 : ∀ (s : Shared) (H : Hp) (C : Addr) (cl : List (Str × Addr)) (fp : List Addr), DI (X.blk s H scope (compEnvC scope cl C X.env) fp) κ EX0 tg1 iter1 mi1)
    (hg1 : ∀ (s : Shared) (H : Hp) (C : Addr) (cl : List (Str × Addr)) (fp : List Addr), DG (X.blk s H scope (compEnvC scope cl C X.env) fp) κ tg1 is1 g1) (ht1 : ∀ (s : Shared) (H : Hp) (C : Addr) (cl : List (Str × Addr)) (fp : List Addr), DTs (X.blk s H scope (compEnvC scope cl C X.env) fp) κ EX0 ifs1 mt1)
    (he : ∀ (s : Shared) (H : Hp) (C : Addr) (cl : List (Str × Addr)) (fp : List Addr), DE (X.blk s H scope (compEnvC scope cl C X.env) fp) κ EX0 elt me) (hs : ∀ x, foldedSetIterable iter X.env x = pure x := by intro _; rfl) (hs1 : ∀ env x, foldedSetIterable iter1 env x = pure x := by intro _ _; rfl) :
    DN X κ E (.ListComp elt [⟨tg, iter, [], 0⟩, ⟨tg1, iter1, ifs1, 0⟩] scope pos) (mLc2 mi g mi1 g1 mt1 me (own.map (·.2)) vs1) :=
  (pe_lc2 (wi := rdIp X.mg X.K κ E mi) (g := rdG X.K κ is g) (tt := rdT X.mg X.K κ EX0 mYes) (wi1 := rdI X.mg X.K κ EX0 mi1) (g1 := rdG X.K κ is1 g1) (tt1 := rdT X.mg X.K κ EX0 mt1) (te := rdE X.mg X.K κ EX0 me) hc hN hi ok hv hg (fun _ _ _ _ _ => dts_nil) hi1 hg1 ht1 he hs hs1).imp (lc2_read his his1 hgi him)
end
/-! lists of lists: x = [], x.append(y) of an owned y, x[k][l] = v -/
section
variable {K : Frag} {κ : Nat → Kd} {F0 H0 F H : Hp} {σ : L2.St} {ρ : Env}
/-- a slot is let go -/
theorem Stt.drop (S : Stt K κ F0 H0 F H σ ρ) (j : Nat) : Stt K κ F0 H0 F H σ (ρ.set j none) := by
  have back : ∀ {m : Nat} {d : D}, (ρ.set j none)[m]? = some (some d) → ρ[m]? = some (some d) := fun {m d} h => by
    by_cases q : j = m
    · subst q
      rw [List.getElem?_set, if_pos rfl] at h
      split at h <;> cases h
    · rw [List.getElem?_set_ne q] at h; exact h
  exact ⟨S.ex0, S.h0, S.o0, S.sub, S.nf, by rw [List.length_set, S.len], fun i d h => S.slot i d (back h), fun i l b di dl u w n hi hl ei el oi ol => S.sep i l b di dl u w n (back hi) (back hl) ei el oi ol⟩
theorem OlK.app : ∀ {bs bs' : List Addr} {ds ds' : List D}, OlK K H0 F H bs ds → OlK K H0 F H bs' ds' → OlK K H0 F H (bs ++ bs') (ds ++ ds')
  | _, _, _, _, .nil, h => h
  | _, _, _, _, .cons h1 h2 h3 h4 h5, h => .cons h1 h2 h3 h4 (h5.app h)
theorem ol_move (S : Stt K κ F0 H0 F H σ ρ) {i j : Nat} {ds : List D} {xs : List D} {a b : Addr} {ws : List V} (hk : κ i = .ol) (hj : κ j = .ow) (hd : ρ[i]? = some (some (.list ds))) (hdj : ρ[j]? = some (some (.list xs))) (hs : σ[i]? = some (some (.ref a))) (hsj : σ[j]? = some (some (.ref b))) (g : H a = some (.lst ws)) :
    Stt K κ F0 H0 F (upd H a (.lst (ws ++ [.ref b]))) σ ((ρ.set j none).set i (some (.list (ds ++ [.list xs])))) := by
  have ij : j ≠ i := fun z => by rw [z, hk] at hj; cases hj
  obtain ⟨a', bs, ds', e0, e1, a0, fa, g', ok, n1, n2⟩ := ol_at S hk hd
  cases e0
  rw [hs] at e1
  cases e1
  rw [g] at g'
  have ew : ws = bs.map V.ref := HO.lst.inj (Option.some.inj g')
  have sj := S.slotAt hdj hsj
  rw [hj] at sj
  obtain ⟨b', eb, b0, fb, ob⟩ := sj
  cases eb
  obtain ⟨vs, hb, rv⟩ : ∃ vs, H b = some (.lst vs) ∧ RpA K F vs xs := by
    rcases ob with ⟨vs, ds2, e, h, r⟩ | ⟨vs, ds2, e, h, r⟩
    · cases e; exact ⟨vs, h, r⟩
    · cases e
  have owj : Owns (κ j) H (.ref b) b := by rw [hj]; rfl
  have ba : b ≠ a := fun z => S.sep j i b _ _ _ _ ij hdj hd hsj hs owj (by rw [hk, z]; exact .inl rfl)
  have bb : b ∉ bs := fun z => S.sep j i b _ _ _ _ ij hdj hd hsj hs owj (by rw [hk]; exact .inr ⟨a, ws, rfl, g, by rw [ew]; exact List.mem_map.mpr ⟨b, z, rfl⟩⟩)
  have S' := S.drop j
  have hd' : (ρ.set j none)[i]? = some (some (.list ds)) := by rw [List.getElem?_set_ne ij]; exact hd
  have inF : ∀ c o, F c = some o → upd H a (.lst (ws ++ [.ref b])) c = some o := fun c o e => by rw [upd_ne (ne_of_none e fa)]; exact S.sub c o e
  refine S'.chg hd' hs (Ex.refl F) inF S.nf (fun _ h _ => h) (fun c x hx nb => ?_) ?_ fun c oc => ?_
  · rw [upd_ne (fun z => nb (by rw [hk, z]; exact .inl rfl))]; exact hx
  · rw [hk]
    refine ⟨a, bs ++ [b], _, rfl, a0, fa, rfl, by rw [upd_same, ew, List.map_append]; rfl, ?_, ?_, ?_⟩
    · refine (ok.mono (Ex.refl F) (fun c hc => (ok.mem hc).2.1) fun c hc o ho => by rw [upd_ne fun z => n2 (by rw [← z]; exact hc)]; exact ho).app ?_
      exact .cons b0 fb (by rw [upd_ne ba]; exact hb) rv .nil
    · rw [List.nodup_append]
      exact ⟨n1, by simp, fun x hx y hy => by rw [List.mem_singleton] at hy; rw [hy]; exact fun z => bb (by rw [← z]; exact hx)⟩
    · intro hm
      rcases List.mem_append.mp hm with hm | hm
      · exact n2 hm
      · exact ba (List.mem_singleton.mp hm).symm
  · rw [hk] at oc ⊢
    rcases (show V.ref a = .ref c ∨ ∃ a2 w2, V.ref a = .ref a2 ∧ upd H a (.lst (ws ++ [.ref b])) a2 = some (.lst w2) ∧ V.ref c ∈ w2 from oc) with z | ⟨a2, w2, e3, e4, e5⟩
    · exact .inl (.inl z)
    · cases e3
      rw [upd_same] at e4
      cases e4
      rcases List.mem_append.mp e5 with e5 | e5
      · exact .inl (.inr ⟨a, ws, rfl, g, e5⟩)
      · have ec := V.ref.inj (List.mem_singleton.mp e5)
        subst ec
        refine .inr fun k dk w nk hk2 ek ow => ?_
        have kj : k ≠ j := fun z => by
          subst z
          rw [List.getElem?_set, if_pos rfl] at hk2
          split at hk2 <;> cases hk2
        rw [List.getElem?_set_ne (Ne.symm kj)] at hk2
        exact S.sep j k c _ _ _ _ (Ne.symm kj) hdj hk2 hsj ek owj ow
end
section
variable {X : Cx} {κ : Nat → Kd} {E : EX} {a b c e o : Expr} {es : List Expr} {pos : Pos} {ma mb mk ml mv me m : Env → Res D}
def mNewL0 (i : Nat) : Env → Out := fun ρ => .nx (ρ.set i (some (.list [])))
theorem ds_setL0 {i : Nat} {x : Str} {pos' p2 : Pos} (hk : κ i = .ol) (hN : X.N.Nodup) (hi : X.N[i]? = some x) (hx : Loc X.env.scope x) (hs : swapsWith (.List [] p2) (some (.Name x pos')) pos.line X.env = pure false := by rfl)
    (hf : X.fn x = true ∨ X.env.scope.names.lookup x = some .local := by first | exact .inl rfl | exact .inr rfl | assumption) : DS X κ E (.Assign [.Name x pos'] (.List [] p2) pos) (mNewL0 i) :=
  (ps_set (i := i) hN hi hx (pe_lst pa_nil) hs hf).imp fun Dn σ H ⟨F0, H0, F, ρ, S, k⟩ => ⟨Nat.zero_le _, fun p hp => by
    have x := Ext.newO (o := .lst []) S.sub hp
    refine k _ F _ (Ex.refl F) ((S.mono x).setW ?_ fun j c dj w hj ej nj oi oj => ?_)
    · rw [hk]
      exact ⟨p, [], [], rfl, fresh_back S.h0 hp, none_of_ex S.sub hp, rfl, upd_same, .nil, .nil, by simp⟩
    · have hc : c = p := by
        rw [hk] at oi
        rcases (show V.ref p = .ref c ∨ ∃ a ws, V.ref p = .ref a ∧ upd H p (.lst []) a = some (.lst ws) ∧ V.ref c ∈ ws from oi) with z | ⟨a, ws, e1, e2, e3⟩
        · cases z; rfl
        · cases e1; rw [upd_same] at e2; cases e2; simp at e3
      subst hc
      have g := S.slotAt hj ej
      exact (g.owned (Owns.back g (fun a _ o q => x.h a o q) (fun a o q => x.s a o (x.f a o q)) oj)).2.2 hp⟩
/-- x.append(y): the list y is x's own from here on, and y is let go -/
def mMoveL (i j : Nat) : Env → Out := fun ρ => (getL i ρ).out fun ds => (getL j ρ).out fun xs => if ds.length < sizeLine then .nx ((ρ.set j none).set i (some (.list (ds ++ [.list xs])))) else .stk
theorem ds_moveL {i j : Nat} {x y : Str} {px py : Pos} {apos cpos pos : Pos} (hk : κ i = .ol) (hj : κ j = .ow)
    (hx : PE X (.Call (.Attribute (.Name x px) "append" apos) [.Name y py] [] cpos) (tBM X.K "list" rAppend (tVar i) (tCons (tVar j) tNil)))
    (hs : swapsWith (.Call (.Attribute (.Name x px) "append" apos) [.Name y py] [] cpos) none pos.line X.env = pure false := by rfl) : DS X κ E (.Expr (.Call (.Attribute (.Name x px) "append" apos) [.Name y py] [] cpos) pos) (mMoveL i j) :=
  (ps_expr hx hs).imp fun Dn σ H ⟨F0, H0, F, ρ, S, k⟩ => by
    obtain ⟨ds, hd, k⟩ := getL_sat (out_sat k)
    obtain ⟨xs, hdj, k⟩ := getL_sat (out_sat k)
    obtain ⟨a, bs, ds', e0, hs', a0, fa, g, ok, n1, n2⟩ := ol_at S hk hd
    cases e0
    obtain ⟨w, hw1, hw2⟩ := S.slot j _ hdj
    rw [hj] at hw2
    obtain ⟨b, eb, b0, fb, ob⟩ := hw2
    subst eb
    by_cases z : ds.length < sizeLine
    · simp only [if_pos z] at k
      exact ⟨.ref a, hs', .inl ⟨rfl, bs.map V.ref, Evl.sq_of g⟩, .ref b, hw1, a, bs.map V.ref, .ref b, rfl, rfl, g, by rw [List.length_map, ok.len]; exact z, k _ F _ (Ex.refl F) (ol_move S hk hj hd hdj hs' hw1 g)⟩
    · simp only [if_neg z] at k
      exact k.elim
/-- x[k][l] = v -/
def mPutLL (i : Nat) (mk ml mv : Env → Res D) : Env → Out := fun ρ => (mv ρ).out fun v => (getL i ρ).out fun ds => (mk ρ).out fun dk => (ixD ds.length dk).out fun j => (lsAt ds j).out fun xs => (ml ρ).out fun dl => (ixD xs.length dl).out fun j2 => .nx (ρ.set i (some (.list (ds.set j (.list (xs.set j2 v))))))
theorem ds_putLL {i : Nat} {x : Str} {px p1 p2 : Pos} (hk : κ i = .ol) (hN : X.N[i]? = some x) (hv : Vis X.env.scope x) (hka : DE X κ E a mk) (hb : DE X κ E b ml) (he : DE X κ E e mv) (hpa : PlainIx a := by exact fun _ _ => rfl) (hs : swapsWithSole [.Subscript (.Subscript (.Name x px) a p1) b p2] e pos.line X.env = pure false := by rfl) (hw : swappedStores [.Subscript (.Subscript (.Name x px) a p1) b p2] e X.env = pure none := by rfl)
    (h1 : (assignEach [.Subscript (.Subscript (.Name x px) a p1) b p2] X.env).map (·.2) = [assign (.Subscript (.Subscript (.Name x px) a p1) b p2) X.env] := by rfl)
    (ha : ∀ w, assign (.Subscript (.Subscript (.Name x px) a p1) b p2) X.env w = (do let o1 ← holding [w] (eval (.Subscript (.Name x px) a p1) X.env); let i1 ← holding [w, o1] (eval b X.env); standAt p2; holding [w, o1, i1] (setItem o1 i1 w); release [w, o1, i1] []) := by intro _; rfl)
    (hdb : (x == ("__debug__" : Str)) = false := by decide) (hcd : (x == ("__classdict__" : Str)) = false := by decide) : DS X κ E (.Assign [.Subscript (.Subscript (.Name x px) a p1) b p2] e pos) (mPutLL i mk ml mv) :=
  (ps_asg he (pg_sub (pe_ix ix_list (pe_var hN hv hdb hcd) hka hpa) hb set_list ha) hs hw h1).imp fun Dn σ H ⟨F0, H0, F, ρ, S, k⟩ => ⟨F0, H0, F, ρ, S, Res.sat_imp (out_sat k) (fun dv _ k v F1 H1 x1 rv => by
    obtain ⟨ds, hd, k⟩ := getL_sat (out_sat k)
    have S1 := S.mono x1
    obtain ⟨q, bs, ds', e0, hs', a0, fa, g, ok, n1, n2⟩ := ol_at S1 hk hd
    cases e0
    refine ⟨.ref q, hs', F0, H0, F1, ρ, S1, Res.sat_imp (out_sat k) (fun dk _ k y F2 H2 x2 ry => ?_) fun x z => err_back S1 z⟩
    have S2 := S1.mono x2
    obtain ⟨kk, j, rfl, hj, k⟩ := ixD_sat (out_sat k)
    cases ry
    obtain ⟨xs, hxs, k⟩ := lsAt_sat (out_sat k)
    obtain ⟨a', bs', b', vs, xs', e3, e4, g4, l4, hb4, h4, r4, gr⟩ := ol_grow S2 hk hd hxs
    cases e3
    rw [hs'] at e4
    cases e4
    have hbs : atI (bs.map V.ref) kk = some (.ref b') := by
      have eb : bs.map V.ref = bs'.map V.ref := HO.lst.inj (Option.some.inj ((x2.h _ _ g).symm.trans g4))
      rw [eb]
      unfold atI
      rw [List.length_map, l4, hj]
      show (bs'.map V.ref)[j]? = _
      rw [List.getElem?_map, hb4]; rfl
    refine ⟨q, bs.map V.ref, kk, .ref b', rfl, rfl, Evl.sq_of (x2.h _ _ g), hbs, F0, H0, F2, ρ, S2, Res.sat_imp (out_sat k) (fun dl _ k y3 F3 H3 x3 r3 => ?_) fun x z => err_back S2 z⟩
    obtain ⟨ll, j2, rfl, hj2, k⟩ := ixD_sat (out_sat k)
    cases r3
    exact ⟨b', vs, ll, j2, rfl, rfl, x3.h _ _ h4, by rw [r4.length]; exact hj2, k _ F3 _ ((x1.trans x2).trans x3).f (gr F3 H3 _ _ x3 ((r4.mono x3.f).set (rv.mono (x2.trans x3).f) j2))⟩) fun x z => err_back S z⟩
theorem sg_newL0 {i : Nat} : Straight (mNewL0 i) := fun ρ => ⟨fun ρ' h => (by cases h), fun ρ' h => (by cases h)⟩
theorem sg_moveL {i j : Nat} : Straight (mMoveL i j) := fun ρ => sg_out fun _ => sg_out fun _ => by split; exact sg_nx; exact sg_stk
theorem sg_putLL {i : Nat} {mk ml mv : Env → Res D} : Straight (mPutLL i mk ml mv) := fun ρ => sg_out fun _ => sg_out fun _ => sg_out fun _ => sg_out fun _ => sg_out fun _ => sg_out fun _ => sg_out fun _ => sg_nx
end
section
variable {prog : Program} {w : World} {A : Around} {E : Value → Shared → Prop} {s : Shared}
theorem unpackItems_tupleH {t x1 : Addr} {items : Array Value} {Q : List Value → Shared → Prop} (hot : HotX.HotAt A x1 s.heap) (ht : IsTup s.heap t items)
    (hQ : ∀ h', Heap.ExtBut s.heap.objs.size s.heap h' → Q items.toList { s with heap := h' }) : wpAny (model prog w) A (unpackItems (.ref t) items.size none) Q E s := by
  have hlt : t ≠ s.heap.objs.size := by obtain ⟨o, ho, _⟩ := ht; exact Nat.ne_of_lt (Heap.lt_size ho)
  obtain ⟨hh, o1, v1, h1, d1, c1⟩ := id hot
  have hlt1 : x1 ≠ s.heap.objs.size := Nat.ne_of_lt (Heap.lt_size h1)
  unfold unpackItems
  refine wpAny_bind ?_
  · unfold notIterableAtAll
    refine wpAny_bind (wpAny_specialOf ht.typeIs slot_tuple_iter.lookup ?_)
    refine wpAny_pure ?_
    simp only [Bool.false_eq_true, if_false]
    refine wpAny_bind (wpAny_holding (iter_tuple ht ?_))
    refine wpAny_bind (wpAny_holding (draw_tuple hlt items.size 0 _ _ ⟨_, Heap.get?_push_size _ rfl, rfl, rfl⟩ (ht.push _) (by omega) fun h₁ hit₁ hs₁ => ?_))
    have hall : List.take items.size (List.drop 0 items.toList) = items.toList := by
      rw [List.drop_zero]; exact List.take_of_length_le (by simp)
    rw [hall]
    rw [if_neg (by simp)]
    have ht₁ : IsTup h₁ t items := (ht.push _).extBut hs₁.extBut hlt
    have hot1 : HotX.HotAt A x1 h₁ := ⟨hh, o1, v1, hs₁.extBut x1 o1 hlt1 (Heap.get?_push_of_some _ h1), d1, c1⟩
    refine wpAny_bind (wpAny_holding (tuple_ends_hot (s := { s with heap := h₁ }) hot1 hit₁ ht₁ (by simp) hlt1 fun h₂ he₂ => ?_))
    simp only [Option.isSome_none, Bool.false_eq_true, if_false]
    refine wpAny_pure (hQ h₂ fun b o hb e => he₂ b o hb (hs₁.extBut b o hb (Heap.get?_push_of_some _ e)))
theorem assign_Tuple_tupleH {env : PySem.Env} {elts : List Expr} {x0} {pos : Pos} {t x1 : Addr} {items : Array Value} {Q : Unit → Shared → Prop} (hot : HotX.HotAt A x1 s.heap) (ht : IsTup s.heap t items)
    (hn : (assignEach elts env).length = items.size) (hstar : (assignEach elts env).findIdx? (·.1) = none)
    (h : ∀ h', Heap.ExtBut s.heap.objs.size s.heap h' → wpAny (model prog w) A (assignInOrder ((assignEach elts env).map (·.2)) items.toList) Q E { s with heap := h' }) :
    wpAny (model prog w) A (assign (.Tuple elts x0 pos) env (.ref t)) Q E s := by
  rw [assign_Tuple]
  refine wpAny_bind (wpAny_standAt ?_)
  unfold unpack
  rw [hn, hstar]
  exact wpAny_bind (wpAny_holding (unpackItems_tupleH hot ht h))
end
section
variable {X : Cx} {κ : Nat → Kd} {es : List Expr} {pos : Pos}
theorem pg_tupH {k : Nat} {t : TGs} {n : Nat} (hc : L2H.HotC X) (h : PGs X es t)
    (hn : (assignEach es X.env).length = n := by rfl) (hst : (assignEach es X.env).findIdx? (·.1) = none := by rfl) : PG X (.Tuple es k pos) (gTup X.K n t) := by
  refine ⟨fun pins s σ H v u Q I r hw => ?_⟩
  obtain ⟨a, xs, e1, hq, hl, hw⟩ := hw
  subst e1
  cases r
  obtain ⟨its, rv, ht, hz⟩ := I.tuple hq
  obtain ⟨x1, hot⟩ := hc.at I
  refine assign_Tuple_tupleH hot ht (by simp [hn, ← hl, rv.length]) hst fun h' hx => ?_
  have I1 : Inv X pins σ H { s with heap := h' } := I.kept (t' := s.toks) fun b o e => hx b o (Nat.ne_of_lt (Heap.lt_size e)) e
  exact h.run pins _ σ H xs _ Q I1 (by simpa using rv) hw
theorem dg_tupH {is : List Nat} {k n : Nat} {gs : List D → Env → Option Env} (hc : L2H.HotC X) (h : DGs X κ es is gs)
    (hn : (assignEach es X.env).length = n := by rfl) (hst : (assignEach es X.env).findIdx? (·.1) = none := by rfl) : DG X κ (.Tuple es k pos) is (gTupD (lenG n gs)) :=
  (pg_tupH hc h hn hst).imp fun v σ H Q ⟨F0, H0, F, ρ, d, ρ', S, r, e, k⟩ => by
    cases r with
    | @tup a xs ds h1 h2 =>
      have e' : (if ds.length = n then gs ds ρ else none) = some ρ' := e
      by_cases z : ds.length = n
      · rw [if_pos z] at e'
        exact ⟨a, xs, rfl, ex_t S.sub h1, by rw [h2.length]; exact z, F0, H0, F, ρ, ds, ρ', S, h2, e', k⟩
      · rw [if_neg z] at e'; cases e'
    | _ => cases e
end
end WD

/-! == and != of dicts within except clauses -/
namespace WD
open PySem PySem.Spec PyProof.Rows L2
section
variable {X : Cx} {κ : Nat → Kd} {E : EX} {a b : Expr} {pos : Pos} {ma mb : Env → Res D}
theorem de_eqXU (hu : X.A.units + 64 < cLine) (ha : DB X κ E a ma) (hb : DB X κ E b mb) : DE X κ E (.Compare a [.Eq] [b] pos) (mBin eqX ma mb) := de_cmp ((op_eqD hu).or (op_eqKd hu)) op2_eqX eqX_ne ha hb (nomark _)
theorem de_neXU (hu : X.A.units + 64 < cLine) (ha : DB X κ E a ma) (hb : DB X κ E b mb) : DE X κ E (.Compare a [.NotEq] [b] pos) (mBin neX ma mb) := de_cmp ((op_neD hu).or (op_neKd hu)) op2_neX neX_ne ha hb (nomark _)
theorem dt_eqXU (hu : X.A.units + 64 < cLine) (ha : DB X κ E a ma) (hb : DB X κ E b mb) : DT X κ E (.Compare a [.Eq] [b] pos) (mTru (mBin eqX ma mb)) := dt_cmp ((op_eqD hu).or (op_eqKd hu)) op2_eqX eqX_ne eqX_b ha hb (nomark _)
theorem dt_neXU (hu : X.A.units + 64 < cLine) (ha : DB X κ E a ma) (hb : DB X κ E b mb) : DT X κ E (.Compare a [.NotEq] [b] pos) (mTru (mBin neX ma mb)) := dt_cmp ((op_neD hu).or (op_neKd hu)) op2_neX neX_ne neX_b ha hb (nomark _)
end
end WD

/-! enumerate(zip(a, b)) over two lists: the zip's tuples stay out, being held by the pairs -/
namespace WD
open PySem PySem.Spec PyProof.Rows L2
open Sem (wp)
open Evl (Ex Ex.refl Ex.trans Ex.new Ex.mut ex_l ex_t fresh_back)
abbrev IsZipS (h : Heap) (z TI TO : Addr) (f0 : Value) (f : Bool) : Prop :=
  h.get? z = some { cls := .type "zip", dict := none, data := .fields #[f0, .bool f, .bool false, .ref TI, .ref TO], slots := #[] }
section
variable {prog : Program} {w : World} {A : Around} {E : Value → Shared → Prop} {s : Shared}
theorem tupleFree_zip {z TI TO : Addr} {f0 : Value} {f : Bool} {Q : Bool → Shared → Prop} (hz : IsZipS s.heap z TI TO f0 f) (hf : f0 = .none ∨ ∃ T : Addr, f0 = rawInt T ∧ s.heap.get? T = none) (h : Q true s) :
    wpAny (model prog w) A (Builtin.SmallTypes.ownedTupleIsFree (.ref z)) Q E s := by
  unfold Builtin.SmallTypes.ownedTupleIsFree
  rcases hf with rfl | ⟨T, rfl, hT⟩
  · exact wpAny_bind (wpAny_field hz rfl (x := .none) rfl (wpAny_pure h))
  · refine wpAny_bind (wpAny_field hz rfl (x := rawInt T) rfl ?_)
    show wpAny _ _ (loadIfAlive ((T : Int).toNat) >>= _) _ _ _
    rw [Int.toNat_natCast]
    have alive : ∀ {Q' : Option Obj → Shared → Prop}, Q' none s → wpAny (model prog w) A (loadIfAlive T) Q' E s := fun {Q'} q => by
      have q' : Q' (s.heap.get? T) s := by rw [hT]; exact q
      exact fun _ _ _ => q'
    refine wpAny_bind (alive ?_)
    simp only [Option.isNone_none, if_true]
    exact wpAny_pure h
theorem zipS_next_item {z TI TO i1 i2 l1 l2 : Addr} {k1 k2 : Nat} {xs ys : Array Value} {x y a b f0 : Value} {f : Bool} {Q : Value → Shared → Prop} (D : ZipApart z TI TO i1 i2 l1 l2)
    (hz : IsZipS s.heap z TI TO f0 f) (hf : f0 = .none ∨ ∃ T : Addr, f0 = rawInt T ∧ s.heap.get? T = none) (hTI : IsPair s.heap TI (.ref i1) (.ref i2)) (hTO : IsPair s.heap TO a b)
    (h1 : s.heap.IsListIter i1 l1 k1) (h2 : s.heap.IsListIter i2 l2 k2) (hl1 : s.heap.IsList l1 xs) (hl2 : s.heap.IsList l2 ys) (hx : xs[k1]? = some x) (hy : ys[k2]? = some y)
    (hQ : ∀ h', IsZipS h' z TI TO (rawInt s.heap.objs.size) false → IsPair h' TO x y → h'.IsListIter i1 l1 (k1 + 1) → h'.IsListIter i2 l2 (k2 + 1) → IsPair h' s.heap.objs.size x y → h'.objs.size = s.heap.objs.size + 1 →
      (∀ c o, c ≠ z → c ≠ TO → c ≠ i1 → c ≠ i2 → s.heap.get? c = some o → h'.get? c = some o) → Q (.ref s.heap.objs.size) { s with heap := h' }) :
    wpAny (model prog w) A (Builtin.«zip.__next__» ⟨[.ref z], []⟩) (fun fin s' => ∃ v, fin = .done (.ret v) ∧ Q v s') E s := by
  show wpAny _ _ (field (.ref z) 2 >>= _) _ _ _
  refine wpAny_bind (wpAny_field hz rfl (x := .bool false) rfl ?_)
  show wpAny _ _ (field (.ref z) 3 >>= _) _ _ _
  refine wpAny_bind (wpAny_field hz rfl (x := .ref TI) rfl ?_)
  refine wpAny_bind (wpAny_seqItems hTI rfl ?_)
  show wpAny _ _ (Builtin.SmallTypes.ownedTupleIsFree (.ref z) >>= _) _ _ _
  refine wpAny_bind (tupleFree_zip hz hf ?_)
  simp only [if_true]
  refine wpAny_bind (wpAny_rule ?_)
  refine wpAny_bind (wpAny_field hz rfl (x := .ref TO) rfl ?_)
  refine wpAny_bind (wpAny_setField_rec hz (by simp) fun h₁ hz₁ hs₁ => ?_)
  replace hz₁ : IsZipS h₁ z TI TO .ellipsis f := hz₁
  refine wpAny_bind ?_
  simp only [List.zipIdx_cons, List.zipIdx_nil, List.forIn_cons, List.forIn_nil]
  refine wpAny_bind (wpAny_bind (wpAny_onRaise ?_))
  show wpAny _ _ (Builtin.SmallTypes.nextOf (.ref i1) >>= _) _ _ _
  refine wpAny_bind (wpAny_nextOf_list_item (h1.extBut hs₁.extBut D.i1z) (hl1.extBut hs₁.extBut D.l1z) hx fun h₂ h1₂ hs₂ => wpAny_pure ?_)
  have hTO₂ : IsPair h₂ TO a b := hs₂.extBut _ _ D.TOi1 (hs₁.extBut _ _ D.TOz hTO)
  refine wpAny_bind (wpAny_seqItems hTO₂ rfl ?_)
  refine wpAny_bind (wpAny_updateSeq_pair hTO₂ fun h₃ hTO₃ hs₃ => ?_)
  replace hTO₃ : IsPair h₃ TO x b := hTO₃
  refine wpAny_bind (wpAny_letGo (wpAny_pure ?_))
  refine wpAny_bind (wpAny_bind (wpAny_onRaise ?_))
  show wpAny _ _ (Builtin.SmallTypes.nextOf (.ref i2) >>= _) _ _ _
  refine wpAny_bind (wpAny_nextOf_list_item (((h2.extBut hs₁.extBut D.i2z).extBut hs₂.extBut D.i12.symm).extBut hs₃.extBut D.TOi2.symm)
    (((hl2.extBut hs₁.extBut D.l2z).extBut hs₂.extBut D.l2i1).extBut hs₃.extBut D.l2TO) hy fun h₄ h2₄ hs₄ => wpAny_pure ?_)
  have hTO₄ : IsPair h₄ TO x b := hs₄.extBut _ _ D.TOi2 hTO₃
  refine wpAny_bind (wpAny_seqItems hTO₄ rfl ?_)
  refine wpAny_bind (wpAny_updateSeq_pair hTO₄ fun h₅ hTO₅ hs₅ => ?_)
  replace hTO₅ : IsPair h₅ TO x y := hTO₅
  refine wpAny_bind (wpAny_letGo (wpAny_pure (wpAny_pure ?_)))
  refine wpAny_bind (wpAny_seqItems hTO₅ rfl ?_)
  refine wpAny_bind (wpAny_newTuple ?_)
  have hsz : h₅.objs.size = s.heap.objs.size := by rw [hs₅.1, hs₄.1, hs₃.1, hs₂.1, hs₁.1]
  have hz₅ : IsZipS h₅ z TI TO .ellipsis f := hs₅.extBut _ _ D.TOz.symm (hs₄.extBut _ _ D.i2z.symm (hs₃.extBut _ _ D.TOz.symm (hs₂.extBut _ _ D.i1z.symm hz₁)))
  have hk₅ : ∀ c o, c ≠ z → c ≠ TO → c ≠ i1 → c ≠ i2 → s.heap.get? c = some o → h₅.get? c = some o := fun c o c1 c2 c3 c4 e =>
    hs₅.extBut _ _ c2 (hs₄.extBut _ _ c4 (hs₃.extBut _ _ c2 (hs₂.extBut _ _ c3 (hs₁.extBut _ _ c1 e))))
  have h1₅ : h₅.IsListIter i1 l1 (k1 + 1) := ((h1₂.extBut hs₃.extBut D.TOi1.symm).extBut hs₄.extBut D.i12).extBut hs₅.extBut D.TOi1.symm
  have h2₅ : h₅.IsListIter i2 l2 (k2 + 1) := h2₄.extBut hs₅.extBut D.TOi2.symm
  have hzlt : z < h₅.objs.size := Heap.lt_size hz₅
  show wpAny _ _ (Builtin.SmallTypes.ownedTupleHandOut (.ref z) (.ref h₅.objs.size) >>= _) _ _ _
  refine wpAny_bind ?_
  unfold Builtin.SmallTypes.ownedTupleHandOut
  have hz₆ : IsZipS (h₅.push { cls := .type "tuple", data := .seq #[x, y] }) z TI TO .ellipsis f := Heap.get?_push_of_some _ hz₅
  refine wpAny_bind (wpAny_setField_rec hz₆ (by simp) fun h₇ hz₇ hs₇ => ?_)
  replace hz₇ : IsZipS h₇ z TI TO (rawInt h₅.objs.size) f := hz₇
  refine wpAny_setField_rec hz₇ (by simp) fun h₈ hz₈ hs₈ => ?_
  replace hz₈ : IsZipS h₈ z TI TO (rawInt h₅.objs.size) false := hz₈
  have up : ∀ c o, c ≠ z → h₅.get? c = some o → h₈.get? c = some o := fun c o c1 e => hs₈.extBut _ _ c1 (hs₇.extBut _ _ c1 (Heap.get?_push_of_some _ e))
  have hT₈ : IsPair h₈ h₅.objs.size x y := hs₈.extBut _ _ (Nat.ne_of_gt hzlt) (hs₇.extBut _ _ (Nat.ne_of_gt hzlt) (Heap.get?_push_size _ rfl))
  have hz8 : h₈.objs.size = h₅.objs.size + 1 := by rw [hs₈.1, hs₇.1, Heap.size_push]
  rw [hsz] at hz₈ hT₈ hz8
  refine wpAny_pure ⟨_, rfl, ?_⟩
  show Q (.ref h₅.objs.size) _
  rw [hsz]
  exact hQ h₈ hz₈ (up _ _ D.TOz hTO₅) (h1₅.at fun o e => up _ o D.i1z e) (h2₅.at fun o e => up _ o D.i2z e) hT₈ hz8 fun c o c1 c2 c3 c4 e => up c o c1 (hk₅ c o c1 c2 c3 c4 e)
theorem zipS_next_end {z TI TO i1 i2 l1 l2 : Addr} {k1 k2 : Nat} {xs ys : Array Value} {a b f0 : Value} {f : Bool} {Q : Fin → Shared → Prop} (hh : A.handled = none) (D : ZipApart z TI TO i1 i2 l1 l2)
    (hz : IsZipS s.heap z TI TO f0 f) (hf : f0 = .none ∨ ∃ T : Addr, f0 = rawInt T ∧ s.heap.get? T = none) (hTI : IsPair s.heap TI (.ref i1) (.ref i2)) (hTO : IsPair s.heap TO a b)
    (h1 : s.heap.IsListIter i1 l1 k1) (h2 : s.heap.IsListIter i2 l2 k2) (hl1 : s.heap.IsList l1 xs) (hl2 : s.heap.IsList l2 ys) (hend : xs[k1]? = none ∨ ys[k2]? = none)
    (hE : ∀ h' e, (∀ c o, c ≠ z → c ≠ TO → c ≠ i1 → c ≠ i2 → s.heap.get? c = some o → h'.get? c = some o) → (∃ o, h'.get? e = some o ∧ o.cls = .type "StopIteration") → E (.ref e) { s with heap := h' }) :
    wpAny (model prog w) A (Builtin.«zip.__next__» ⟨[.ref z], []⟩) Q E s := by
  show wpAny _ _ (field (.ref z) 2 >>= _) _ _ _
  refine wpAny_bind (wpAny_field hz rfl (x := .bool false) rfl ?_)
  show wpAny _ _ (field (.ref z) 3 >>= _) _ _ _
  refine wpAny_bind (wpAny_field hz rfl (x := .ref TI) rfl ?_)
  refine wpAny_bind (wpAny_seqItems hTI rfl ?_)
  show wpAny _ _ (Builtin.SmallTypes.ownedTupleIsFree (.ref z) >>= _) _ _ _
  refine wpAny_bind (tupleFree_zip hz hf ?_)
  simp only [if_true]
  refine wpAny_bind (wpAny_rule ?_)
  refine wpAny_bind (wpAny_field hz rfl (x := .ref TO) rfl ?_)
  refine wpAny_bind (wpAny_setField_rec hz (by simp) fun h₁ hz₁ hs₁ => ?_)
  replace hz₁ : IsZipS h₁ z TI TO .ellipsis f := hz₁
  refine wpAny_bind ?_
  simp only [List.zipIdx_cons, List.zipIdx_nil, List.forIn_cons, List.forIn_nil]
  refine wpAny_bind (wpAny_bind (wpAny_onRaise ?_))
  show wpAny _ _ (Builtin.SmallTypes.nextOf (.ref i1) >>= _) _ _ _
  cases hx : xs[k1]? with
  | none =>
    refine wpAny_bind (wpAny_nextOf_list_end hh (h1.extBut hs₁.extBut D.i1z) (hl1.extBut hs₁.extBut D.l1z) hx fun h₂ e hs₂ he => ?_)
    obtain ⟨oe, hoe, hce⟩ := he
    have hz₂ : IsZipS h₂ z TI TO .ellipsis f := hs₂ _ _ D.i1z.symm hz₁
    have hez : e ≠ z := fun x => by subst x; rw [hz₂] at hoe; cases hoe; simp at hce
    refine wpAny_setField_rec hz₂ (by simp) fun h₃ _ hs₃ => hE h₃ e (fun c o c1 _ c3 _ x => hs₃.extBut _ _ c1 (hs₂ _ _ c3 (hs₁.extBut _ _ c1 x))) ⟨oe, hs₃.extBut _ _ hez hoe, hce⟩
  | some x =>
    have hy : ys[k2]? = none := by rcases hend with h | h; rw [hx] at h; cases h; exact h
    refine wpAny_bind (wpAny_nextOf_list_item (h1.extBut hs₁.extBut D.i1z) (hl1.extBut hs₁.extBut D.l1z) hx fun h₂ h1₂ hs₂ => wpAny_pure ?_)
    have hTO₂ : IsPair h₂ TO a b := hs₂.extBut _ _ D.TOi1 (hs₁.extBut _ _ D.TOz hTO)
    refine wpAny_bind (wpAny_seqItems hTO₂ rfl ?_)
    refine wpAny_bind (wpAny_updateSeq_pair hTO₂ fun h₃ hTO₃ hs₃ => ?_)
    refine wpAny_bind (wpAny_letGo (wpAny_pure ?_))
    refine wpAny_bind (wpAny_bind (wpAny_onRaise ?_))
    show wpAny _ _ (Builtin.SmallTypes.nextOf (.ref i2) >>= _) _ _ _
    refine wpAny_bind (wpAny_nextOf_list_end hh (((h2.extBut hs₁.extBut D.i2z).extBut hs₂.extBut D.i12.symm).extBut hs₃.extBut D.TOi2.symm)
      (((hl2.extBut hs₁.extBut D.l2z).extBut hs₂.extBut D.l2i1).extBut hs₃.extBut D.l2TO) hy fun h₄ e hs₄ he => ?_)
    obtain ⟨oe, hoe, hce⟩ := he
    have hz₄ : IsZipS h₄ z TI TO .ellipsis f := hs₄ _ _ D.i2z.symm (hs₃.extBut _ _ D.TOz.symm (hs₂.extBut _ _ D.i1z.symm hz₁))
    have hez : e ≠ z := fun x => by subst x; rw [hz₄] at hoe; cases hoe; simp at hce
    refine wpAny_setField_rec hz₄ (by simp) fun h₅ _ hs₅ => hE h₅ e (fun c o c1 c2 c3 c4 x => hs₅.extBut _ _ c1 (hs₄ _ _ c4 (hs₃.extBut _ _ c2 (hs₂.extBut _ _ c3 (hs₁.extBut _ _ c1 x))))) ⟨oe, hs₅.extBut _ _ hez hoe, hce⟩

/-- where a zip of two lists stands, its tuple free or not -/
def ZS (z TI TO i1 i2 l1 l2 : Addr) (k : Nat) (h : Heap) : Prop :=
  (∃ f0 f, IsZipS h z TI TO f0 f ∧ (f0 = .none ∨ ∃ T : Addr, f0 = rawInt T)) ∧ IsPair h TI (.ref i1) (.ref i2) ∧ (∃ x y, IsPair h TO x y) ∧ h.IsListIter i1 l1 k ∧ h.IsListIter i2 l2 k
theorem zs_typ {z TI TO i1 i2 l1 l2 : Addr} {k : Nat} (st : ZS z TI TO i1 i2 l1 l2 k s.heap) : s.TypeIs (.ref z) "zip" := by
  obtain ⟨⟨f0, f, hz, _⟩, _⟩ := st
  exact ⟨_, hz, rfl⟩
theorem nextOf_zs_item {z TI TO i1 i2 l1 l2 : Addr} {k : Nat} {xs ys : Array Value} {x y : Value} {Q : Value → Shared → Prop} (D : ZipApart z TI TO i1 i2 l1 l2) (st : ZS z TI TO i1 i2 l1 l2 k s.heap)
    (hl1 : s.heap.IsList l1 xs) (hl2 : s.heap.IsList l2 ys) (hx : xs[k]? = some x) (hy : ys[k]? = some y)
    (hQ : ∀ h', ZS z TI TO i1 i2 l1 l2 (k + 1) h' → IsPair h' s.heap.objs.size x y → h'.objs.size = s.heap.objs.size + 1 →
      (∀ c o, c ≠ z → c ≠ TO → c ≠ i1 → c ≠ i2 → s.heap.get? c = some o → h'.get? c = some o) → Q (.ref s.heap.objs.size) { s with heap := h' }) :
    wpAny (model prog w) A (Builtin.SmallTypes.nextOf (.ref z)) Q E s := by
  have hT := zs_typ st
  obtain ⟨⟨f0, f, hz, hf⟩, hTI, ⟨a, b, hTO⟩, h1, h2⟩ := st
  unfold Builtin.SmallTypes.nextOf
  refine wpAny_bind (wpAny_callSpecial?_slot (name := Str.ofString "__next__") hT F.slot_zip_next (wpAny_call_entry F.slot_zip_next hT F.entry_zip_next ?_ (F.args_zip_next_1 _)))
  have own : (f0 = .none ∨ ∃ T : Addr, f0 = rawInt T ∧ s.heap.get? T = none) → _ := fun hf' => zipS_next_item (prog := prog) (w := w) (A := A.in1) (E := E) (Q := fun v s' => wpAny (model prog w) A (pure v) Q E s') D hz hf' hTI hTO h1 h2 hl1 hl2 hx hy
    fun h' a1 a2 a3 a4 a5 a6 a7 => wpAny_pure (hQ h' ⟨⟨_, _, a1, .inr ⟨_, rfl⟩⟩, a7 _ _ D.TIz D.TITO D.TIi1 D.TIi2 hTI, ⟨_, _, a2⟩, a3, a4⟩ a5 a6 a7)
  rcases hf with hf | ⟨T, rfl⟩
  · exact own (.inl hf)
  · cases hTT : s.heap.get? T with
    | none => exact own (.inr ⟨T, rfl, hTT⟩)
    | some oT =>
      exact zip_next_item_held (Q := fun v s' => wpAny (model prog w) A (pure v) Q E s') D hz hTT hTI h1 h2 hl1 hl2 hx hy fun h' a1 a3 a4 a5 a6 a7 => wpAny_pure (hQ h' ⟨⟨_, _, a1, .inr ⟨_, rfl⟩⟩, a7 _ _ D.TIz D.TIi1 D.TIi2 hTI, ⟨a, b, a7 _ _ D.TOz D.TOi1 D.TOi2 hTO⟩, a3, a4⟩ a5 a6 fun c o c1 c2 c3 c4 e => a7 c o c1 c3 c4 e)
theorem nextOf_zs_end {z TI TO i1 i2 l1 l2 : Addr} {k : Nat} {xs ys : Array Value} {Q : Value → Shared → Prop} (hh : A.handled = none) (D : ZipApart z TI TO i1 i2 l1 l2) (st : ZS z TI TO i1 i2 l1 l2 k s.heap)
    (hl1 : s.heap.IsList l1 xs) (hl2 : s.heap.IsList l2 ys) (hend : xs[k]? = none ∨ ys[k]? = none)
    (hE : ∀ h' e, (∀ c o, c ≠ z → c ≠ TO → c ≠ i1 → c ≠ i2 → s.heap.get? c = some o → h'.get? c = some o) → (∃ o, h'.get? e = some o ∧ o.cls = .type "StopIteration") → E (.ref e) { s with heap := h' }) :
    wpAny (model prog w) A (Builtin.SmallTypes.nextOf (.ref z)) Q E s := by
  have hT := zs_typ st
  obtain ⟨⟨f0, f, hz, hf⟩, hTI, ⟨a, b, hTO⟩, h1, h2⟩ := st
  unfold Builtin.SmallTypes.nextOf
  refine wpAny_bind (wpAny_callSpecial?_slot (name := Str.ofString "__next__") hT F.slot_zip_next (wpAny_call_entry F.slot_zip_next hT F.entry_zip_next ?_ (F.args_zip_next_1 _)))
  have own : (f0 = .none ∨ ∃ T : Addr, f0 = rawInt T ∧ s.heap.get? T = none) → _ := fun hf' => zipS_next_end (prog := prog) (w := w) (A := A.in1) (E := E) (Q := fun fin s' => ∃ v, fin = .done (.ret v) ∧ wpAny (model prog w) A (pure v) Q E s') hh D hz hf' hTI hTO h1 h2 hl1 hl2 hend hE
  rcases hf with hf | ⟨T, rfl⟩
  · exact own (.inl hf)
  · cases hTT : s.heap.get? T with
    | none => exact own (.inr ⟨T, rfl, hTT⟩)
    | some oT => exact zip_next_end_held hh D hz hTT hTI h1 h2 hl1 hl2 hend fun h' e hk he => hE h' e (fun c o c1 c2 c3 c4 x => hk c o c1 c3 c4 x) he

/-- enumerate's next over any inner step that leaves the cells outside ch -/
theorem enum_next_gen {e it : Addr} {ch : List Addr} {c : Int} {old : Value} {P : Value → Heap → Prop} {Q : Value → Shared → Prop} (he : IsEnum s.heap e it c old) (hne : e ∉ ch)
    (inner : ∀ (Q' : Value → Shared → Prop), (∀ x h₁, P x h₁ → (∀ b o, b ∉ ch → s.heap.get? b = some o → h₁.get? b = some o) → Q' x { s with heap := h₁ }) → wpAny (model prog w) A (Builtin.SmallTypes.nextOf (.ref it)) Q' E s)
    (hQ : ∀ x h₁ h', P x h₁ → (∀ b o, b ∉ ch → s.heap.get? b = some o → h₁.get? b = some o) → (∀ b o, b ≠ e → h₁.get? b = some o → h'.get? b = some o) → IsEnumOut h' e it (c + 1) x h₁.objs.size →
      h'.get? h₁.objs.size = some { cls := .type "tuple", data := .seq #[.int c s.toks, x] } → Q (.ref h₁.objs.size) { s with heap := h', toks := s.toks + 1 }) :
    wpAny (model prog w) A (Builtin.«enumerate.__next__» ⟨[.ref e], []⟩) (fun fin s' => ∃ v, fin = .done (.ret v) ∧ Q v s') E s := by
  obtain ⟨hp, g, d, tk, os⟩ := s
  show wpAny _ _ (field (.ref e) 2 >>= _) _ _ _
  refine wpAny_bind (wpAny_field he rfl (x := .ref it) rfl ?_)
  refine wpAny_bind (inner _ fun x h₁ hPx hk₁ => ?_)
  replace hk₁ : ∀ b o, b ∉ ch → hp.get? b = some o → h₁.get? b = some o := hk₁
  have he₁ : IsEnum h₁ e it c old := hk₁ e _ hne he
  show wpAny _ _ (field (.ref e) 3 >>= _) _ _ ⟨h₁, g, d, tk, os⟩
  refine wpAny_bind (wpAny_field he₁ rfl (x := rawInt c) rfl ?_)
  show wpAny _ _ (field (.ref e) 4 >>= _) _ _ ⟨h₁, g, d, tk, os⟩
  refine wpAny_bind (wpAny_field he₁ rfl (x := .none) rfl ?_)
  show wpAny _ _ (mkInt c >>= _) _ _ ⟨h₁, g, d, tk, os⟩
  refine wpAny_bind (wpAny_mkInt ?_)
  show wpAny _ _ (setField (.ref e) 3 (rawInt (c + 1)) >>= _) _ _ ⟨h₁, g, d, tk + 1, os⟩
  refine wpAny_bind (wpAny_setField_rec he₁ (by simp) fun h₂ he₂ hs₂ => ?_)
  replace hs₂ : Heap.SameBut e h₁ h₂ := hs₂
  replace he₂ : IsEnum h₂ e it (c + 1) old := he₂
  show wpAny _ _ (setField (.ref e) 4 .none >>= _) _ _ ⟨h₂, g, d, tk + 1, os⟩
  refine wpAny_bind (wpAny_setField_rec he₂ (by simp) fun h₃ he₃ hs₃ => ?_)
  replace hs₃ : Heap.SameBut e h₂ h₃ := hs₃
  replace he₃ : IsEnum h₃ e it (c + 1) old := he₃
  show wpAny _ _ (newTuple [.int c tk, x] >>= _) _ _ ⟨h₃, g, d, tk + 1, os⟩
  refine wpAny_bind (wpAny_newTuple ?_)
  have he₄ : IsEnum (h₃.push { cls := .type "tuple", data := .seq #[.int c tk, x] }) e it (c + 1) old := Heap.get?_push_of_some _ he₃
  generalize hh₄ : h₃.push { cls := .type "tuple", data := .seq #[.int c tk, x] } = h₄ at he₄
  have hsz : h₃.objs.size = h₁.objs.size := by rw [hs₃.1, hs₂.1]
  have hel : e < h₁.objs.size := Heap.lt_size he₁
  have ht₄ : h₄.get? h₁.objs.size = some { cls := .type "tuple", data := .seq #[.int c tk, x] } := by rw [← hh₄, ← hsz]; exact Heap.get?_push_size _ rfl
  have hk₄ : ∀ b o, b ≠ e → h₁.get? b = some o → h₄.get? b = some o := fun b o hbe hb => by
    rw [← hh₄]; exact Heap.get?_push_of_some _ (hs₃.extBut b o hbe (hs₂.extBut b o hbe hb))
  show wpAny _ _ (Builtin.SmallTypes.ownedTupleIsFree (.ref e) >>= _) _ _ ⟨h₄, g, d, tk + 1, os⟩
  rw [hsz]
  clear hh₄ he₃ hs₃ he₂ hs₂ hsz h₃ h₂
  refine wpAny_bind ?_
  unfold Builtin.SmallTypes.ownedTupleIsFree
  refine wpAny_bind (wpAny_field he₄ rfl (x := .none) rfl (wpAny_pure ?_))
  simp only [if_true]
  refine wpAny_bind (wpAny_rule ?_)
  refine wpAny_bind (wpAny_field he₄ rfl (x := old) rfl ?_)
  refine wpAny_bind (wpAny_setField_rec he₄ (by simp) fun h₅ he₅ hs₅ => ?_)
  replace hs₅ : Heap.SameBut e h₄ h₅ := hs₅
  replace he₅ : IsEnum h₅ e it (c + 1) x := he₅
  show wpAny _ _ (Builtin.SmallTypes.ownedTupleHandOut (.ref e) (.ref h₁.objs.size) >>= _) _ _ ⟨h₅, g, d, tk + 1, os⟩
  refine wpAny_bind ?_
  unfold Builtin.SmallTypes.ownedTupleHandOut
  refine wpAny_bind (wpAny_setField_rec he₅ (by simp) fun h₆ he₆ hs₆ => ?_)
  replace hs₆ : Heap.SameBut e h₅ h₆ := hs₆
  replace he₆ : IsEnumOut h₆ e it (c + 1) x h₁.objs.size := he₆
  refine wpAny_setField_rec he₆ (by simp) fun h₇ he₇ hs₇ => ?_
  replace hs₇ : Heap.SameBut e h₆ h₇ := hs₇
  replace he₇ : IsEnumOut h₇ e it (c + 1) x h₁.objs.size := he₇
  refine wpAny_bind (wpAny_letGo (wpAny_pure ⟨_, rfl, hQ x h₁ h₇ hPx hk₁ (fun b o hbe hb => hs₇.extBut b o hbe (hs₆.extBut b o hbe (hs₅.extBut b o hbe (hk₄ b o hbe hb)))) he₇ ?_⟩))
  exact hs₇.extBut _ _ (Nat.ne_of_gt hel) (hs₆.extBut _ _ (Nat.ne_of_gt hel) (hs₅.extBut _ _ (Nat.ne_of_gt hel) ht₄))
theorem pyNext_enum_gen {e it : Addr} {ch : List Addr} {c : Int} {old : Value} {P : Value → Heap → Prop} {Q : Option Value → Shared → Prop} (he : IsEnum s.heap e it c old) (hne : e ∉ ch)
    (inner : ∀ (E' : Value → Shared → Prop) (Q' : Value → Shared → Prop), (∀ x h₁, P x h₁ → (∀ b o, b ∉ ch → s.heap.get? b = some o → h₁.get? b = some o) → Q' x { s with heap := h₁ }) → wpAny (model prog w) A.in1 (Builtin.SmallTypes.nextOf (.ref it)) Q' E' s)
    (hQ : ∀ x h₁ h', P x h₁ → (∀ b o, b ∉ ch → s.heap.get? b = some o → h₁.get? b = some o) → (∀ b o, b ≠ e → h₁.get? b = some o → h'.get? b = some o) → IsEnumOut h' e it (c + 1) x h₁.objs.size →
      h'.get? h₁.objs.size = some { cls := .type "tuple", data := .seq #[.int c s.toks, x] } → Q (some (.ref h₁.objs.size)) { s with heap := h', toks := s.toks + 1 }) :
    wpAny (model prog w) A (pyNext (.ref e)) Q E s := by
  have hT : s.TypeIs (.ref e) "enumerate" := ⟨_, he, rfl⟩
  unfold pyNext
  exact wpAny_bind (wpAny_attempt (wpAny_callSpecial?_slot (name := Str.ofString "__next__") hT F.slot_enumerate_next
    (wpAny_call_entry F.slot_enumerate_next hT F.entry_enumerate_next
      (enum_next_gen he hne (inner _) fun x h₁ h' a b c d k => wpAny_pure (hQ x h₁ h' a b c d k)) (F.args_enumerate_next_1 _))))
theorem pyNext_enum_genEnd {e it : Addr} {i : Int} {old : Value} {K' : Heap → Prop} {Q : Option Value → Shared → Prop} (he : IsEnum s.heap e it i old)
    (inner : ∀ (E' : Value → Shared → Prop) (Q' : Value → Shared → Prop), (∀ h' x, K' h' → (∃ o, h'.get? x = some o ∧ o.cls = .type "StopIteration") → E' (.ref x) { s with heap := h' }) → wpAny (model prog w) A.in1 (Builtin.SmallTypes.nextOf (.ref it)) Q' E' s)
    (hQ : ∀ h', K' h' → Q none { s with heap := h' }) : wpAny (model prog w) A (pyNext (.ref e)) Q E s := by
  have hT : s.TypeIs (.ref e) "enumerate" := ⟨_, he, rfl⟩
  unfold pyNext
  refine wpAny_bind (wpAny_attempt (wpAny_callSpecial?_slot (name := Str.ofString "__next__") hT F.slot_enumerate_next
    (wpAny_call_entry F.slot_enumerate_next hT F.entry_enumerate_next ?_ (F.args_enumerate_next_1 _))))
  show wpAny _ _ (field (.ref e) 2 >>= _) _ _ _
  refine wpAny_bind (wpAny_field he rfl (x := .ref it) rfl ?_)
  refine wpAny_bind (inner _ _ fun h' x he' hx' => ?_)
  obtain ⟨o, ho, hc⟩ := hx'
  refine wpAny_bind (wpAny_isInstance (T := "StopIteration") (b := true) ⟨o, ho, hc⟩ isSubtype_stop ?_)
  exact wpAny_pure (hQ _ he')
end
end WD

/-! enumerate(zip(a, b)) in a for -/
namespace WD
open PySem PySem.Spec PyProof.Rows L2
open Sem (wp)
open Evl (Ex Ex.refl Ex.trans Ex.new Ex.mut ex_l ex_t fresh_back)
/-- pairs of a count and a pair -/
def ItEZ (K : PySem.W.Frag) (a b : Addr) (xs ys : List V) (n : Nat) : It :=
  ⟨fun i H => (SqL K H a xs ∧ SqL K H b ys) ∧ i < n, fun i H v H' => ∃ T1 T2 x y, v = .ref T2 ∧ H T1 = none ∧ upd H T1 (.tup [x, y]) T2 = none ∧ H' = upd (upd H T1 (.tup [x, y])) T2 (.tup [.int (i : Nat), .ref T1]) ∧ xs[i]? = some x ∧ ys[i]? = some y, fun i H => (SqL K H a xs ∧ SqL K H b ys) ∧ i = n⟩
theorem turn_enumZip {P : Program} {w : World} {K : PySem.W.Frag} {elts : List Expr} {kk : Nat} {tpos : Pos} {e z TI TO i1 i2 a b : Addr} {xs ys : List V} (D : ZipApart z TI TO i1 i2 a b) (ez : e ≠ z) (eTI : e ≠ TI) (eTO : e ≠ TO) (e1 : e ≠ i1) (e2 : e ≠ i2) :
    Turn P w K (.Tuple elts kk tpos) (ItEZ K a b xs ys (min xs.length ys.length)) [e, z, TI, TO, i1, i2] e (fun i h => (∃ old, IsEnum h e z ((i : Nat) : Int) old) ∧ ZS z TI TO i1 i2 a b i h) where
  mem := by simp
  obj := fun i h st c hc => by
    obtain ⟨⟨old, he⟩, ⟨f0, f, hz, _⟩, hTI, ⟨x, y, hTO⟩, ⟨o1, q1, _, d1⟩, ⟨o2, q2, _, d2⟩⟩ := st
    have e' : c = e ∨ c = z ∨ c = TI ∨ c = TO ∨ c = i1 ∨ c = i2 := by simpa using hc
    rcases e' with q | q | q | q | q | q
    · rw [q]; exact ⟨_, he, fun v q => nomatch q⟩
    · rw [q]; exact ⟨_, hz, fun v q => nomatch q⟩
    · rw [q]; exact ⟨_, hTI, fun v q => nomatch q⟩
    · rw [q]; exact ⟨_, hTO, fun v q => nomatch q⟩
    · rw [q]; exact ⟨o1, q1, fun v q => by rw [d1] at q; cases q⟩
    · rw [q]; exact ⟨o2, q2, fun v q => by rw [d2] at q; cases q⟩
  keep := fun i h h' st k => by
    obtain ⟨⟨old, he⟩, ⟨f0, f, hz, hf⟩, hTI, ⟨x, y, hTO⟩, h1, h2⟩ := st
    exact ⟨⟨old, k e (by simp) _ he⟩, ⟨f0, f, k z (by simp) _ hz, hf⟩, k TI (by simp) _ hTI, ⟨x, y, k TO (by simp) _ hTO⟩, h1.at fun o q => k i1 (by simp) o q, h2.at fun o q => k i2 (by simp) o q⟩
  item := by
    intro X hP hw hK hc i pins s σ H E I hf st hg
    subst hP hw hK
    obtain ⟨⟨old, he⟩, zs⟩ := st
    obtain ⟨⟨hqx, hqy⟩, hi⟩ := hg
    obtain ⟨its, rv, p, _⟩ := I.list hqx
    obtain ⟨its2, rv2, p2, _⟩ := I.list hqy
    have hi1 : i < xs.length := by omega
    have hi2 : i < ys.length := by omega
    obtain ⟨u, hu, ru⟩ := rv.get (List.getElem?_eq_getElem hi1)
    obtain ⟨u2, hu2, ru2⟩ := rv2.get (List.getElem?_eq_getElem hi2)
    have nch : e ∉ [z, TO, i1, i2] := by simp [ez, eTO, e1, e2]
    refine pyNext_enum_gen (ch := [z, TO, i1, i2]) (P := fun v h₁ => v = .ref s.heap.objs.size ∧ ZS z TI TO i1 i2 a b (i + 1) h₁ ∧ IsPair h₁ s.heap.objs.size u u2 ∧ h₁.objs.size = s.heap.objs.size + 1) he nch
      (fun E' Q' hq => nextOf_zs_item D zs p.isList p2.isList (x := u) (y := u2) (by simpa using hu) (by simpa using hu2) fun h' z' hT hsz hk => hq _ h' ⟨rfl, z', hT, hsz⟩ fun c o hb q => hk c o (fun y => hb (by simp [y])) (fun y => hb (by simp [y])) (fun y => hb (by simp [y])) (fun y => hb (by simp [y])) q)
      fun x h₁ h' hP hk1 hk2 ho hT2 => ?_
    obtain ⟨rfl, z1, hT1, hsz1⟩ := hP
    have hel : e < s.heap.objs.size := Heap.lt_size he
    refine ⟨_, rfl, wpAny_letOwnedTupleGo_enum (s := { s with heap := h', toks := s.toks + 1 }) ho fun h'' he' sb => ?_⟩
    replace sb : Heap.SameBut e h' h'' := sb
    have up2 : ∀ c o, c ≠ e → h₁.get? c = some o → h''.get? c = some o := fun c o q y => (sb.2 c q).trans (hk2 c o q y)
    have new1 : ObjOk X.prog X.w (upd H s.heap.objs.size (.tup [xs[i], ys[i]])) h₁ s.heap.objs.size (.tup [xs[i], ys[i]]) :=
      ⟨by show 2 ≤ sizeLine; decide, [u, u2], .cons ru (.cons ru2 .nil), ⟨_, hT1, rfl, _, rfl⟩⟩
    have I1 : Inv X pins σ (upd H s.heap.objs.size (.tup [xs[i], ys[i]])) { s with heap := h₁ } :=
      I.turnedNew (t' := s.toks) (ch := [e, z, TI, TO, i1, i2]) (fun c o hb q => hk1 c o (fun y => hb (by
        have y' : c = z ∨ c = TO ∨ c = i1 ∨ c = i2 := by simpa using y
        simp only [List.mem_cons, List.not_mem_nil, or_false]
        rcases y' with y | y | y | y <;> simp [y])) q) hf (Nat.le_refl _) new1
    have lt : ∀ c ∈ [e, z, TI, TO, i1, i2], c < s.heap.objs.size := fun c hcm => by
      obtain ⟨⟨f0, f, hz, _⟩, hTI, ⟨x, y, hTO⟩, ⟨o1, q1, _⟩, ⟨o2, q2, _⟩⟩ := zs
      have e' : c = e ∨ c = z ∨ c = TI ∨ c = TO ∨ c = i1 ∨ c = i2 := by simpa using hcm
      rcases e' with q | q | q | q | q | q
      · rw [q]; exact hel
      · rw [q]; exact Heap.lt_size hz
      · rw [q]; exact Heap.lt_size hTI
      · rw [q]; exact Heap.lt_size hTO
      · rw [q]; exact Heap.lt_size q1
      · rw [q]; exact Heap.lt_size q2
    have hf1 : ∀ c ∈ [e, z, TI, TO, i1, i2], FpOk X pins (upd H s.heap.objs.size (.tup [xs[i], ys[i]])) c := fun c hcm => by
      obtain ⟨f0, f1, f2, f3, f4, f5⟩ := hf c hcm
      exact ⟨by rw [upd_ne (Nat.ne_of_lt (lt c hcm))]; exact f0, f1, f2, f3, f4, f5⟩
    have hT3 : h''.get? h₁.objs.size = some { cls := .type "tuple", data := .seq #[.int ((i : Nat) : Int) s.toks, .ref s.heap.objs.size] } := (sb.2 _ (Nat.ne_of_gt (by rw [hsz1]; exact Nat.lt_succ_of_lt hel))).trans hT2
    have new2 : ObjOk X.prog X.w (upd (upd H s.heap.objs.size (.tup [xs[i], ys[i]])) h₁.objs.size (.tup [.int ((i : Nat) : Int), .ref s.heap.objs.size])) h'' h₁.objs.size (.tup [.int ((i : Nat) : Int), .ref s.heap.objs.size]) :=
      ⟨by show 2 ≤ sizeLine; decide, [.int ((i : Nat) : Int) s.toks, .ref s.heap.objs.size], .cons ⟨_, rfl⟩ (.cons rfl .nil), ⟨_, hT3, rfl, _, rfl⟩⟩
    have I2 : Inv X pins σ (upd (upd H s.heap.objs.size (.tup [xs[i], ys[i]])) h₁.objs.size (.tup [.int ((i : Nat) : Int), .ref s.heap.objs.size])) { s with heap := h'', toks := s.toks + 1 } :=
      I1.turnedNew (t' := s.toks + 1) (ch := [e, z, TI, TO, i1, i2]) (fun c o hb q => up2 c o (fun y => hb (by simp [y])) q) hf1 (Nat.le_refl _) new2
    refine ⟨.ref h₁.objs.size, _, I2, rfl, ⟨s.heap.objs.size, h₁.objs.size, xs[i], ys[i], rfl, I.hok.fresh (Nat.le_refl _), I1.hok.fresh (Nat.le_refl _), rfl, List.getElem?_eq_getElem hi1, List.getElem?_eq_getElem hi2⟩, ⟨⟨.ref s.heap.objs.size, ?_⟩, ?_⟩, fun c hcm => ?_⟩
    · have e3 : ((i + 1 : Nat) : Int) = (i : Int) + 1 := by omega
      rw [e3]; exact he'
    · obtain ⟨⟨f0, f, hz, hff⟩, hTI, ⟨x, y, hTO⟩, h1, h2⟩ := z1
      exact ⟨⟨f0, f, up2 _ _ (Ne.symm ez) hz, hff⟩, up2 _ _ (Ne.symm eTI) hTI, ⟨x, y, up2 _ _ (Ne.symm eTO) hTO⟩, h1.at fun o q => up2 _ o (Ne.symm e1) q, h2.at fun o q => up2 _ o (Ne.symm e2) q⟩
    · rw [upd_ne (Nat.ne_of_lt (by rw [hsz1]; exact Nat.lt_succ_of_lt (lt c hcm)))]
      exact (hf1 c hcm).1
  done := by
    intro X hP hw hK hc i pins s σ H E I hf st hg
    subst hP hw hK
    obtain ⟨⟨old, he⟩, zs⟩ := st
    obtain ⟨⟨hqx, hqy⟩, hi⟩ := hg
    obtain ⟨its, rv, p, _⟩ := I.list hqx
    obtain ⟨its2, rv2, p2, _⟩ := I.list hqy
    have l1 := rv.length
    have l2 := rv2.length
    have hend : its.toArray[i]? = none ∨ its2.toArray[i]? = none := by
      by_cases q : xs.length ≤ ys.length
      · exact .inl (by simp; omega)
      · exact .inr (by simp; omega)
    refine pyNext_enum_genEnd (K' := fun h' => ∀ c o, c ≠ z → c ≠ TO → c ≠ i1 → c ≠ i2 → s.heap.get? c = some o → h'.get? c = some o) he
      (fun E' Q' hq => nextOf_zs_end (I.ok.hd hc) D zs p.isList p2.isList hend fun h' x hk hx => hq h' x hk hx) fun h' hk => ⟨rfl, I.turnedL (t' := s.toks) (ch := [e, z, TI, TO, i1, i2]) (fun c o hb q =>
        hk c o (fun q' => hb (by simp [q'])) (fun q' => hb (by simp [q'])) (fun q' => hb (by simp [q'])) (fun q' => hb (by simp [q'])) q) hf⟩
  self := fun A i s Q E st h => let ⟨⟨_, he⟩, _⟩ := st; wpAny_pyIter_enum he h
/-- enumerate of what is its own iterator -/
theorem meets_enumS {it : Addr} {H : Heap → Prop} (B : ∀ (prog : Program) (w : World) (A : Around) (E : Value → Shared → Prop) (s : Shared) (Q : Value → Shared → Prop), H s.heap → Q (.ref it) s → wpAny (model prog w) A (pyIter (.ref it)) Q E s) :
    Meets (Builtin.«enumerate.__new__» ⟨[.type "enumerate", .ref it], []⟩) (fun _ R s => H s.heap ∧
      R (.ok (.ret (.ref s.heap.objs.size))) { s with heap := s.heap.push { cls := .type "enumerate", data := .fields #[.none, .bool false, .ref it, rawInt 0, .none, .none] } }) :=
  .of_wp fun prog w A R s h => by
    obtain ⟨hp, g, d, tk, os⟩ := s
    obtain ⟨h1, h⟩ := h
    have hsub := sub_enumerate
    have q1 : ∀ {A' : Around} {E : Value → Shared → Prop} {Q : Value → Shared → Prop}, Q (.ref it) ⟨hp, g, d, tk, os⟩ → wpAny (model prog w) A' (pyIter (.ref it)) Q E ⟨hp, g, d, tk, os⟩ :=
      fun q => B prog w _ _ ⟨hp, g, d, tk, os⟩ _ h1 q
    wp_walk using q1
    refine wpAny_stack_any fun st => wpAny_pure ?_
    split
    · rename_i c _ _ _ _ _
      cases (c == Value.type "enumerate") <;> (wp_walk using q1; exact ⟨_, rfl, h⟩)
    · wp_walk using q1
      exact ⟨_, rfl, h⟩
theorem call_enumS {prog : Program} {w : World} {A : Around} {E : Value → Shared → Prop} {s : Shared} {it : Addr} {H : Heap → Prop} {Q : Value → Shared → Prop} (B : ∀ (prog : Program) (w : World) (A : Around) (E : Value → Shared → Prop) (s : Shared) (Q : Value → Shared → Prop), H s.heap → Q (.ref it) s → wpAny (model prog w) A (pyIter (.ref it)) Q E s) (h1 : H s.heap)
    (h : ∀ h', IsEnum h' s.heap.objs.size it 0 .none → (∀ b o, s.heap.get? b = some o → h'.get? b = some o) → Q (.ref s.heap.objs.size) { s with heap := h' }) :
    wpAny (model prog w) A (call (.type "enumerate") [.ref it]) Q E s := by
  refine callType_new F.called_enumerate (by decide) (F.typeCall_enumerate_1 _) (F.newCall_enumerate_1 _) (fun obj => F.args_object_init_2 obj _) F.entry_enumerate_new (meets_enumS B) ⟨h1, ?_⟩
  have he : IsEnum (s.heap.push { cls := .type "enumerate", data := .fields #[.none, .bool false, .ref it, rawInt 0, .none, .none] }) s.heap.objs.size it 0 .none := Heap.get?_push_size _ rfl
  exact ⟨⟨_, he, rfl⟩, h _ he fun b o x => Heap.get?_push_of_some _ x⟩
def iEnZ (K : PySem.W.Frag) (ta : TA) : TI := fun σ H R => ta σ H fun vs H1 => ∃ a b xs ys, vs = [.ref a, .ref b] ∧ SqL K H1 a xs ∧ SqL K H1 b ys ∧ R (ItEZ K a b xs ys (min xs.length ys.length)) H1
theorem pi_enumZip {X : Cx} {e1 e2 : Expr} {ta : TA} {p p2 pos pos2 tpos : Pos} {elts : List Expr} {kk : Nat} (hgE : Gl X "enumerate") (hmE : X.mg "enumerate" = none) (hg : Gl X "zip") (hm : X.mg "zip" = none) (ha : PA X [e1, e2] ta)
    (hs : starEach [e1, e2] X.env = (false, eval e1 X.env) :: starEach [e2] X.env := by rfl) (hpl : (backTo pos2 (starEach [e2] X.env)).any (·.1) = false := by rfl) :
    PI X (.Tuple elts kk tpos) (.Call (.Name "enumerate" p) [.Call (.Name "zip" p2) [e1, e2] [] pos2] [] pos) (iEnZ X.K ta) := by
  refine ⟨fun pins s σ H R I h => ?_⟩
  refine PyProof.Rows.Call_Name1 (ld_blt I hgE hmE PyProof.Rows.boot_enumerate (PySem.callWith_type1 ?_)) rfl
  refine Call_ (ld_blt I hg hm PyProof.Rows.boot_zip (PyProof.Rows.callWith_type1 (thn (ha.run pos2 pins s σ H _ I h) fun us s1 ⟨vs, H1, I1, r1, q1⟩ => ?_) hs hpl))
  obtain ⟨a, b, xs, ys, ex, hqx, hqy, q⟩ := q1
  subst ex
  cases r1 with
  | cons r rr =>
    cases rr with
    | cons r' rr =>
      cases rr
      cases r
      cases r'
      obtain ⟨its, rv, p1, _⟩ := I1.list hqx
      obtain ⟨its2, rv2, p2, _⟩ := I1.list hqy
      have la : a < s1.heap.objs.size := p1.lt
      have lb : b < s1.heap.objs.size := p2.lt
      refine call_zip_2 p1.isList p2.isList fun h' hz hTI hTO h1 h2 hsz hk => ?_
      refine call_enumS (s := { s1 with heap := h' }) (H := fun h => IsZip h (s1.heap.objs.size + 4) (s1.heap.objs.size + 2) (s1.heap.objs.size + 3) .none) (fun prog w A E s Q hz' hq => wpAny_pyIter_zip hz' hq) hz fun h₂ he hk2 => wpAny_pyIter_enum he ?_
      replace he : IsEnum h₂ h'.objs.size (s1.heap.objs.size + 4) 0 .none := he
      show PIE X pins σ _ R (.ref h'.objs.size) { s1 with heap := h₂ }
      rw [hsz] at he ⊢
      have I2 : Inv X pins σ H1 { s1 with heap := h₂ } := I1.kept (t' := s1.toks) fun c o q => hk2 c o (hk c o q)
      have D := PySem.W.ktu_apart s1.heap.objs.size a b la lb
      have fr : ∀ c, s1.heap.objs.size ≤ c → FpOk X pins H1 c := fun c hle => I1.fpOk hle (I1.hok.fresh hle)
      generalize s1.heap.objs.size = n at *
      refine ⟨n + 5, [n + 5, n + 4, n + 2, n + 3, n, n + 1], _, _, H1, rfl, I2, turn_enumZip D (by simp) (by simp) (by simp) (by simp) (by simp), ⟨⟨.none, he⟩, ⟨_, _, hk2 _ _ hz, .inl rfl⟩, hk2 _ _ hTI, ⟨_, _, hk2 _ _ hTO⟩, h1.at fun o q => hk2 _ o q, h2.at fun o q => hk2 _ o q⟩, fun c hcm => ?_, q⟩
      have e' : c = n + 5 ∨ c = n + 4 ∨ c = n + 2 ∨ c = n + 3 ∨ c = n ∨ c = n + 1 := by simpa using hcm
      have hle : n ≤ c := by rcases e' with y | y | y | y | y | y <;> rw [y] <;> first | exact Nat.le_refl _ | exact Nat.le_add_right _ _
      exact fr c hle
section
variable {X : Cx} {κ : Nat → Kd} {E : EX} {a b : Expr} {pos : Pos} {ms : Env → Res (List D)}
def enumZD : List D → Res (List D)
  | [.list xs, .list ys] => .ok (enumD (zipD xs ys))
  | _ => .stk
theorem di_enumZip {p p2 pos2 tpos : Pos} {elts : List Expr} {kk : Nat} (hgE : Gl X "enumerate") (hmE : X.mg "enumerate" = none) (hg : Gl X "zip") (hm : X.mg "zip" = none) (ha : DA X κ E [a, b] ms)
    (hs : starEach [a, b] X.env = (false, eval a X.env) :: starEach [b] X.env := by rfl) (hpl : (backTo pos2 (starEach [b] X.env)).any (·.1) = false := by rfl) :
    DI X κ E (.Tuple elts kk tpos) (.Call (.Name "enumerate" p) [.Call (.Name "zip" p2) [a, b] [] pos2] [] pos) (mBindA enumZD ms) :=
  (pi_enumZip hgE hmE hg hm ha hs hpl).imp fun σ H R ⟨F0, H0, F, ρ, S, c⟩ => ⟨F0, H0, F, ρ, S, Res.sat_imp (Res.sat_bind c) (fun ds _ k vs F' H' x r => by
    unfold enumZD at k
    split at k
    · rename_i xs ys heq
      cases r with
      | cons r1 r2 =>
        cases r2 with
        | cons r2 r3 =>
          cases r3
          cases r1 with
          | @lst a vs _ h1 h2 =>
            cases r2 with
            | @lst b ws _ h3 h4 =>
              refine ⟨a, b, vs, ws, rfl, ex_l x.s h1, ex_l x.s h3, k _ F' H' x fun i F2 H2 g s hi => ?_⟩
              have hl : (enumD (zipD xs ys)).length = min vs.length ws.length := by simp only [enumD, List.length_map, List.length_zipIdx]; rw [zipD_len, h2.length, h4.length]
              have G : SqL X.K H2 a vs ∧ SqL X.K H2 b ws := ⟨ex_l (Ex.trans g s) h1, ex_l (Ex.trans g s) h3⟩
              refine ⟨fun hlt => ⟨⟨G, by omega⟩, fun v H3 y => ?_⟩, fun e => ⟨G, by omega⟩⟩
              obtain ⟨T1, T2, u, u2, rfl, n1, n2, rfl, e1, e2⟩ := y
              obtain ⟨d1, hd1, rd1⟩ := h2.getV e1
              obtain ⟨d2, hd2, rd2⟩ := h4.getV e2
              have x1 : Ext F2 H2 (upd F2 T1 (.tup [u, u2])) (upd H2 T1 (.tup [u, u2])) := .new s n1
              have x2 := x1.trans (.new (o := .tup [.int (i : Nat), .ref T1]) x1.s n2)
              refine ⟨.tuple [.int (i : Nat), .tuple [d1, d2]], _, ?_, x2, ?_⟩
              · have hz := zipD_get _ _ _ _ _ hd1 hd2
                simp [enumD, List.getElem?_map, List.getElem?_zipIdx, hz]
              · have eT : Ex (upd F2 T1 (.tup [u, u2])) (upd (upd F2 T1 (.tup [u, u2])) T2 (.tup [.int (i : Nat), .ref T1])) := Ex.new (none_of_ex x1.s n2)
                exact .tup (Evl.st_of upd_same) (.cons (.int _) (.cons (.tup (Evl.st_of (eT _ _ upd_same)) (.cons (rd1.mono (Ex.trans g x2.f)) (.cons (rd2.mono (Ex.trans g x2.f)) .nil))) .nil))
    · exact k.elim) fun _ z => z⟩
end
end WD

/-! calls with keywords for parameters that are named at the call -/
namespace WD
open PySem PySem.Spec PyProof.Rows L2
open Evl (Ex Ex.refl Ex.trans Ex.new Ex.mut ex_l ex_t fresh_back)
def gK {α : Type} (n k : Nat) (us ws : List α) : List α := if us.length = n ∧ ws.length = k then us ++ ws else []
theorem gK_rel {n k : Nat} {vs zs : List V} {us ws : List Value} (r : Vals vs us) (r2 : Vals zs ws) : Vals (gK n k vs zs) (gK n k us ws) := by
  unfold gK
  rw [r.length, r2.length]
  by_cases h : us.length = n ∧ ws.length = k
  · rw [if_pos h, if_pos h]; exact r.append r2
  · rw [if_neg h, if_neg h]; exact .nil
theorem kb_of {K : PySem.W.Frag} {fd : FuncData} {ps ks : List Str} {n k : Nat} (h0 : ps.length ≠ 0) (h : ∀ (s : Shared) (us ws : List Value), us.length = n → ws.length = k → BindsTo s fd ⟨us, ks.zip ws⟩ (ps.zip (us ++ ws))) : KBinds K fd ps ks (gK n k) (gK n k) :=
  ⟨fun s us ws _ hl => by
    unfold gK at hl ⊢
    by_cases z : us.length = n ∧ ws.length = k
    · rw [if_pos z]; exact h s us ws z.1 z.2
    · rw [if_neg z] at hl; exact absurd hl.symm h0, gK_rel⟩
section
variable {X : Cx} {CX : CXT} {k : Nat} {f : Addr} {fd : FuncData} {ps ks : List Str} {sp : Sp} {E : L2.St → XK} {x : Str} {p pos : Pos} {e : Expr} {es : List Expr} {kws : List Keyword} {t tk : TA} {g : List Value → List Value → List Value} {gV : List V → List V → List V}
def tCallKS (sp : Sp) (gV : List V → List V → List V) (E : L2.St → XK) (t tk : TA) : TE := fun σ H Q => t σ H fun vs H1 => tk σ H1 fun zs H2 => sp (gV vs zs) H2 Q (E σ)
theorem pe_callKS (F : FnOk X.prog X.w X.K X.mg X.base CX k f fd ps sp) (hr : Room k X.A) (hg : Gl X x) (hm : X.mg x = some (.ref f)) (hk : PySem.W.keepIn X.K (.ref f) = true) (hb : KBinds X.K fd ps ks g gV) (hx : ∀ σ, PassesAt CX X σ (E σ))
    (ha : PA X (e :: es) t) (hkw : PK X kws tk) (hall : (backToKw pos (keywordEach kws X.env)).all (·.1.isSome) = true := by rfl) (hks : (backToKw pos (keywordEach kws X.env)).filterMap (·.1) = ks := by rfl)
    (hdb : (x == ("__debug__" : Str)) = false := by decide) (he : starEach (e :: es) X.env = (false, eval e X.env) :: starEach es X.env := by rfl)
    (hpl : ((backTo pos (starEach (e :: es) X.env)).any (·.1) || (backToKw pos (keywordEach kws X.env)).any (·.1.isNone)) = false := by rfl) :
    PE X (.Call (.Name x p) (e :: es) kws pos) (tCallKS sp gV E t tk) := by
  refine ⟨fun pins s σ H Q I h => ?_⟩
  refine wpAny_Call_Name_kw (ld_glob I hg hm ?_ hdb)
  refine PySem.W.callWith_KW (h₀ := X.base) I.ok.mod.kin hk hall (thn (ha.run pos pins s σ H _ I h) fun us s1 ⟨vs, H1, I1, r, q⟩ => ?_) hpl he
  refine thn (hkw.run pos pins s1 σ H1 _ I1 q) fun ws s2 ⟨zs, H2, I2, rz, q2⟩ => ⟨I2.kIn, ?_⟩
  rw [hks]
  have r2 := hb.rel r rz
  have hl : (g us ws).length = ps.length := by rw [← r2.length]; exact F.len _ _ _ _ q2
  refine wpAny_call (codeAny_mono (F.run X.A X.stack s2 H2 ⟨us, ks.zip ws⟩ (g us ws) (gV vs zs) Q (E σ) hr I2.env0 (hb.to s2 us ws I2.kIn hl) r2 q2) fun r s' hq => ?_)
  cases r with
  | error e => exact hx σ pins H2 s2 e s' I2 hq
  | ok fl =>
    cases fl with
    | ret u => exact I2.after hq
    | next => exact False.elim hq
    | brk => exact False.elim hq
    | cont => exact False.elim hq
end
structure FnK (P : Program) (w : World) (K : Frag) (mg : Mg) (base : Heap) (k : Nat) (x : Str) (ps ks : List Str) (n j : Nat) (m : List D → Res D) : Prop where
  ex : ∃ f fd, mg x = some (.ref f) ∧ PySem.W.keepIn K (.ref f) = true ∧ KBinds K fd ps ks (gK n j) (gK n j) ∧ FnOk P w K mg base (L2N.CX P w) k f fd ps (spM mg K ps.length m)
section
variable {X : Cx} {κ κe : Nat → Kd} {E : EX} {a b c e : Expr} {es : List Expr} {pos : Pos} {st : Stmt} {sts : List Stmt}
def mCallK (m : List D → Res D) (ma mk : Env → Res (List D)) : Env → Res D := fun ρ => (ma ρ).bind fun xs => (mk ρ).bind fun ys => m (xs ++ ys)
def DK (X : Cx) (κ : Nat → Kd) (E : EX) (ks : List Keyword) (m : Env → Res (List D)) : Prop := PK X ks (rdA X.mg X.K κ E m)
theorem dk_nil : DK X κ E [] mNil := by
  refine ⟨fun pos pins s σ H Q I h => pk_nil.run pos pins s σ H Q I ?_⟩
  obtain ⟨F0, H0, F, ρ, S, c⟩ := h
  exact c [] F H (Ext.refl S.sub) .nil
theorem dk_cons {nm : Option Str} {kpos : Pos} {kws : List Keyword} {m : Env → Res D} {ms : Env → Res (List D)} (h : DE X κ E e m) (hs : DK X κ E kws ms) : DK X κ E (⟨nm, e, kpos⟩ :: kws) (mCons m ms) := by
  refine ⟨fun pos pins s σ H Q I hh => (pk_cons h hs).run pos pins s σ H Q I ?_⟩
  obtain ⟨F0, H0, F, ρ, S, c⟩ := hh
  exact ⟨F0, H0, F, ρ, S, Res.sat_imp (Res.sat_bind c) (fun d _ k v F' H' e r =>
    ⟨F0, H0, F', ρ, S.mono e, Res.sat_imp (Res.sat_bind k) (fun ds _ k vs F2 H2 e2 rs => k (v :: vs) F2 H2 (e.trans e2) (.cons (r.mono e2.f) rs)) fun x z => z.mono e⟩) fun _ z => z⟩
theorem de_callK {k n j : Nat} {x : Str} {p : Pos} {ps ks : List Str} {kws : List Keyword} {m : List D → Res D} {ma mk : Env → Res (List D)} (G : FnK X.prog X.w X.K X.mg X.base k x ps ks n j m) (hr : Room k X.A) (hx : ∀ σ, PassesAt (L2N.CX X.prog X.w) X σ (E.err σ)) (hg : Gl X x)
    (ha : DA X κ E (e :: es) ma) (hkw : DK X κ E kws mk) (hlen : n + j = ps.length) (hma : ∀ ρ ds, ma ρ = .ok ds → ds.length = n) (hmk : ∀ ρ ds, mk ρ = .ok ds → ds.length = j)
    (hall : (backToKw pos (keywordEach kws X.env)).all (·.1.isSome) = true := by rfl) (hks : (backToKw pos (keywordEach kws X.env)).filterMap (·.1) = ks := by rfl)
    (hdb : (x == ("__debug__" : Str)) = false := by decide) (he : starEach (e :: es) X.env = (false, eval e X.env) :: starEach es X.env := by rfl)
    (hpl : ((backTo pos (starEach (e :: es) X.env)).any (·.1) || (backToKw pos (keywordEach kws X.env)).any (·.1.isNone)) = false := by rfl) :
    DE X κ E (.Call (.Name x p) (e :: es) kws pos) (mCallK m ma mk) := by
  obtain ⟨f, fd, hm, hk, hb, hF⟩ := G.ex
  refine (pe_callKS hF hr hg hm hk hb hx ha hkw hall hks hdb he hpl).imp fun σ H Q ⟨F0, H0, F, ρ, S, c⟩ => ⟨F0, H0, F, ρ, S, Res.sat_imp (Res.sat_bind c) (fun xs q k vs F' H' x r => ?_) fun _ z => z⟩
  refine ⟨F0, H0, F', ρ, S.mono x, Res.sat_imp (Res.sat_bind k) (fun ys q2 k2 zs F2 H2 x2 r2 => ?_) fun _ z => z.mono x⟩
  have l1 : vs.length = n := by rw [r.length, hma ρ xs q]
  have l2 : zs.length = j := by rw [r2.length, hmk ρ ys q2]
  have eg : gK n j vs zs = vs ++ zs := if_pos ⟨l1, l2⟩
  show spM X.mg X.K ps.length m (gK n j vs zs) H2 Q (E.err σ)
  rw [eg]
  have x3 := x.trans x2
  exact ⟨by rw [List.length_append, l1, l2, hlen], F2, xs ++ ys, x3.s, x3.n S.nf, (r.mono x2.f).append r2, Res.sat_imp k2 (fun d _ k v F4 H4 x4 r4 => k v F4 H4 (x3.trans x4) r4) fun _ z => z.mono x3⟩
end
end WD
namespace WD
open PySem PySem.Spec PyProof.Rows L2
theorem kbinds {K : PySem.W.Frag} {x qual : Str} {st : Stmt} {f : Addr} {fd : FuncData} {ps ks : List Str} {n k : Nat} (F : Fun K x qual st f fd) (h0 : ps.length ≠ 0)
    (h : ∀ (kV doc pm : Value) (an : Option Addr) (cdv ct : Value) (us ws : List Value), us.length = n → ws.length = k → bindArgs (PySem.W.fnOf x qual (defArgs st) (defBody st) (defScope st) .none kV doc pm an cdv ct) ⟨us, ks.zip ws⟩ = pure (ps.zip (us ++ ws))) : KBinds K fd ps ks (gK n k) (gK n k) := by
  obtain ⟨oc, od, kV, doc, pm, an, cdv, ct, osl, rfl, lk, hcd⟩ := F.ex
  exact kb_of h0 fun s us ws h1 h2 => .of_eq (h kV doc pm an cdv ct us ws h1 h2)
end WD

/-! {**a, **b}: dicts put together -/
namespace WD
open PySem PySem.Spec PyProof.Rows L2
open Sem (wp)
open Evl (Ex Ex.refl Ex.trans Ex.new Ex.mut ex_l ex_t fresh_back)
section
variable {prog : Program} {w : World} {A : Around} {E : Value → Shared → Prop} {s : Shared}
theorem wp_dictPut {d : Addr} {kvs : List (Key × Value)} {k : Key} {key v : Value} {Q : Unit → Shared → Prop} (hkey : (mixKind prog w).is k key = true) (hm : s.heap.DictOf (mixKind prog w) d kvs)
    (hQ : ∀ h', h'.DictOf (mixKind prog w) d (stored kvs k v) → Heap.SameBut d s.heap h' → Q () { s with heap := h' })
    (hsz : kvs.length ≤ sizeLine) :
    wpAny (model prog w) A (dictPut d ((mixKind prog w).hash k) key v) Q E s := by
  generalize mixKind prog w = knd at *
  obtain ⟨o, es, ep, ho, hc, hd, hk, hp, hn⟩ := hm
  have hes : es.size ≤ sizeLine := by
    have e1 := hp.length
    have e2 : es.toList.length = es.size := by simp
    omega
  unfold dictPut
  refine wpAny_bind (wpAny_dictFind_of hkey ho hd hk ?_)
  have hidx : (es.findIdx? fun e => knd.is k e.key) = kvs.findIdx? fun kv => decide (kv.1 = k) := by
    rw [← hp.findIdx k]; obtain ⟨l⟩ := es; simp
  cases hi : es.findIdx? fun e => knd.is k e.key with
  | some i =>
    refine wpAny_updateDict ho hd (hQ _ ⟨_, _, ep, Heap.get?_update_self _ ho (Obj.isFreed_of_dict (Obj.data_mapDict hd _)),
      hc.mapDict _, Obj.data_mapDict hd _, hk.modify _ _, ?_, ?_⟩ (Heap.SameBut.update ..))
    · rw [stored, if_pos (any_of_findIdx_some (hidx ▸ hi))]
      have hl : (es.toList.findIdx? fun e => knd.is k e.key) = some i := by rw [← hi]; obtain ⟨l⟩ := es; simp
      have := hp.modify hn hl v
      obtain ⟨l⟩ := es
      simpa using this
    · rw [stored, if_pos (any_of_findIdx_some (hidx ▸ hi)), keys_map_store]; exact hn
  | none =>
    have hnot : k ∉ kvs.map (·.1) := not_mem_of_findIdx_none (hidx ▸ hi)
    have hany : ¬ (kvs.any fun kv => decide (kv.1 = k)) = true := by
      rw [List.any_eq_true]; rintro ⟨kv, hkv, he⟩
      exact hnot (List.mem_map.mpr ⟨kv, hkv, of_decide_eq_true he⟩)
    refine wpAny_updateDictKeys (hz := hes) ho hd (hQ _ ⟨_, _, ep + 1, Heap.get?_update_self _ ho (Obj.isFreed_of_dict (Obj.data_mapDictKeys hd _)),
      hc.mapDictKeys _, Obj.data_mapDictKeys hd _, hk.push hkey _, ?_, ?_⟩ (Heap.SameBut.update ..))
    · rw [stored, if_neg hany]
      have := hp.append hkey (knd.hash k) v
      obtain ⟨l⟩ := es
      simpa using this
    · rw [stored, if_neg hany, List.map_append, List.nodup_append]
      refine ⟨hn, by simp, ?_⟩
      intro a ha b hb
      simp only [List.map_cons, List.map_nil, List.mem_singleton] at hb
      subst hb
      exact fun e => hnot (e ▸ ha)
theorem wp_mergeMapping {d o : Addr} {kvs more : List (Key × Value)} {Q : Unit → Shared → Prop} (hdo : d ≠ o) (hoS : (o == sysModules) = false)
    (hd : s.heap.DictOf (mixKind prog w) d kvs) (ho : s.heap.DictOf (mixKind prog w) o more)
    (hQ : ∀ h', h'.DictOf (mixKind prog w) d (merged kvs more) → h'.DictOf (mixKind prog w) o more → Heap.SameBut d s.heap h' → Q () { s with heap := h' })
    (hsz : kvs.length + more.length ≤ sizeLine) :
    wpAny (model prog w) A (mergeMapping d (.ref o) false) Q E s := by
  obtain ⟨od, esd, epd, hod, hcd, hdd, hkd, hpd, hnd⟩ := id hd
  obtain ⟨oo, eso, epo, hoo, hco, hdo', hko, hpo, hno⟩ := id ho
  have hlen : more.length = eso.size := by rw [← hpo.length]; simp
  unfold mergeMapping
  refine wpAny_bind (wpAny_isInstance ho.typeIs isSubtype_dict_dict ?_)
  simp only [if_true]
  refine wpAny_bind (wpAny_specialOf ho.typeIs PySem.F.slot_dict_iter.lookup ?_)
  simp only [beq_self_eq_true]
  refine wpAny_bind (wpAny_pure ?_)
  show wpAny _ _ (if (o == sysModules) = true then _ else _) _ _ _
  rw [if_neg (by rw [hoS]; exact Bool.false_ne_true)]
  refine wpAny_bind (wpAny_dictEntries hod hdd ?_)
  have loop : wpAny (model prog w) A (do
      let l ← dictEntries o
      let size : Nat := l.size
      let epoch ← dictEpoch o
      forIn (List.range size) PUnit.unit fun i (_ : PUnit) => (do
          let l' ← dictEntries o
          match l'[i]? with
            | some e => do
              holding [e.key, e.val] (dictPut d e.hash e.key e.val)
              let ep' ← dictEpoch o
              if (ep' != epoch) = true then do
                  (unsupported "dict.changed-during-merge" : Sem PUnit)
                  pure (ForInStep.yield PUnit.unit)
                else pure (ForInStep.yield PUnit.unit)
            | _ => do
              (unsupported "dict.changed-during-merge" : Sem PUnit)
              pure (ForInStep.yield PUnit.unit) : Sem (ForInStep PUnit))
      pure ()) Q E s := by
    refine wpAny_bind (wpAny_dictEntries hoo hdo' ?_)
    refine wpAny_bind (wpAny_dictEpoch hoo hdo' ?_)
    refine wpAny_bind ?_
    rw [List.range_eq_range']
    refine wpAny_forIn_list _
      (fun rest _ s' => ∃ h' i, s' = { s with heap := h' } ∧ rest = List.range' i (eso.size - i) ∧ i ≤ eso.size ∧ h'.DictOf (mixKind prog w) d (merged kvs (more.take i)) ∧ h'.get? o = some oo ∧ Heap.SameBut d s.heap h')
      _ ?_ ?_ _ _ ⟨s.heap, 0, rfl, by simp, Nat.zero_le _, by simpa [merged] using hd, hoo, Heap.SameBut.refl _ _⟩
    · rintro x rest b s' ⟨h', i, rfl, hr, hi, hd', hoo', hs'⟩
      have hlt : i < eso.size := by
        rcases Nat.lt_or_ge i eso.size with h | h
        · exact h
        · rw [Nat.sub_eq_zero_of_le h] at hr; simp at hr
      obtain ⟨rfl, hrest⟩ : x = i ∧ rest = List.range' (i + 1) (eso.size - (i + 1)) := by
        have e : eso.size - i = (eso.size - (i + 1)) + 1 := by omega
        rw [e, List.range'_succ] at hr
        injection hr with h1 h2
        exact ⟨h1, h2⟩
      refine wpAny_bind (wpAny_dictEntries hoo' hdo' ?_)
      rw [Array.getElem?_eq_getElem hlt]
      obtain ⟨kv, hkv⟩ : ∃ kv, more[x]? = some kv := ⟨more[x]'(by rw [hlen]; exact hlt), List.getElem?_eq_getElem _⟩
      obtain ⟨k, v⟩ := kv
      obtain ⟨hkey, hval⟩ := hpo.get? (e := eso[x]) (by simp [hlt]) hkv
      obtain ⟨k', hkey', hhash⟩ := hko eso[x] (Array.getElem_mem hlt)
      obtain rfl : k' = k := (mixKind prog w).inj _ _ _ hkey' hkey
      show wpAny _ _ (holding [eso[x].key, eso[x].val] (dictPut d eso[x].hash eso[x].key eso[x].val) >>= _) _ _ _
      rw [hhash, hval]
      have hmx : (merged kvs (more.take x)).length ≤ sizeLine := by
        have e1 := merged_length_le kvs (more.take x)
        have e2 : (more.take x).length ≤ more.length := by rw [List.length_take]; omega
        omega
      refine wpAny_bind (wpAny_holding (wp_dictPut (hsz := hmx) hkey hd' fun h'' hd'' hs'' => ?_))
      have hoo'' : h''.get? o = some oo := (hs''.2 o (Ne.symm hdo)).trans hoo'
      refine wpAny_bind (wpAny_dictEpoch hoo'' hdo' ?_)
      rw [if_neg (by simp)]
      exact wpAny_pure ⟨h'', x + 1, rfl, hrest, hlt, by rw [merged_take_succ kvs more x (k', v) hkv]; exact hd'', hoo'', hs'.trans hs''⟩
    · rintro b s' ⟨h', i, rfl, hr, hi, hd', hoo', hs'⟩
      have hin : i = eso.size := by
        rcases Nat.lt_or_ge i eso.size with h | h
        · have e : eso.size - i = (eso.size - (i + 1)) + 1 := by omega
          rw [e, List.range'_succ] at hr; exact nomatch hr
        · exact Nat.le_antisymm hi h
      refine wpAny_pure (hQ h' ?_ ⟨oo, eso, epo, hoo', hco, hdo', hko, hpo, hno⟩ hs')
      rw [hin, ← hlen, List.take_length] at hd'; exact hd'
  split
  · refine wpAny_bind (wpAny_dictEntries hoo hdo' ?_)
    refine wpAny_bind ?_
    rw [← Array.forIn_toList]
    refine wpAny_forIn_list _ (fun rest _ s' => s' = s ∧ ∀ e ∈ rest, e ∈ eso.toList) _ ?_ ?_ _ _ ⟨rfl, fun e he => he⟩
    · rintro x rest b s' ⟨rfl, hr⟩
      obtain ⟨k, hk, _⟩ := hko x (by have := hr x (by simp); simpa using this)
      rcases keyIs_shape hk with ⟨i, t, _, e⟩ | ⟨y, t, _, e⟩
      · rw [e]
        exact wpAny_pure ⟨rfl, fun e he => hr e (by simp [he])⟩
      · rw [e]
        exact wpAny_pure ⟨rfl, fun e he => hr e (by simp [he])⟩
    · rintro b s' ⟨rfl, _⟩
      exact loop
  · exact loop
end
theorem merge_one {prog : Program} {w : World} {A : Around} {E : Value → Shared → Prop} {s : Shared} {l : List Value} {f1 f3 : Value → Sem Unit} {f2 : Value → Sem Unit} {d o : Addr} {kvs more : List (Key × Value)} {Q : Unit → Shared → Prop} (hdo : d ≠ o) (hoS : (o == sysModules) = false)
    (hd : s.heap.DictOf (mixKind prog w) d kvs) (ho : s.heap.DictOf (mixKind prog w) o more) (hsz : kvs.length + more.length ≤ sizeLine)
    (hQ : ∀ h', h'.DictOf (mixKind prog w) d (merged kvs more) → h'.DictOf (mixKind prog w) o more → Heap.SameBut d s.heap h' → Q () { s with heap := h' }) :
    wpAny (model prog w) A ((((holding l (mergeMapping d (.ref o) false)).onRaise f1).tryCatch f2).onRaise f3) Q E s :=
  wpAny_onRaise (wpAny_tryCatch (wpAny_onRaise (wpAny_holding (wp_mergeMapping hdo hoS hd ho hQ hsz))))
/-- {**a, **b} -/
def tStar2 (ta tb : TE) : TE := fun σ H Q => ∀ p, H p = none → ta σ (upd H p (.dK [])) fun x H1 => H1 p = some (.dK []) ∧ ∃ a ks, x = .ref a ∧ a ≠ p ∧ Rd H1 a (.dK ks) ∧ tb σ (upd H1 p (.dK (mergeK [] ks))) fun y H2 => H2 p = some (.dK (mergeK [] ks)) ∧ ∃ b ls, y = .ref b ∧ b ≠ p ∧ Rd H2 b (.dK ls) ∧ ks.length + ls.length ≤ sizeLine ∧ Q (.ref p) (upd H2 p (.dK (mergeK (mergeK [] ks) ls)))
theorem merge_inv {X : Cx} {pins : List (Addr × Obj)} {σ : L2.St} {H : Hp} {s : Shared} {A : Around} {E : Value → Shared → Prop} {l : List Value} {f1 f2 f3 : Value → Sem Unit} {p a : Addr} {ks ls : List (Key × V)} {Q : Unit → Shared → Prop} (I : Inv X pins σ H s) (hp : H p = some (.dK ks)) (ha : Rd H a (.dK ls)) (hne : a ≠ p) (hsz : ks.length + ls.length ≤ sizeLine)
    (hQ : ∀ s', Inv X pins σ (upd H p (.dK (mergeK ks ls))) s' → Q () s') :
    wpAny (model X.prog X.w) A ((((holding l (mergeMapping p (.ref a) false)).onRaise f1).tryCatch f2).onRaise f3) Q E s := by
  obtain ⟨z, hd, vs0, r0, dd⟩ := dk_of I.hok hp
  obtain ⟨z2, hd2, vs, r, dd2⟩ := dk_rd I.hok ha
  have hl := length_mergeK ls ks
  refine merge_one (Ne.symm hne) hd2 dd dd2 (by rw [← r0.length, ← r.length]; exact hsz) fun h' dd' _ hs => hQ _ ?_
  have he : ∃ q, h'.get? p = some q := let ⟨q, _, _, hq, _⟩ := dd'; ⟨q, hq⟩
  exact d_write (t' := s.toks) I (by rw [hp]; exact True.intro) hs he (dk_new (by omega) hd (r.merge r0) dd')
theorem pe_star2 {X : Cx} {a b : Expr} {pos : Pos} {ta tb : TE} (ha : PE X a ta) (hb : PE X b tb) : PE X (.Dict [none, none] [a, b] pos) (tStar2 ta tb) := by
  refine ⟨fun pins s σ H Q I q => ?_⟩
  have hn := I.hok.fresh (Nat.le_refl s.heap.objs.size)
  have I1 := I.laid (a := s.heap.objs.size) (o := .dK []) (h' := s.heap.push { cls := .type "dict", data := .dict #[] }) (t' := s.toks) (fun _ _ q => Heap.get?_push_of_some _ q) (Nat.le_refl _) (dk_empty s.heap I.big)
  show wpAny _ _ (do standAt pos; dictDisplay [(none, do let x ← eval a X.env; standAt pos; pure x), (none, do let x ← eval b X.env; standAt pos; pure x)]) _ _ s
  refine wpAny_bind (wpAny_standAt ?_)
  unfold dictDisplay
  simp only [List.forIn_cons, List.forIn_nil, List.isEmpty_nil, if_true]
  refine wpAny_bind ?_
  refine wpAny_bind ?_
  refine wpAny_bind (wpAny_pure ?_)
  refine wpAny_bind (wpAny_alloc ?_)
  refine wpAny_bind (wpAny_holding (wpAny_bind (thn (ha.run pins _ σ _ _ I1 (q _ hn)) fun u s2 ⟨x, H2, I2, rx, hp, oa, ks, ex, hne, hra, q2⟩ => wpAny_bind (wpAny_standAt (wpAny_pure ?_)))))
  subst ex
  obtain rfl : u = Value.ref oa := rx
  have z0 : ([] : List (Key × V)).length + ks.length ≤ sizeLine := by
    have := (dk_rd I2.hok hra).1
    rw [List.length_nil]; omega
  refine wpAny_bind (merge_inv I2 hp hra hne z0 fun s3 I3 => wpAny_pure ?_)
  refine wpAny_bind ?_
  refine wpAny_bind (wpAny_pure ?_)
  refine wpAny_bind (wpAny_pure ?_)
  refine wpAny_bind (wpAny_holding (wpAny_bind (thn (hb.run pins _ σ _ _ I3 q2) fun u s4 ⟨x, H4, I4, rx, hp4, ob, ls, ex, hne2, hrb, hsz, q3⟩ => wpAny_bind (wpAny_standAt (wpAny_pure ?_)))))
  subst ex
  obtain rfl : u = Value.ref ob := rx
  have hl := length_mergeK ks []
  refine wpAny_bind (merge_inv I4 hp4 hrb hne2 (by rw [List.length_nil] at hl; omega) fun s5 I5 => wpAny_pure ?_)
  exact wpAny_pure (wpAny_bind (wpAny_pure (wpAny_pure ⟨.ref _, _, I5, rfl, q3⟩)))

def mrgD (ds es : List (D × D)) : List (D × D) := es.foldl (fun acc p => match keyOf p.1 with | some k => putD acc k p.2 | none => acc) ds
theorem RpK.merge {K : Frag} {F : Hp} : ∀ {ls : List (Key × V)} {es : List (D × D)} {ks : List (Key × V)} {ds : List (D × D)}, RpK K F ks ds → RpK K F ls es → RpK K F (mergeK ks ls) (mrgD ds es)
  | [], _, _, _, h, r => by cases r; exact h
  | q :: ls, _, ks, ds, h, r => by
    cases r with
    | @cons k v _ d es ko hv hr =>
      have e : mrgD ds ((keyD k, d) :: es) = mrgD (putD ds k d) es := by
        unfold mrgD
        rw [List.foldl_cons]
        simp only [keyOf_keyD]
      rw [e]
      show RpK K F (mergeK (putK ks k v) ls) _
      exact RpK.merge (h.put ko hv) hr
def dctD : D → Res (List (D × D))
  | .dict ds => .ok ds
  | _ => .stk
def mStar2 (ma mb : Env → Res D) : Env → Res (List (D × D)) := fun ρ => (ma ρ).bind fun x => (dctD x).bind fun ds => (mb ρ).bind fun y => (dctD y).bind fun es =>
  if ds.length + es.length ≤ sizeLine then .ok (mrgD (mrgD [] ds) es) else .stk
theorem Rp.dictF {K : Frag} {F H : Hp} {v : V} {d : List (D × D)} (s : Ex F H) (r : Rp K F v (.dict d)) : ∃ a kvs, v = .ref a ∧ Rd H a (.dK kvs) ∧ RpK K F kvs d ∧ F a ≠ none := by
  cases r with
  | @dct a kvs _ h1 h2 =>
    refine ⟨a, kvs, rfl, h1.imp (s _ _) fun ⟨o, q⟩ => ⟨o, s _ _ q⟩, h2, ?_⟩
    rcases h1 with h | ⟨o, h⟩ <;> exact some_ne h
section
variable {X : Cx} {κ : Nat → Kd} {E : EX} {a b e : Expr} {pos : Pos} {ma mb : Env → Res D}
theorem Ext.mutN {F H F1 H1 : Hp} {p : Addr} {o : HO} (x : Ext F H F1 H1) (hp : H p = none) (fp : F1 p = none) : Ext F H F1 (upd H1 p o) :=
  ⟨x.f, Ex.mut x.h hp, x.o, fun b u q => by rw [upd_ne (ne_of_none q fp)]; exact x.s b u q, x.n⟩
theorem dnd_star2 (ha : DE X κ E a ma) (hb : DE X κ E b mb) : PE X (.Dict [none, none] [a, b] pos) (rdND X.mg X.K κ E (mStar2 ma mb)) :=
  (pe_star2 ha hb).imp fun σ H Q ⟨F0, H0, F, ρ, S, c⟩ => fun p hp => by
    have x0 : Ext F H F (upd H p (.dK [])) := .newO S.sub hp
    have fp := none_of_ex S.sub hp
    refine ⟨F0, H0, F, ρ, S.mono x0, Res.sat_imp (Res.sat_bind c) (fun dx _ c1 x F1 H1 x1 r1 => ?_) fun _ z => z.mono x0⟩
    have x01 := x0.trans x1
    have f1 : F1 p = none := x1.o p fp (by rw [upd_same]; exact fun z => nomatch z)
    have h1 : H1 p = some (.dK []) := x1.h _ _ upd_same
    cases dx with
    | dict ds =>
      have c1 : Res.sat _ _ ((mb ρ).bind fun y => (dctD y).bind fun es => if ds.length + es.length ≤ sizeLine then Res.ok (mrgD (mrgD [] ds) es) else .stk) := c1
      obtain ⟨oa, ks, rfl, hra, rk, fa⟩ := Rp.dictF x1.s r1
      refine ⟨h1, oa, ks, rfl, fun z => fa (by rw [z]; exact f1), hra, ?_⟩
      have e1 : Ext F H F1 (upd H1 p (.dK (mergeK [] ks))) := x01.mutN hp f1
      refine ⟨F0, H0, F1, ρ, S.mono e1, Res.sat_imp (Res.sat_bind c1) (fun dy _ c2 y F2 H2 x2 r2 => ?_) fun _ z => z.mono e1⟩
      have f2 : F2 p = none := x2.o p f1 (by rw [upd_same]; exact fun z => nomatch z)
      have h2 : H2 p = some (.dK (mergeK [] ks)) := x2.h _ _ upd_same
      cases dy with
      | dict es =>
        obtain ⟨ob, ls, rfl, hrb, rl, fb⟩ := Rp.dictF x2.s r2
        have c2 : Res.sat _ _ (if ds.length + es.length ≤ sizeLine then Res.ok (mrgD (mrgD [] ds) es) else .stk) := c2
        by_cases z : ds.length + es.length ≤ sizeLine
        · rw [if_pos z] at c2
          have e2 := (e1.trans x2).mutN (o := .dK (mergeK (mergeK [] ks) ls)) hp f2
          exact ⟨h2, ob, ls, rfl, fun z => fb (by rw [z]; exact f2), hrb, by rw [rk.length, rl.length]; exact z, c2 p _ F2 _ e2 hp f2 upd_same ((RpK.merge .nil (rk.mono x2.f)).merge rl)⟩
        · rw [if_neg z] at c2; exact c2.elim
      | _ => exact False.elim c2
    | _ => exact False.elim c1
end
end WD

/-! defs that return what is new, or a plain value; copies of dicts; lists of dicts compared -/
namespace WD
open PySem PySem.Spec PyProof.Rows L2
open Evl (Ex Ex.refl Ex.trans Ex.new Ex.mut ex_l ex_t fresh_back)
/-- new since H0 and owned by nobody, or no object at all -/
def XOk (K : Frag) (H0 F H : Hp) (v : V) (d : D) : Prop := (∃ a, v = .ref a ∧ H0 a = none ∧ F a = none ∧ OwnAt K F H a d) ∨ (litD d = true ∧ Rp K F v d)
abbrev eXX (K : Frag) (E : XK) : EX := ⟨fun _ => E, fun H0 d v F H => XOk K H0 F H v d⟩
def rdX (mg : Mg) (K : Frag) (κ : Nat → Kd) (E : EX) (m : Env → Res D) : TE := fun σ H Q => ∃ F0 H0 F ρ, Stt K κ F0 H0 F H σ ρ ∧ (m ρ).sat (fun d => ∀ v F' H', Ext F H F' H' → XOk K H F' H' v d → Q v H') (ErrOk mg K (E.err σ) F H)
def DX (X : Cx) (κ : Nat → Kd) (E : EX) (e : Expr) (m : Env → Res D) : Prop := PE X e (rdX X.mg X.K κ E m)
def spX (mg : Mg) (K : Frag) (n : Nat) (m : List D → Res D) : Sp := fun vs H Q E => vs.length = n ∧ ∃ F ds, Ex F H ∧ NF F ∧ RpA K F vs ds ∧
  (m ds).sat (fun d => ∀ v F' H', Ext F H F' H' → XOk K H F' H' v d → Q v H') (ErrOk mg K E F H)
structure FnX (P : Program) (w : World) (K : Frag) (mg : Mg) (base : Heap) (k : Nat) (x : Str) (ps : List Str) (m : List D → Res D) : Prop where
  ex : ∃ f fd, mg x = some (.ref f) ∧ PySem.W.keepIn K (.ref f) = true ∧ Binds K fd ps [] ∧ FnOk P w K mg base (L2N.CX P w) k f fd ps (spX mg K ps.length m)
def mDict (m : Env → Res (List (D × D))) : Env → Res D := fun ρ => (m ρ).bind fun ds => .ok (.dict ds)
def mLit (m : Env → Res D) : Env → Res D := fun ρ => (m ρ).bind fun d => if litD d = true then .ok d else .stk
/-- an owned name gets what is new -/
def mAsgO (i : Nat) (m : Env → Res D) : Env → Out := fun ρ => (m ρ).out fun d => if litD d = true then .stk else .nx (ρ.set i (some d))
section
variable {X : Cx} {κ κe : Nat → Kd} {E : EX} {a b c e : Expr} {es : List Expr} {pos : Pos} {st : Stmt} {sts : List Stmt} {ma mb : Env → Res D}
theorem dx_call {k : Nat} {x : Str} {p : Pos} {ps : List Str} {m : List D → Res D} {ma : Env → Res (List D)} (G : FnX X.prog X.w X.K X.mg X.base k x ps m) (hr : Room k X.A) (hx : ∀ σ, PassesAt (L2N.CX X.prog X.w) X σ (E.err σ)) (hg : Gl X x) (ha : DA X κ E (e :: es) ma) (hlen : (e :: es).length = ps.length)
    (hma : ∀ ρ ds, ma ρ = .ok ds → ds.length = ps.length)
    (hdb : (x == ("__debug__" : Str)) = false := by decide) (he : starEach (e :: es) X.env = (false, eval e X.env) :: starEach es X.env := by rfl) (hpl : (backTo pos (starEach es X.env)).any (·.1) = false := by rfl) :
    DX X κ E (.Call (.Name x p) (e :: es) [] pos) (mCall m ma) := by
  obtain ⟨f, fd, hm, hk, hb, hF⟩ := G.ex
  refine (pe_callS hF hr hg hm hk hb hx ha hdb he hpl).imp fun σ H Q ⟨F0, H0, F, ρ, S, c⟩ => ⟨F0, H0, F, ρ, S, Res.sat_imp (Res.sat_bind c) (fun ds q k vs F' H' x r => ?_) fun _ z => z⟩
  refine ⟨by rw [r.length, hma ρ ds q], F', ds, x.s, x.n S.nf, r, Res.sat_imp k (fun d _ k v F2 H2 x2 ok => k v F2 H2 (x.trans x2) ?_) fun _ z => z.mono x⟩
  rcases ok with ⟨p, ev, hp, fp, o⟩ | ⟨hl, r⟩
  · exact .inl ⟨p, ev, fresh_back x.h hp, fp, o⟩
  · exact .inr ⟨hl, r⟩
theorem dx_nd {m : Env → Res (List (D × D))} (h : PE X e (rdND X.mg X.K κ E m)) : DX X κ E e (mDict m) := h.imp fun σ H Q ⟨F0, H0, F, ρ, S, c⟩ =>
  ⟨F0, H0, F, ρ, S, Res.sat_imp (Res.sat_bind c) (fun ds _ k p vs F' H' x hp fp hv r => k (.ref p) F' H' x (.inl ⟨p, rfl, hp, fp, .inr ⟨vs, ds, rfl, hv, r⟩⟩)) fun _ z => z⟩
theorem dx_lit {m : Env → Res D} (h : DE X κ E e m) : DX X κ E e (mLit m) := h.imp fun σ H Q ⟨F0, H0, F, ρ, S, c⟩ =>
  ⟨F0, H0, F, ρ, S, Res.sat_imp (Res.sat_bind c) (fun d _ k v F' H' x r => by
    by_cases z : litD d = true
    · simp only [if_pos z] at k; exact k v F' H' x (.inr ⟨z, r⟩)
    · simp only [if_neg z] at k; exact k.elim) fun _ z => z⟩
theorem XOk.back {K : Frag} {H0 H F' H' : Hp} {v : V} {d : D} (e : Ex H0 H) (h : XOk K H F' H' v d) : XOk K H0 F' H' v d := by
  rcases h with ⟨p, ev, hp, fp, o⟩ | ⟨hl, r⟩
  · exact .inl ⟨p, ev, fresh_back e hp, fp, o⟩
  · exact .inr ⟨hl, r⟩
theorem ds_retX {m : Env → Res D} (h : DX X κ E e m) (hR : ∀ H0 d v F H, XOk X.K H0 F H v d → E.ret H0 d v F H := by exact fun _ _ _ _ _ h => h) : DS X κ E (.Return (some e) pos) (mRet m) :=
  (ps_ret h).imp fun Dn σ H ⟨F0, H0, F, ρ, S, k⟩ => ⟨F0, H0, F, ρ, S, Res.sat_imp (out_sat k) (fun d _ k v F' H' x ok => k v F' H' (S.ext.trans x) (hR _ _ _ _ _ (ok.back S.h0))) fun x z => err_back S z⟩
/-- return x, x an owned name -/
theorem ds_retOwn {i : Nat} {x : Str} {px : Pos} (hk : κ i = .ow) (hN : X.N[i]? = some x) (hv : Vis X.env.scope x) (hR : ∀ H0 d v F H, XOk X.K H0 F H v d → E.ret H0 d v F H := by exact fun _ _ _ _ _ h => h) (hd : (x == ("__debug__" : Str)) = false := by decide) (hcd : (x == ("__classdict__" : Str)) = false := by decide) : DS X κ E (.Return (some (.Name x px)) pos) (mRet (mVar i)) :=
  (ps_ret (pe_var hN hv hd hcd)).imp fun Dn σ H ⟨F0, H0, F, ρ, S, k⟩ => by
    obtain ⟨d, e, k⟩ := ofO_sat (out_sat k)
    obtain ⟨v, h1, h2⟩ := S.slot i d (join_some e)
    rw [hk] at h2
    exact ⟨v, h1, k v F H S.ext (hR _ _ _ _ _ (.inl h2))⟩
theorem ds_setX {i : Nat} {x : Str} {pos' : Pos} {m : Env → Res D} (hk : κ i = .mx) (hN : X.N.Nodup) (hi : X.N[i]? = some x) (hx : Loc X.env.scope x) (h : DX X κ E e m) (hs : swapsWith e (some (.Name x pos')) pos.line X.env = pure false := by rfl)
    (hf : X.fn x = true ∨ X.env.scope.names.lookup x = some .local := by first | exact .inl rfl | exact .inr rfl | assumption) : DS X κ E (.Assign [.Name x pos'] e pos) (mAsg i m) :=
  (ps_set (i := i) hN hi hx h hs hf).imp fun Dn σ H ⟨F0, H0, F, ρ, S, k⟩ => ⟨F0, H0, F, ρ, S, Res.sat_imp (out_sat k) (fun d _ k v F' H' x ok => by
    refine k _ F' H' x.f ((S.mono x).setW (by rw [hk]; exact ok.back S.h0) fun j c dj w hj ej nj oi oj => ?_)
    rw [hk] at oi
    have oi : v = .ref c := oi
    rcases ok with ⟨p, ev, hp, fp, o⟩ | ⟨hl, r⟩
    · rw [ev] at oi
      cases oi
      have g := S.slotAt hj ej
      exact (g.owned (Owns.back g (fun a _ o q => x.h a o q) (fun a o q => x.s a o (x.f a o q)) oj)).2.2 hp
    · rw [oi] at r
      exact lit_ref hl r) fun x z => err_back S z⟩
theorem ds_setO {i : Nat} {x : Str} {pos' : Pos} {m : Env → Res D} (hk : κ i = .ow) (hN : X.N.Nodup) (hi : X.N[i]? = some x) (hx : Loc X.env.scope x) (h : DX X κ E e m) (hs : swapsWith e (some (.Name x pos')) pos.line X.env = pure false := by rfl)
    (hf : X.fn x = true ∨ X.env.scope.names.lookup x = some .local := by first | exact .inl rfl | exact .inr rfl | assumption) : DS X κ E (.Assign [.Name x pos'] e pos) (mAsgO i m) :=
  (ps_set (i := i) hN hi hx h hs hf).imp fun Dn σ H ⟨F0, H0, F, ρ, S, k⟩ => ⟨F0, H0, F, ρ, S, Res.sat_imp (out_sat k) (fun d _ k v F' H' x ok => by
    by_cases z : litD d = true
    · simp only [if_pos z] at k; exact k.elim
    · simp only [if_neg z] at k
      rcases ok with ⟨p, rfl, hp, fp, o⟩ | ⟨hl, r⟩
      · exact k _ F' H' x.f ((S.mono x).setO hk (fresh_back S.h0 hp) fp o fun j dj w hj _ ej ow => ((S.slotAt hj ej).owned (Owns.back (S.slotAt hj ej) (fun a _ o q => x.h a o q) (fun a o q => x.s a o (x.f a o q)) ow)).2.2 hp)
      · exact absurd hl z) fun x z => err_back S z⟩
/-- x[k] = v, x a dict that came out of such a call -/
theorem ds_dputM {i : Nat} {mk mv : Env → Res D} {x : Str} {n : Nat} {px p2 : Pos} (hr : Room n X.A) (hk : κ i = .mx) (hN : X.N[i]? = some x) (hv : Vis X.env.scope x) (hb : DE X κ E b mk) (he : DE X κ E e mv) (hs : swapsWith e (some (.Subscript (.Name x px) b p2)) pos.line X.env = pure false := by rfl)
    (hdb : (x == ("__debug__" : Str)) = false := by decide) (hcd : (x == ("__classdict__" : Str)) = false := by decide) : DS X κ E (.Assign [.Subscript (.Name x px) b p2] e pos) (mDPut i mk mv) :=
  (ps_dput (hu_of hr) (pe_var hN hv hdb hcd) hb he hs).imp fun Dn σ H ⟨F0, H0, F, ρ, S, k⟩ => ⟨F0, H0, F, ρ, S, Res.sat_imp (out_sat k) (fun d _ k v F1 H1 x1 rv => by
    obtain ⟨ds, hd, k⟩ := getDct_sat (out_sat k)
    have S1 := S.mono x1
    have at' : ∀ {F H : Hp}, Stt X.K κ F0 H0 F H σ ρ → ∃ a, σ[i]? = some (some (.ref a)) ∧ H0 a = none ∧ F a = none ∧ OwnAt X.K F H a (.dict ds) := fun {F H} S => by
      obtain ⟨v, h1, h2⟩ := S.slot i _ hd
      rw [hk] at h2
      rcases h2 with ⟨a, ev, ha, fa, o⟩ | ⟨hl, _⟩
      · exact ⟨a, by rw [h1, ev], ha, fa, o⟩
      · cases hl
    obtain ⟨a, hs', ha0, fa, o⟩ := at' S1
    refine ⟨.ref a, hs', F0, H0, F1, ρ, S1, Res.sat_imp (out_sat k) (fun dk _ k y F2 H2 x2 ry => ?_) fun x z => err_back S1 z⟩
    have S2 := S1.mono x2
    obtain ⟨kk, hkk, k⟩ := ofO_sat (out_sat k)
    obtain ⟨e1, _, ko⟩ := ry.key hkk
    subst e1
    obtain ⟨a', hs2, ha2, fa2, o2⟩ := at' S2
    rw [hs'] at hs2
    cases hs2
    obtain ⟨kvs, g, r⟩ := own_dict' o2
    by_cases z : ds.length < sizeLine
    · simp only [if_pos z] at k
      refine ⟨a, _, rfl, DPut.k g (by rw [r.length]; exact z), k _ F2 _ (x1.trans x2).f ?_⟩
      have ow : ∀ {H : Hp} {c : Addr}, Owns (κ i) H (.ref a) c ↔ c = a := fun {H c} => by
        rw [hk]
        exact ⟨fun h => (V.ref.inj (show V.ref a = .ref c from h)).symm, fun h => by rw [h]; exact (rfl : V.ref a = .ref a)⟩
      refine S2.chg hd hs' (Ex.refl F2) (fun b u e => by rw [upd_ne (ne_of_none e fa2)]; exact S2.sub b u e) S2.nf (fun _ h _ => h) (fun b x hx nb => ?_) (by rw [hk]; exact .inl ⟨a, rfl, ha2, fa2, .inr ⟨_, _, rfl, upd_same, r.put ko (rv.mono x2.f)⟩⟩) fun b ob => ?_
      · rw [upd_ne (fun z => nb (ow.mpr z))]; exact hx
      · exact .inl (ow.mpr (ow.mp ob))
    · simp only [if_neg z] at k; exact k.elim) fun x z => err_back S z⟩
theorem fn_okX {P : Program} {w : World} {K : Frag} {mg : Mg} {base : Heap} {x qual : Str} {st : Stmt} {f : Addr} {fd : FuncData} {N ps : List Str} {k n : Nat} {body : Env → Out} (F : Fun K x qual st f fd) (S : FnScope N ps (defScope st)) (hn : N.length = n)
    (hk : ∀ i, i < ps.length → κ i = .im)
    (hbody : ∀ (cdv : Value) (A : Around) (outer : List PySem.Env) (s : Shared) (H : Hp) (E : XK), Room k (A.deeper (envOfC qual (defScope st) s.heap.objs.size f cdv)) →
      DSs2 (cxOf (L2N.CX P w) P w K mg base N qual (defScope st) f cdv A outer s H E) κ κe (eXX K E) (defBody st) body) : FnOk P w K mg base (L2N.CX P w) (k + 1) f fd ps (spX mg K ps.length (mkFn n body)) := by
  subst hn
  refine F.okQ S (fun vs H Q E h => h.1) fun cdv A outer s H vs Q E hr h => ⟨_, hbody cdv A outer s H E hr, ?_⟩
  obtain ⟨hl, F, ds, e, nf, r, c⟩ := h
  refine ⟨F, H, F, _, fn_start e nf r hl hk, ?_⟩
  unfold mkFn at c
  generalize ho : body (ds.map some ++ List.replicate (N.length - ds.length) none) = o at c ⊢
  cases o with
  | nx ρ => exact fun σ' F' H' x S' => c .non F' H' S'.ext (.inr ⟨rfl, .non⟩)
  | bk ρ => exact c.elim
  | ct ρ => exact c.elim
  | rt d => exact fun v F' H' x ok => c v F' H' x ok
  | err x => exact fun _ => c
  | stk => exact c
/-- try: return e, e of this kind -/
theorem ds_tryRX {h0 : ExceptHandler} {hds : List ExceptHandler} {l : List Sut} {ps : Pos} {tb : Tbl} {me : Env → Res D}
    (hb : ∀ (W : WX) (pn : List (Addr × Obj)) (xe : Value → Shared → Prop), L2N.Takes (X.tr pn xe) W → DX (X.tr pn xe) κ ⟨WE W, E.ret⟩ e me)
    (hd : HdsD X κ E (h0 :: hds) l) (ht : TblOk X.K X.mg tb) (hcl : ∀ n ∈ l, ∃ cv, X.mg n.cls = some cv) (hN : X.N.Nodup) (tk : L2N.Takes X (fun cls d σ H => E.err σ cls d H)) (hR : ∀ H0 d v F H, XOk X.K H0 F H v d → E.ret H0 d v F H := by exact fun _ _ _ _ _ h => h) (hs : X.stack = X.env :: X.outer := by rfl) (hf : X.env.frame = some X.env.locals := by rfl) :
    DS X κ E (.Try [.Return (some e) ps] (h0 :: hds) [] [] pos) (mTry tb me (fun d _ => .rt d) l) := by
  obtain ⟨l', h⟩ := hds_of hd ht
  obtain ⟨h1, h2⟩ := h fun _ => hcl
  have hb' : ∀ (W : WX) (pn : List (Addr × Obj)) (xe : Value → Shared → Prop), L2N.Takes (X.tr pn xe) W → PSs (X.tr pn xe) [.Return (some e) ps] (fun Dn σ H => rdX X.mg X.K κ ⟨WE W, E.ret⟩ me σ H fun v H' => Dn.rt v H') := fun W pn xe tk => pss_one (ps_ret (hb W pn xe tk))
  refine (try_walk hs hf hN tk hb' h1).imp fun Dn σ H ⟨F0, H0, F, ρ, S, k⟩ => ⟨F0, H0, F, ρ, S, ?_⟩
  unfold mTry at k
  cases q : me ρ with
  | ok d =>
    simp only [q] at k
    exact fun v F' H' x ok => k v F' H' (S.ext.trans x) (hR _ _ _ _ _ (ok.back S.h0))
  | err y =>
    simp only [q] at k
    exact fun F' H' c dd x rep => h2 Dn F0 H0 F' H' σ ρ y c dd (S.mono x) rep (OutOk.mono (H := H) x.f k)
  | stk => simp only [q] at k; exact k.elim
/-- a new dict comes to rest at once -/
theorem de_ndF {m : Env → Res (List (D × D))} (h : PE X e (rdND X.mg X.K κ E m)) : DE X κ E e (mDict m) := ⟨fun pins s σ H Q I ⟨F0, H0, F, ρ, S, c⟩ =>
  thn (h.run pins s σ H (fun v H' => ∃ p vs, v = .ref p ∧ H' p = some (.dK vs) ∧ ∀ o, Q v (upd H' p (.frz o (.dK vs)))) I ⟨F0, H0, F, ρ, S, Res.sat_imp (Res.sat_bind c) (fun ds _ k p vs F' H' x hp fp hv r => ⟨p, vs, rfl, hv, fun o => by
    have e1 : Ex F' (upd F' p (.frz o (.dK vs))) := Ex.new fp
    refine k (.ref p) (upd F' p (.frz o (.dK vs))) _ ⟨x.f.trans e1, Ex.mut x.h hp, fun a h1 h2 => ?_, fun a u q => ?_, fun n => (x.n n).upd fun _ h => nomatch h⟩ (.dct (.inr ⟨o, upd_same⟩) (r.mono e1))
    · rw [upd_ne (fun z => h2 (by rw [z]; exact hp))]; exact x.o a h1 h2
    · by_cases z : a = p
      · subst z; rw [upd_same] at q ⊢; exact q
      · rw [upd_ne z] at q ⊢; exact x.s a u q⟩) fun _ z => z⟩)
    fun u s1 ⟨v, H1, I1, r1, p, vs, ev, hv, q⟩ => by
      obtain ⟨o, I2⟩ := I1.lock hv True.intro
      exact ⟨v, _, I2, r1, q o⟩⟩
/-- dict(x), a copy -/
def mDcp (m : Env → Res D) : Env → Res (List (D × D)) := fun ρ => (m ρ).bind dctD
theorem dnd_copy {p : Pos} (hg : Gl X "dict") (hm : X.mg "dict" = none) (ha : DB X κ E e ma) (hv : bootBuiltins "dict" = some (.type "dict") := by decide +kernel) (he : starEach [e] X.env = (false, eval e X.env) :: starEach [] X.env := by rfl) (hpl : (backTo pos (starEach [] X.env)).any (·.1) = false := by rfl) : PE X (.Call (.Name "dict" p) [e] [] pos) (rdND X.mg X.K κ E (mDcp ma)) :=
  (pe_callTy call_dictD hg hm hv (pa_cons ha pa_nil he) (by decide) (by decide) he hpl).imp fun σ H Q ⟨F0, H0, F, ρ, S, c⟩ => ⟨F0, H0, F, ρ, S, Res.sat_imp (Res.sat_bind c) (fun d _ k v F' H' x r => by
    cases d with
    | dict ds =>
      obtain ⟨a, kvs, rfl, h1, r1⟩ := r.dict x.s
      exact ⟨a, kvs, rfl, h1, fun l hl => k l kvs F' _ (x.trans (.newO x.s hl)) (fresh_back x.h hl) (none_of_ex x.s hl) upd_same r1⟩
    | _ => exact k.elim) fun _ z => z⟩
end
/-! lists of dicts that are alike -/
def intK (es : List (D × D)) : Bool := es.all fun p => match p.1 with | .int _ => true | _ => false
def dctOk : D → Bool
  | .dict es => plainK es && (eqKL es es && intK es)
  | _ => false
theorem dictOf_ints {P P' : Program} {w w' : World} {h : Heap} {d : Addr} {kvs : List (Key × Value)} (hd : h.DictOf (mixKind P w) d kvs) (hi : ∀ p ∈ kvs, ∃ i, p.1 = .inl i) : h.DictOf (mixKind P' w') d kvs := by
  obtain ⟨o, es, ep, ho, hc, hdd, hk, hp, hn⟩ := hd
  have same : ∀ {L : List DictEntry} {kvs : List (Key × Value)}, PySem.Pairs (mixKind P w) L kvs → PySem.Pairs (mixKind P' w') L kvs := fun {L kvs} h => by
    induction h with
    | nil => exact .nil
    | cons a b _ ih => exact .cons a b ih
  have intsQ : ∀ {L : List DictEntry} {kvs : List (Key × Value)}, PySem.Pairs (mixKind P w) L kvs → (∀ p ∈ kvs, ∃ i, p.1 = .inl i) → ∀ e ∈ L, ∀ k, (mixKind P w).is k e.key = true → ∃ i, k = .inl i := fun {L kvs} h => by
    induction h with
    | nil => intro _ e he; simp at he
    | @cons e' kv es' kvs' a b _ ih =>
      intro hi e he k k1
      rcases List.mem_cons.mp he with q | q
      · subst q
        obtain ⟨i, e1⟩ := hi kv (by simp)
        exact ⟨i, ((mixKind P w).inj _ _ _ k1 a).trans e1⟩
      · exact ih (fun p hp => hi p (by simp [hp])) e q k k1
  refine ⟨o, es, ep, ho, hc, hdd, fun e he => ?_, same hp, hn⟩
  obtain ⟨k, k1, k2⟩ := hk e he
  obtain ⟨i, rfl⟩ := intsQ hp hi e (by simpa using he) k k1
  exact ⟨.inl i, k1, k2⟩
theorem RpK.ints {K : Frag} {F : Hp} : ∀ {ks : List (Key × V)} {es : List (D × D)} {vs : List (Key × Value)}, RpK K F ks es → KV ks vs → intK es = true → ∀ p ∈ vs, ∃ i, p.1 = .inl i
  | [], _, _, r, kv, _ => by
    cases r; cases kv
    intro p hp; simp at hp
  | q :: ks, _, vs, r, kv, h => by
    cases r with
    | @cons k v _ d es ko hv hr =>
      cases kv with
      | @cons _ y _ ys e1 t =>
        have h' : (match keyD k with | .int _ => true | _ => false) = true ∧ intK es = true := by
          unfold intK at h ⊢
          rw [List.all_cons, Bool.and_eq_true] at h
          exact h
        intro p hp
        rcases List.mem_cons.mp hp with z | z
        · subst z
          cases k with
          | inl i => exact ⟨i, e1.1.symm⟩
          | inr x => exact absurd h'.1 (by simp [keyD])
        · exact RpK.ints hr t h'.2 p z
section
variable {X : Cx} {pins : List (Addr × Obj)} {σ : L2.St} {H : Hp} {s : Shared}
theorem eq_at_dict (I : Inv X pins σ H s) {A : Around} (hu : A.units + 50 < cLine) {x y : V} {d : D} {v u : Value} (rx : Rp X.K H x d) (ry : Rp X.K H y d) (hd : dctOk d = true) (r1 : RelV x v) (r2 : RelV y u) : SeqAt.EqAt A s v u true := by
  cases d with
  | dict es =>
    have hd : (plainK es && (eqKL es es && intK es)) = true := hd
    rw [Bool.and_eq_true, Bool.and_eq_true] at hd
    obtain ⟨p1, p2, p3⟩ := hd
    cases rx with
    | @dct a ks _ ha ra =>
      cases ry with
      | @dct b ls _ hb rb =>
        obtain rfl : v = Value.ref a := r1
        obtain rfl : u = Value.ref b := r2
        by_cases z : a = b
        · subst z; exact SeqAt.EqAt.same _
        · obtain ⟨_, ya, va, ka, da⟩ := dk_rd I.hok ha
          obtain ⟨_, yb, vb, kb, db⟩ := dk_rd I.hok hb
          have la : va.length = es.length := by rw [← ka.length]; exact RpK.len2 ra
          have lb : vb.length = es.length := by rw [← kb.length]; exact RpK.len2 rb
          have ia := RpK.ints ra ka p3
          have ib := RpK.ints rb kb p3
          refine SeqAt.EqAt.of_refs z fun prog w E Q hq => ?_
          refine PySem.W.keq_eq (knd := mixKind prog w) (r := eqK es es) ya yb (dictOf_ints da ia) (dictOf_ints db ib) (by omega) (fun _ => hits_plain I (A := A.in1) (by show A.units + 1 + 40 < cLine; omega) rb p1 kb ra p1 ka) ?_
          rw [la, lb]
          have : (es.length == es.length && eqK es es) = true := p2
          rw [this]; exact hq
  | _ => cases hd
def rEqLd (K : PySem.W.Frag) (f : Bool) : R2 := fun x y H Q => ∃ a b xs ys ds, x = .ref a ∧ y = .ref b ∧ SqL K H a xs ∧ SqL K H b ys ∧ RpA K H xs ds ∧ RpA K H ys ds ∧ (∀ d ∈ ds, dctOk d = true) ∧ Q (.bl f) H
theorem lst_at (I : Inv X pins σ H s) {A : Around} (hu : A.units + 50 < cLine) {xs ys : List V} {ds : List D} {us ws : List Value} (rx : RpA X.K H xs ds) (ry : RpA X.K H ys ds) (hd : ∀ d ∈ ds, dctOk d = true) (r1 : Vals xs us) (r2 : Vals ys ws) : ∀ j (h1 : j < us.toArray.size) (h2 : j < ws.toArray.size), SeqAt.EqAt A s us.toArray[j] ws.toArray[j] true := fun j h1 h2 => by
  have h1' : j < us.length := by simpa using h1
  have h2' : j < ws.length := by simpa using h2
  have l1 := r1.length
  have l2 := r2.length
  obtain ⟨u, hu1, ru⟩ := r1.get (show xs[j]? = some (xs[j]'(by omega)) from List.getElem?_eq_getElem (by omega))
  obtain ⟨w, hw1, rw'⟩ := r2.get (show ys[j]? = some (ys[j]'(by omega)) from List.getElem?_eq_getElem (by omega))
  obtain ⟨d, hd1, rd1⟩ := rx.getV (show xs[j]? = some (xs[j]'(by omega)) from List.getElem?_eq_getElem (by omega))
  obtain ⟨d', hd2, rd2⟩ := ry.getV (show ys[j]? = some (ys[j]'(by omega)) from List.getElem?_eq_getElem (by omega))
  rw [hd1] at hd2
  cases hd2
  have e1 : us.toArray[j] = u := by
    have := List.getElem?_eq_getElem h1'
    rw [hu1] at this
    simpa using (Option.some.inj this).symm
  have e2 : ws.toArray[j] = w := by
    have := List.getElem?_eq_getElem h2'
    rw [hw1] at this
    simpa using (Option.some.inj this).symm
  rw [e1, e2]
  exact eq_at_dict I hu rd1 rd2 (hd d (List.mem_of_getElem? hd1)) ru rw'
theorem all_true (n : Nat) : ((List.range n).all fun _ => true) = true := by simp
theorem op_eqLd (hu : X.A.units + 64 < cLine) : OpR X (compareOp .Eq) (rEqLd X.K true) := by
  intro pins s σ H x y v u Q I rx ry h
  obtain ⟨a, b, xs, ys, ds, rfl, rfl, ha, hb, r1, r2, hd, q⟩ := h
  obtain rfl : v = Value.ref a := rx
  obtain rfl : u = Value.ref b := ry
  obtain ⟨us, v1, p1, _⟩ := I.list ha
  obtain ⟨ws, v2, p2, _⟩ := I.list hb
  have l1 := v1.length
  have l2 := v2.length
  have l3 := r1.length
  have l4 := r2.length
  refine SeqAt.eq_listAt (e := fun _ => true) p1.isList p2.isList (by simp; omega) (by omega) (lst_at I (A := X.A.in1) (by show X.A.units + 1 + 50 < cLine; omega) r1 r2 hd v1 v2) ?_
  rw [all_true]
  exact ⟨.bl true, H, I, rfl, q⟩
theorem op_neLd (hu : X.A.units + 64 < cLine) : OpR X (compareOp .NotEq) (rEqLd X.K false) := by
  intro pins s σ H x y v u Q I rx ry h
  obtain ⟨a, b, xs, ys, ds, rfl, rfl, ha, hb, r1, r2, hd, q⟩ := h
  obtain rfl : v = Value.ref a := rx
  obtain rfl : u = Value.ref b := ry
  obtain ⟨us, v1, p1, _⟩ := I.list ha
  obtain ⟨ws, v2, p2, _⟩ := I.list hb
  have l1 := v1.length
  have l2 := v2.length
  have l3 := r1.length
  have l4 := r2.length
  refine SeqAt.RcNeAt.lists (e := fun _ => true) p1.isList p2.isList (by simp; omega) (by omega) (lst_at I (A := X.A.in1) (by show X.A.units + 1 + 50 < cLine; omega) r1 r2 hd v1 v2) X.prog X.w _ _ ?_
  rw [all_true]
  exact ⟨.bl false, H, I, rfl, q⟩
end
mutual
def sameD : D → D → Bool
  | .none, .none => true
  | .bool a, .bool b => decide (a = b)
  | .int a, .int b => decide (a = b)
  | .str a, .str b => decide (a = b)
  | .list xs, .list ys => sameL xs ys
  | .tuple xs, .tuple ys => sameL xs ys
  | .dict xs, .dict ys => sameK xs ys
  | _, _ => false
def sameL : List D → List D → Bool
  | [], [] => true
  | x :: xs, y :: ys => sameD x y && sameL xs ys
  | _, _ => false
def sameK : List (D × D) → List (D × D) → Bool
  | [], [] => true
  | (a, b) :: xs, (c, d) :: ys => sameD a c && (sameD b d && sameK xs ys)
  | _, _ => false
end
mutual
theorem sameD_eq : ∀ x y : D, sameD x y = true → x = y
  | .none, y, h => by cases y <;> first | rfl | (simp [sameD] at h)
  | .bool a, y, h => by cases y <;> simp [sameD] at h; rw [h]
  | .int a, y, h => by cases y <;> simp [sameD] at h; rw [h]
  | .str a, y, h => by cases y <;> simp [sameD] at h; rw [h]
  | .list xs, y, h => by cases y <;> simp [sameD] at h; rw [sameL_eq _ _ h]
  | .tuple xs, y, h => by cases y <;> simp [sameD] at h; rw [sameL_eq _ _ h]
  | .dict xs, y, h => by cases y <;> simp [sameD] at h; rw [sameK_eq _ _ h]
theorem sameL_eq : ∀ x y : List D, sameL x y = true → x = y
  | [], y, h => by cases y <;> simp [sameL] at h; rfl
  | x :: xs, y, h => by
    cases y <;> simp [sameL] at h
    rw [sameD_eq _ _ h.1, sameL_eq _ _ h.2]
theorem sameK_eq : ∀ x y : List (D × D), sameK x y = true → x = y
  | [], y, h => by cases y <;> simp [sameK] at h; rfl
  | (a, b) :: xs, y, h => by
    cases y with
    | nil => simp [sameK] at h
    | cons q ys =>
      obtain ⟨c, d⟩ := q
      simp [sameK] at h
      rw [sameD_eq _ _ h.1, sameD_eq _ _ h.2.1, sameK_eq _ _ h.2.2]
end
mutual
theorem sameD_refl : ∀ x : D, sameD x x = true
  | .none => by simp [sameD]
  | .bool a => by simp [sameD]
  | .int a => by simp [sameD]
  | .str a => by simp [sameD]
  | .list xs => by simp [sameD]; exact sameL_refl xs
  | .tuple xs => by simp [sameD]; exact sameL_refl xs
  | .dict xs => by simp [sameD]; exact sameK_refl xs
theorem sameL_refl : ∀ x : List D, sameL x x = true
  | [] => by simp [sameL]
  | x :: xs => by simp [sameL]; exact ⟨sameD_refl x, sameL_refl xs⟩
theorem sameK_refl : ∀ x : List (D × D), sameK x x = true
  | [] => by simp [sameK]
  | (a, b) :: xs => by simp [sameK]; exact ⟨sameD_refl a, sameD_refl b, sameK_refl xs⟩
end
def eqLd (f : Bool) (x y : D) : Res D := match x, y with
  | .list ds, .list es => if sameL ds es = true ∧ ds.all dctOk = true then .ok (.bool f) else .stk
  | _, _ => .stk
theorem eqLd_ne {f : Bool} : ∀ x y z, eqLd f x y ≠ .err z := fun x y z h => by
  unfold eqLd at h
  split at h
  · split at h <;> cases h
  · cases h
theorem eqLd_b {f : Bool} : ∀ x y d, eqLd f x y = .ok d → ∃ b, d = .bool b := fun x y d h => by
  unfold eqLd at h
  split at h
  · split at h <;> cases h; exact ⟨_, rfl⟩
  · cases h
theorem op2_eqLd {K : PySem.W.Frag} {f : Bool} : Op2 K (rEqLd K f) (eqLd f) := fun F H x y dx dy s rx ry Q k => by
  unfold eqLd at k
  split at k
  · rename_i ds es
    split at k
    · rename_i h
      obtain ⟨h1, h2⟩ := h
      have h1 := sameL_eq _ _ h1
      subst h1
      obtain ⟨a, xs, rfl, ha, r1⟩ := rx.list s
      obtain ⟨b, ys, rfl, hb, r2⟩ := ry.list s
      exact ⟨a, b, xs, ys, ds, rfl, rfl, ha, hb, r1.mono s, r2.mono s, fun d hd => List.all_eq_true.mp h2 d hd, k _ F H (Ext.refl s) (.bl _)⟩
    · exact k.elim
  · exact k.elim
section
variable {X : Cx} {κ : Nat → Kd} {E : EX} {a b : Expr} {pos : Pos} {ma mb : Env → Res D}
theorem de_eqLd {k : Nat} (hr : Room k X.A) (ha : DB X κ E a ma) (hb : DB X κ E b mb) : DE X κ E (.Compare a [.Eq] [b] pos) (mBin (eqLd true) ma mb) := de_cmp (op_eqLd hr.units) op2_eqLd eqLd_ne ha hb (nomark _)
theorem de_neLd {k : Nat} (hr : Room k X.A) (ha : DB X κ E a ma) (hb : DB X κ E b mb) : DE X κ E (.Compare a [.NotEq] [b] pos) (mBin (eqLd false) ma mb) := de_cmp (op_neLd hr.units) op2_eqLd eqLd_ne ha hb (nomark _)
theorem dt_eqLd {k : Nat} (hr : Room k X.A) (ha : DB X κ E a ma) (hb : DB X κ E b mb) : DT X κ E (.Compare a [.Eq] [b] pos) (mTru (mBin (eqLd true) ma mb)) := dt_cmp (op_eqLd hr.units) op2_eqLd eqLd_ne eqLd_b ha hb (nomark _)
theorem dt_neLd {k : Nat} (hr : Room k X.A) (ha : DB X κ E a ma) (hb : DB X κ E b mb) : DT X κ E (.Compare a [.NotEq] [b] pos) (mTru (mBin (eqLd false) ma mb)) := dt_cmp (op_neLd hr.units) op2_eqLd eqLd_ne eqLd_b ha hb (nomark _)
end
theorem sg_asgO {i : Nat} {m : WD.Env → Res D} : Straight (mAsgO i m) := fun ρ => sg_out fun _ => by split; exact sg_stk; exact sg_nx
end WD

namespace WD
open PySem PySem.Spec PyProof.Rows L2

/-! ### texts as lists of codes -/
abbrev S (l : List Nat) : D := .str ⟨l.toArray⟩
theorem S_inj {a b : List Nat} : (⟨a.toArray⟩ : Str) = ⟨b.toArray⟩ ↔ a = b := by
  constructor
  · intro h
    have : a.toArray = b.toArray := by injection h
    simpa using this
  · rintro rfl; rfl
theorem str_eta (x : Str) : x = ⟨x.cps.toList.toArray⟩ := by cases x; rfl
theorem len_mk (l : List Nat) : (⟨l.toArray⟩ : Str).length = l.length := by simp [Str.length]
theorem mk_append (a b : List Nat) : (⟨a.toArray⟩ : Str) ++ ⟨b.toArray⟩ = ⟨(a ++ b).toArray⟩ := TL.ext_tl (by rw [TL.tl_append])
theorem de_strS {X : Cx} {κ : Nat → Kd} {E : EX} {pos : Pos} {x : Str} {j : Nat} (l : List Nat) (h : x = ⟨l.toArray⟩ := by decide +kernel) (ho : OkS ⟨l.toArray⟩ := by decide +kernel) : DE X κ E (.Constant (.str x) j pos) (mC (S l)) := by
  subst h
  exact de_str ho

theorem rel_strS {x : Str} {t : Tok} (l : List Nat) (h : x = ⟨l.toArray⟩) : RelV (V.str ⟨l.toArray⟩) (Value.str x t) := ⟨t, by rw [h]⟩

/-! ### how the mirrors compute -/
@[simp] theorem bind_okR {α β : Type} (a : α) (f : α → Res β) : (Res.ok a).bind f = f a := rfl
@[simp] theorem bind_errR {α β : Type} (x : Exn) (f : α → Res β) : (Res.err x : Res α).bind f = .err x := rfl
@[simp] theorem bind_stkR {α β : Type} (f : α → Res β) : (Res.stk : Res α).bind f = .stk := rfl
@[simp] theorem out_okR {α : Type} (a : α) (f : α → Out) : (Res.ok a).out f = f a := rfl
@[simp] theorem out_errR {α : Type} (x : Exn) (f : α → Out) : (Res.err x : Res α).out f = .err x := rfl
@[simp] theorem out_stkR {α : Type} (f : α → Out) : (Res.stk : Res α).out f = .stk := rfl
@[simp] theorem noErr_okR {α : Type} (a : α) : noErr (Res.ok a) = .ok a := rfl
@[simp] theorem ofO_some {α : Type} (a : α) : ofO (some a) = .ok a := rfl
@[simp] theorem ofO_none {α : Type} : ofO (none : Option α) = .stk := rfl
@[simp] theorem mVar_at (i : Nat) (ρ : WD.Env) : mVar i ρ = ofO (ρ[i]?).join := rfl
@[simp] theorem mC_at (d : D) (ρ : WD.Env) : mC d ρ = .ok d := rfl
@[simp] theorem mBin_at (f : D → D → Res D) (a b : WD.Env → Res D) (ρ : WD.Env) : mBin f a b ρ = (a ρ).bind fun x => (b ρ).bind fun y => f x y := rfl
@[simp] theorem mUn_at (f : D → Res D) (a : WD.Env → Res D) (ρ : WD.Env) : mUn f a ρ = (a ρ).bind f := rfl
@[simp] theorem mTru_at (a : WD.Env → Res D) (ρ : WD.Env) : mTru a ρ = (a ρ).bind truD := rfl
@[simp] theorem mAnd_at (t u : WD.Env → Res Bool) (ρ : WD.Env) : mAnd t u ρ = (t ρ).bind fun b => if b = true then u ρ else .ok false := rfl
@[simp] theorem mOr_at (t u : WD.Env → Res Bool) (ρ : WD.Env) : mOr t u ρ = (t ρ).bind fun b => if b = true then .ok true else u ρ := rfl
@[simp] theorem mNot_at (t : WD.Env → Res Bool) (ρ : WD.Env) : mNot t ρ = (t ρ).bind fun b => .ok (!b) := rfl
@[simp] theorem mAndV_at (t u : WD.Env → Res D) (ρ : WD.Env) : mAndV t u ρ = (t ρ).bind fun d => (boolD d).bind fun b => if b = true then u ρ else .ok (.bool false) := rfl
@[simp] theorem mOrV_at (t u : WD.Env → Res D) (ρ : WD.Env) : mOrV t u ρ = (t ρ).bind fun d => (boolD d).bind fun b => if b = true then .ok (.bool true) else u ρ := rfl
@[simp] theorem mNotV_at (t : WD.Env → Res D) (ρ : WD.Env) : mNotV t ρ = (t ρ).bind fun d => (boolD d).bind fun b => .ok (.bool (!b)) := rfl
@[simp] theorem boolD_bool (b : Bool) : boolD (.bool b) = .ok b := rfl
@[simp] theorem mIf_at (t : WD.Env → Res Bool) (a b : WD.Env → Res D) (ρ : WD.Env) : mIf t a b ρ = (t ρ).bind fun c => if c = true then a ρ else b ρ := rfl
@[simp] theorem mNil_at (ρ : WD.Env) : mNil ρ = .ok [] := rfl
@[simp] theorem mCons_at (a : WD.Env → Res D) (b : WD.Env → Res (List D)) (ρ : WD.Env) : mCons a b ρ = (a ρ).bind fun d => (b ρ).bind fun ds => .ok (d :: ds) := rfl
@[simp] theorem mList_at (a : WD.Env → Res (List D)) (ρ : WD.Env) : mList a ρ = (a ρ).bind fun ds => .ok (.list ds) := rfl
@[simp] theorem mSeq1_at (a : WD.Env → Res D) (ρ : WD.Env) : mSeq1 a ρ = (a ρ).bind seqD := rfl
@[simp] theorem mIt_at (a : WD.Env → Res D) (ρ : WD.Env) : mIt a ρ = (a ρ).bind itD := rfl
@[simp] theorem mBindA_at (f : List D → Res (List D)) (a : WD.Env → Res (List D)) (ρ : WD.Env) : mBindA f a ρ = (a ρ).bind f := rfl
@[simp] theorem mCall_at (m : List D → Res D) (a : WD.Env → Res (List D)) (ρ : WD.Env) : mCall m a ρ = (a ρ).bind m := rfl
@[simp] theorem mMt_at (f : Str → List D → Res D) (o : WD.Env → Res D) (a : WD.Env → Res (List D)) (ρ : WD.Env) : mMt f o a ρ = (o ρ).bind fun d => match d with
  | .str x => (a ρ).bind (f x)
  | _ => .stk := rfl
@[simp] theorem mNone_at (ρ : WD.Env) : mNone ρ = .ok none := rfl
@[simp] theorem mSome_at (a : WD.Env → Res D) (ρ : WD.Env) : mSome a ρ = (a ρ).bind fun d => match d with
  | .int i => .ok (some i)
  | _ => .stk := rfl
@[simp] theorem mCut_at (a : WD.Env → Res D) (l h : WD.Env → Res (Option Int)) (ρ : WD.Env) : mCut a l h ρ = (a ρ).bind fun d => (l ρ).bind fun lo => (h ρ).bind fun hi => cutD d lo hi := rfl
@[simp] theorem mYes_at (ρ : WD.Env) : mYes ρ = .ok true := rfl
@[simp] theorem mChain_at (p q : Int → Int → Bool) (a b c : WD.Env → Res D) (ρ : WD.Env) : mChain p q a b c ρ = (a ρ).bind fun x => (b ρ).bind fun y => (cmpD p x y).bind fun d => (boolD d).bind fun k => if k = true then (c ρ).bind fun z => cmpD q y z else .ok (.bool false) := rfl
@[simp] theorem mNext_at (ρ : WD.Env) : mNext ρ = .nx ρ := rfl
@[simp] theorem mAsg_at (i : Nat) (m : WD.Env → Res D) (ρ : WD.Env) : mAsg i m ρ = (m ρ).out fun d => .nx (ρ.set i (some d)) := rfl
@[simp] theorem mAsgN_at (i : Nat) (m : WD.Env → Res (List D)) (ρ : WD.Env) : mAsgN i m ρ = (m ρ).out fun ds => .nx (ρ.set i (some (.list ds))) := rfl
@[simp] theorem mAsgG_at (g : D → WD.Env → Option WD.Env) (m : WD.Env → Res D) (ρ : WD.Env) : mAsgG g m ρ = (m ρ).out fun d => (ofO (g d ρ)).out .nx := rfl
@[simp] theorem mRet_at (m : WD.Env → Res D) (ρ : WD.Env) : mRet m ρ = (m ρ).out .rt := rfl
@[simp] theorem mExpr_at (m : WD.Env → Res D) (ρ : WD.Env) : mExpr m ρ = (m ρ).out fun _ => .nx ρ := rfl
@[simp] theorem mIfS_at (t : WD.Env → Res Bool) (m n : WD.Env → Out) (ρ : WD.Env) : mIfS t m n ρ = (t ρ).out fun b => if b = true then m ρ else n ρ := rfl
def Out.then (o : Out) (n : WD.Env → Out) : Out :=
  match o with
  | .nx ρ' => n ρ'
  | o => o
@[simp] theorem mSeq_at (m n : WD.Env → Out) (ρ : WD.Env) : mSeq m n ρ = (m ρ).then n := by
  unfold mSeq Out.then
  rfl
@[simp] theorem then_nx (ρ : WD.Env) (n : WD.Env → Out) : (Out.nx ρ).then n = n ρ := rfl
@[simp] theorem then_rt (d : D) (n : WD.Env → Out) : (Out.rt d).then n = .rt d := rfl
@[simp] theorem then_ct (ρ : WD.Env) (n : WD.Env → Out) : (Out.ct ρ).then n = .ct ρ := rfl
@[simp] theorem then_bk (ρ : WD.Env) (n : WD.Env → Out) : (Out.bk ρ).then n = .bk ρ := rfl
@[simp] theorem then_err (x : Exn) (n : WD.Env → Out) : (Out.err x).then n = .err x := rfl
@[simp] theorem then_stk (n : WD.Env → Out) : (Out.stk).then n = .stk := rfl
@[simp] theorem fnOut_rt (d : D) : fnOut (.rt d) = .ok d := rfl
@[simp] theorem fnOut_nx (ρ : WD.Env) : fnOut (.nx ρ) = .ok .none := rfl
@[simp] theorem fnOut_err (x : Exn) : fnOut (.err x) = .err x := rfl
@[simp] theorem fnOut_stk : fnOut .stk = .stk := rfl
@[simp] theorem gSet_at (i : Nat) (d : D) (ρ : WD.Env) : gSet i d ρ = some (ρ.set i (some d)) := rfl
@[simp] theorem mFor_at (it : WD.Env → Res (List D)) (g : D → WD.Env → Option WD.Env) (b : WD.Env → Out) (ρ : WD.Env) : mFor it g b ρ = (it ρ).out fun ds => forL g b ds ρ := rfl
@[simp] theorem getL_at (i : Nat) (ρ : WD.Env) : getL i ρ = match (ρ[i]?).join with
  | some (.list ds) => .ok ds
  | _ => .stk := rfl
@[simp] theorem mApp_at (i : Nat) (m : WD.Env → Res D) (ρ : WD.Env) : mApp i m ρ = (getL i ρ).out fun ds => (m ρ).out fun d => if ds.length < sizeLine then .nx (ρ.set i (some (.list (ds ++ [d])))) else .stk := rfl
@[simp] theorem mExt_at (i : Nat) (m : WD.Env → Res D) (ρ : WD.Env) : mExt i m ρ = (getL i ρ).out fun ds => (m ρ).out fun d => (seqD d).out fun es => if ds.length + es.length ≤ sizeLine then .nx (ρ.set i (some (.list (ds ++ es)))) else .stk := rfl
@[simp] theorem mTup_at (m : WD.Env → Res (List D)) (ρ : WD.Env) : mTup m ρ = (m ρ).bind fun ds => if ds.length ≤ sizeLine then .ok (.tuple ds) else .stk := rfl
@[simp] theorem mLst_at (m : WD.Env → Res (List D)) (ρ : WD.Env) : mLst m ρ = (m ρ).bind fun ds => if ds.length ≤ sizeLine then .ok ds else .stk := rfl
@[simp] theorem mLc_at (it : WD.Env → Res (List D)) (g : D → WD.Env → Option WD.Env) (t : WD.Env → Res Bool) (m : WD.Env → Res D) (vs : List Nat) (ρ : WD.Env) :
  mLc it g t m vs ρ = (it ρ).bind fun ds => if ds.length ≤ sizeLine then noErr (compL g t m (forget vs ρ) ds) else .stk := rfl
@[simp] theorem forget_nil (ρ : WD.Env) : forget [] ρ = ρ := rfl
@[simp] theorem forget_cons (i : Nat) (is : List Nat) (ρ : WD.Env) : forget (i :: is) ρ = forget is (ρ.set i none) := rfl
@[simp] theorem mRep_at (m : WD.Env → Res (List D)) (b : WD.Env → Res D) (ρ : WD.Env) : mRep m b ρ = (m ρ).bind fun ds => (b ρ).bind fun d => match d with
  | .int k => if -(2 ^ 63) ≤ k ∧ k < 2 ^ 63 ∧ ds.length * k.toNat ≤ sizeLine then .ok (List.replicate k.toNat ds).flatten else .stk
  | _ => .stk := rfl

@[simp] theorem mCat_at (a b : WD.Env → Res D) (ρ : WD.Env) : mCat a b ρ = (a ρ).bind fun x => (b ρ).bind fun y => catD x y := rfl
@[simp] theorem catD_list (xs ys : List D) : catD (.list xs) (.list ys) = if xs.length + ys.length ≤ sizeLine then .ok (xs ++ ys) else .stk := rfl
theorem mForget_at (is : List Nat) (m : WD.Env → Out) (ρ : WD.Env) : mForget is m ρ = match m ρ with
  | .nx ρ' => .nx (forget is ρ')
  | .bk ρ' => .bk (forget is ρ')
  | .ct ρ' => .ct (forget is ρ')
  | .rt d => .rt d
  | .err x => .err x
  | .stk => .stk := rfl
/-! ### operations -/
@[simp] theorem addD_int (i j : Int) : addD (.int i) (.int j) = .ok (.int (i + j)) := rfl
@[simp] theorem subD_int (i j : Int) : subD (.int i) (.int j) = .ok (.int (i - j)) := rfl
@[simp] theorem negD_int (i : Int) : negD (.int i) = .ok (.int (-i)) := rfl
@[simp] theorem cmpD_int (p : Int → Int → Bool) (i j : Int) : cmpD p (.int i) (.int j) = .ok (.bool (p i j)) := rfl
@[simp] theorem truD_bool (b : Bool) : truD (.bool b) = .ok b := rfl
@[simp] theorem truD_none : truD .none = .ok false := rfl
@[simp] theorem truD_int (i : Int) : truD (.int i) = .ok (i != 0) := rfl
@[simp] theorem truD_list (xs : List D) : truD (.list xs) = .ok (!xs.isEmpty) := rfl
@[simp] theorem truD_tuple (xs : List D) : truD (.tuple xs) = .ok (!xs.isEmpty) := rfl
@[simp] theorem intD_int (i : Int) : WD.intD (.int i) = .ok (.int i) := rfl
@[simp] theorem lenD_list (xs : List D) : lenD (.list xs) = .ok (.int xs.length) := rfl
@[simp] theorem lenD_tuple (xs : List D) : lenD (.tuple xs) = .ok (.int xs.length) := rfl
@[simp] theorem tupleD_list (xs : List D) : tupleD (.list xs) = .ok (.tuple xs) := rfl
@[simp] theorem tupleD_tuple (xs : List D) : tupleD (.tuple xs) = .ok (.tuple xs) := rfl
@[simp] theorem seqD_list (xs : List D) : seqD (.list xs) = .ok xs := rfl
@[simp] theorem seqD_tuple (xs : List D) : seqD (.tuple xs) = .ok xs := rfl
@[simp] theorem itD_list (xs : List D) : itD (.list xs) = .ok xs := rfl
@[simp] theorem itD_tuple (xs : List D) : itD (.tuple xs) = .ok xs := rfl
theorem modD_int {i j : Int} (h : 0 < j) : modD (.int i) (.int j) = .ok (.int (i % j)) := by simp only [modD, if_pos h]
theorem fdivD_int {i j : Int} (h : CDiv i j) : fdivD (.int i) (.int j) = .ok (.int (i / j)) := by simp only [fdivD, if_pos h]
theorem mulD_int {i j : Int} (h : CMul i j) : mulD (.int i) (.int j) = .ok (.int (i * j)) := by simp only [mulD, if_pos h]
theorem powD_int {i j : Int} (h : CPow i j) : powD (.int i) (.int j) = .ok (.int (i ^ j.toNat)) := by simp only [powD, if_pos h]
theorem sl_eq : (sizeLine : Nat) = 16777216 := sizeLine_eq
theorem itD_S (l : List Nat) : itD (S l) = .ok (l.map fun c => S [c]) := by
  simp [itD, signsD]
theorem lenD_S {l : List Nat} (h : l.length ≤ 16777216) : lenD (S l) = .ok (.int l.length) := by
  simp [lenD, len_mk, sl_eq, h]
theorem truD_S {l : List Nat} (h : l.length ≤ 16777216) : truD (S l) = .ok (l.length != 0) := by
  simp [truD, len_mk, sl_eq, h]
  cases l <;> simp
  omega
theorem addD_S {a b : List Nat} (h : a.length + b.length ≤ 16777216) : addD (S a) (S b) = .ok (S (a ++ b)) := by
  simp only [addD, len_mk, sl_eq, if_pos h, mk_append]
theorem addD_list {a b : List D} (h : a.length + b.length ≤ 16777216) : addD (.list a) (.list b) = .ok (.list (a ++ b)) := by
  simp only [addD, sl_eq, if_pos h]
theorem addD_tuple {a b : List D} (h : a.length + b.length ≤ 16777216) : addD (.tuple a) (.tuple b) = .ok (.tuple (a ++ b)) := by
  simp only [addD, sl_eq, if_pos h]
/-- at a place -/
theorem atI_some {α : Type} {xs : List α} {k : Nat} {x : α} (h : xs[k]? = some x) : atI xs (k : Int) = some x := atI_nat h
theorem atD_list {xs : List D} {k : Nat} {d : D} (h : xs[k]? = some d) : atD (.list xs) (.int k) = .ok d := by
  simp only [atD, atI_some h, ofO_some]
theorem atD_tuple {xs : List D} {k : Nat} {d : D} (h : xs[k]? = some d) : atD (.tuple xs) (.int k) = .ok d := by
  simp only [atD, atI_some h, ofO_some]
theorem atD_S {l : List Nat} {k : Nat} {c : Nat} (hl : l.length ≤ 16777216) (h : l[k]? = some c) : atD (S l) (.int k) = .ok (S [c]) := by
  have : atI l (k : Int) = some c := atI_some h
  simp only [atD, len_mk, sl_eq, if_pos hl]
  simp [this]
/-- slices -/
theorem cutD_S {l : List Nat} {lo hi : Option Int} (h : l.length ≤ 16777216) : cutD (S l) lo hi = .ok (S (cutL l lo hi)) := by
  simp only [cutD, len_mk, sl_eq, if_pos h]
  simp [cutS, cutL, Str.length]
@[simp] theorem cutD_list (l : List D) (lo hi : Option Int) : cutD (.list l) lo hi = .ok (.list (cutL l lo hi)) := rfl
@[simp] theorem cutD_tuple (l : List D) (lo hi : Option Int) : cutD (.tuple l) lo hi = .ok (.tuple (cutL l lo hi)) := rfl
theorem sIx_nat' (n d k : Nat) : HT.sIx n d (some (k : Int)) = min k n := HT.sIx_nat n d k
theorem cut_to {α : Type} (l : List α) (k : Nat) : cutL l none (some (k : Int)) = l.take k := by
  unfold cutL
  rw [sIx_nat', HT.sIx_none]
  rw [List.drop_zero, Nat.sub_zero]
  rw [List.take_eq_take_iff]
  omega
theorem cut_from {α : Type} (l : List α) (k : Nat) : cutL l (some (k : Int)) none = l.drop k := by
  unfold cutL
  rw [sIx_nat', HT.sIx_none]
  by_cases h : k ≤ l.length
  · rw [Nat.min_eq_left h]
    rw [List.take_of_length_le (by rw [List.length_drop]; omega)]
  · rw [Nat.min_eq_right (by omega), List.drop_length, List.drop_of_length_le (by omega)]
    simp
theorem sIx_neg1 (n d : Nat) : HT.sIx n d (some (-1)) = n - 1 := by
  unfold HT.sIx
  simp
  omega
theorem cut_last {α : Type} (l : List α) : cutL l (some (-1)) none = l.drop (l.length - 1) := by
  unfold cutL
  rw [sIx_neg1, HT.sIx_none]
  rw [List.take_of_length_le (by rw [List.length_drop]; omega)]
theorem cut_mid {α : Type} (l : List α) : cutL l (some 1) (some (-1)) = (l.drop 1).take (l.length - 2) := by
  unfold cutL
  rw [sIx_neg1, show (1 : Int) = ((1 : Nat) : Int) from rfl, sIx_nat']
  by_cases h : 1 ≤ l.length
  · rw [Nat.min_eq_left h]
    have : l.length - 1 - 1 = l.length - 2 := by omega
    rw [this]
  · have : l = [] := List.eq_nil_of_length_eq_zero (by omega)
    subst this
    simp
/-! == -/
theorem eqv_S (a b : List Nat) : PyData.eqv (S a) (S b) = (a == b) := by
  show ((⟨a.toArray⟩ : Str) == ⟨b.toArray⟩) = (a == b)
  by_cases h : a = b
  · subst h
    rw [beq_self_eq_true, beq_self_eq_true]
  · have : ¬ (⟨a.toArray⟩ : Str) = ⟨b.toArray⟩ := fun e => h (S_inj.mp e)
    rw [beq_eq_false_iff_ne.mpr this, beq_eq_false_iff_ne.mpr h]
theorem plain_S (n : Nat) (a : List Nat) : plainD n (S a) = true := by cases n <;> simp [plainD]
theorem plain_int (n : Nat) (a : Int) : plainD n (.int a) = true := by cases n <;> simp [plainD]
theorem plain_bool (n : Nat) (a : Bool) : plainD n (.bool a) = true := by cases n <;> simp [plainD]
theorem plain_none (n : Nat) : plainD n .none = true := by cases n <;> simp [plainD]
theorem plainL_iff {n : Nat} : ∀ {ds : List D}, plainL n ds = true ↔ ∀ d ∈ ds, plainD n d = true
  | [] => by simp [plainL]
  | d :: ds => by simp [plainL, plainL_iff (ds := ds)]
theorem plain_list {n : Nat} {ds : List D} (h : ∀ d ∈ ds, plainD n d = true) : plainD (n + 1) (.list ds) = true := by
  simp only [plainD]; exact plainL_iff.mpr h
theorem plain_tuple {n : Nat} {ds : List D} (h : ∀ d ∈ ds, plainD n d = true) : plainD (n + 1) (.tuple ds) = true := by
  simp only [plainD]; exact plainL_iff.mpr h
@[simp] theorem eqD_int (i j : Int) : eqD (.int i) (.int j) = .ok (.bool (i == j)) := by
  simp only [eqD, plain_int, and_self, if_true, PyData.eqv]
@[simp] theorem eqD_S (a b : List Nat) : eqD (S a) (S b) = .ok (.bool (a == b)) := by
  simp only [eqD, plain_S, and_self, if_true, eqv_S]
@[simp] theorem neD_int (i j : Int) : neD (.int i) (.int j) = .ok (.bool (!(i == j))) := by
  simp only [neD, plain_int, and_self, if_true, PyData.eqv]
@[simp] theorem neD_S (a b : List Nat) : neD (S a) (S b) = .ok (.bool (!(a == b))) := by
  simp only [neD, plain_S, and_self, if_true, eqv_S]
mutual
theorem eqv_self : ∀ (n : Nat) (d : D), plainD n d = true → PyData.eqv d d = true
  | n, .none, _ => by simp [PyData.eqv]
  | n, .bool b, _ => by simp [PyData.eqv]
  | n, .int i, _ => by simp [PyData.eqv]
  | n, .str x, _ => by simp [PyData.eqv]
  | 0, .list _, h => by simp [plainD] at h
  | 0, .tuple _, h => by simp [plainD] at h
  | n + 1, .list xs, h => by
    simp only [PyData.eqv]
    exact eqv_selfL n xs (by simpa [plainD] using h)
  | n + 1, .tuple xs, h => by
    simp only [PyData.eqv]
    exact eqv_selfL n xs (by simpa [plainD] using h)
  | n, .dict _, h => by cases n <;> simp [plainD] at h
theorem eqv_selfL : ∀ (n : Nat) (ds : List D), plainL n ds = true → PyData.eqvAll ds ds = true
  | n, [], _ => by simp [PyData.eqvAll]
  | n, d :: ds, h => by
    have h' : plainD n d = true ∧ plainL n ds = true := by simpa [plainL] using h
    simp [PyData.eqvAll, eqv_self n d h'.1, eqv_selfL n ds h'.2]
end
theorem eqD_self {d : D} (h : plainD deep d = true) : eqD d d = .ok (.bool true) := by
  simp only [eqD, h, and_self, if_true, eqv_self deep d h]
theorem neD_self {d : D} (h : plainD deep d = true) : neD d d = .ok (.bool false) := by
  simp only [neD, h, and_self, if_true, eqv_self deep d h, Bool.not_true]
theorem plain_mono : ∀ {n m : Nat} {d : D}, plainD n d = true → n ≤ m → plainD m d = true
  | n, m, .none, _, _ => plain_none m
  | n, m, .bool b, _, _ => plain_bool m b
  | n, m, .int b, _, _ => plain_int m b
  | n, m, .str b, _, _ => by cases m <;> simp [plainD]
  | 0, m, .list _, h, _ => by simp [plainD] at h
  | 0, m, .tuple _, h, _ => by simp [plainD] at h
  | n + 1, 0, .list xs, h, l => by omega
  | n + 1, 0, .tuple xs, h, l => by omega
  | n + 1, m + 1, .list xs, h, l => plain_list fun d hd => plain_mono (n := n) (plainL_iff.mp (by simpa [plainD] using h) d hd) (by omega)
  | n + 1, m + 1, .tuple xs, h, l => plain_tuple fun d hd => plain_mono (n := n) (plainL_iff.mp (by simpa [plainD] using h) d hd) (by omega)
  | n, m, .dict _, h, _ => by cases n <;> simp [plainD] at h
end WD

namespace WD
open PySem PySem.Spec PyProof.Rows L2

/-! ### texts: what the methods are on lists of codes -/
theorem inS_one (c : Nat) (l : List Nat) : inS ⟨[c].toArray⟩ ⟨l.toArray⟩ = decide (c ∈ l) := by
  have := PySem.StrLaws.found_one ⟨l.toArray⟩ c
  unfold inS
  simpa using this
@[simp] theorem inD_one (c : Nat) (l : List Nat) : inD (S [c]) (S l) = .ok (.bool (decide (c ∈ l))) := by
  simp only [inD, inS_one]
@[simp] theorem notInD_one (c : Nat) (l : List Nat) : notInD (S [c]) (S l) = .ok (.bool (!decide (c ∈ l))) := by
  simp only [notInD, inD_one, bind_okR]
theorem subAt_mk (a b : List Nat) (i : Nat) : Builtin.Str.subAt ⟨a.toArray⟩ ⟨b.toArray⟩ i = decide ((a.drop i).take b.length = b) := by
  unfold Builtin.Str.subAt
  rw [len_mk]
  have e : a.toArray.extract i (i + b.length) = ((a.drop i).take b.length).toArray := by
    apply Array.toList_inj.mp
    simp [List.extract_eq_drop_take, Array.toList_extract]
  show (a.toArray.extract i (i + b.length) == b.toArray) = _
  rw [e]
  by_cases h : (a.drop i).take b.length = b
  · rw [h]; simp
  · rw [decide_eq_false h]
    exact beq_eq_false_iff_ne.mpr fun q => h (by simpa using q)
def startsL (a b : List Nat) : Bool := decide (a.take b.length = b)
def endsL (a b : List Nat) : Bool := decide (b.length ≤ a.length ∧ a.drop (a.length - b.length) = b)
theorem starts_mk (a b : List Nat) : Txt.startswith ⟨a.toArray⟩ ⟨b.toArray⟩ = startsL a b := by
  unfold Txt.startswith startsL
  rw [len_mk, len_mk, subAt_mk, List.drop_zero]
  by_cases h : a.take b.length = b
  · have : b.length ≤ a.length := by
      have := congrArg List.length h
      rw [List.length_take] at this
      omega
    simp [h, this]
  · simp [h]
theorem ends_mk (a b : List Nat) : Txt.endswith ⟨a.toArray⟩ ⟨b.toArray⟩ = endsL a b := by
  unfold Txt.endswith endsL
  rw [len_mk, len_mk, subAt_mk]
  by_cases hl : b.length ≤ a.length
  · have : (a.drop (a.length - b.length)).take b.length = a.drop (a.length - b.length) := List.take_of_length_le (by rw [List.length_drop]; omega)
    rw [this]
    simp [hl]
  · have h0 : ¬ (0 + b.length ≤ a.length) := by omega
    simp [hl, h0]
theorem lstrip_mk (a b : List Nat) : Txt.lstripChars ⟨a.toArray⟩ ⟨b.toArray⟩ = ⟨(a.dropWhile fun c => b.contains c).toArray⟩ := by
  unfold Txt.lstripChars Txt.stripBy
  have hg : ∀ c, (⟨b.toArray⟩ : Str).cps.contains c = b.contains c := fun c => by simp
  have e : ∀ (l : List Nat), (l.takeWhile ((⟨b.toArray⟩ : Str).cps.contains)) = l.takeWhile fun c => b.contains c := fun l => by
    congr 1
    funext c
    exact hg c
  have lo : PySem.stripLo (⟨b.toArray⟩ : Str).cps.contains true ⟨a.toArray⟩ = (a.takeWhile fun c => b.contains c).length := by
    unfold PySem.stripLo
    rw [if_pos rfl]
    show ((a.toArray.toList).takeWhile _).length = _
    rw [e]
  have hi : ∀ k, PySem.stripHi (⟨b.toArray⟩ : Str).cps.contains false ⟨a.toArray⟩ k = a.length := fun k => by
    unfold PySem.stripHi
    rw [if_neg Bool.false_ne_true, len_mk]
  have hd : a.drop (a.takeWhile fun c => b.contains c).length = a.dropWhile fun c => b.contains c := by
    have h : ∀ l m : List Nat, l ++ m = a → a.drop l.length = m := fun l m e => by rw [← e, List.drop_left]
    exact h _ _ List.takeWhile_append_dropWhile
  have st : PySem.stripped (⟨b.toArray⟩ : Str).cps.contains true false ⟨a.toArray⟩ = ⟨(a.dropWhile fun c => b.contains c).toArray⟩ := by
    unfold PySem.stripped
    rw [lo, hi]
    apply TL.ext_tl
    rw [TL.tl_strSub]
    show (a.drop _).take _ = a.dropWhile _
    rw [hd, List.take_of_length_le]
    have := congrArg List.length hd
    rw [List.length_drop] at this
    omega
  split
  · rename_i h
    unfold PySem.stripSame at h
    rw [lo, hi] at h
    have h0 : (a.takeWhile fun c => b.contains c).length = 0 := by
      have := (Bool.and_eq_true_iff.mp h).1
      simpa using this
    rw [h0, List.drop_zero] at hd
    rw [← hd]
  · exact st
@[simp] theorem startsD_S (a b : List Nat) : s1D startsD ⟨a.toArray⟩ [S b] = .ok (.bool (startsL a b)) := by
  simp only [s1D, startsD, starts_mk]
@[simp] theorem endsD_S (a b : List Nat) : s1D endsD ⟨a.toArray⟩ [S b] = .ok (.bool (endsL a b)) := by
  simp only [s1D, endsD, ends_mk]
theorem lstripD_S {a b : List Nat} (h : a.length ≤ 16777216) : s1D lstripD ⟨a.toArray⟩ [S b] = .ok (S (a.dropWhile fun c => b.contains c)) := by
  simp only [s1D, lstripD, len_mk, sl_eq, if_pos h, lstrip_mk]
theorem strsOf_S : ∀ ls : List (List Nat), strsOf (ls.map S) = some (ls.map fun l => (⟨l.toArray⟩ : Str))
  | [] => rfl
  | l :: ls => by
    rw [List.map_cons]
    show (strsOf (ls.map S)).map _ = _
    rw [strsOf_S ls]
    rfl
theorem join_mk (a : List Nat) (ls : List (List Nat)) : Txt.join ⟨a.toArray⟩ (ls.map fun l => (⟨l.toArray⟩ : Str)) = ⟨(TL.joinL a ls).toArray⟩ := by
  apply TL.ext_tl
  rw [TL.join_eq, TL.tl_join]
  show TL.joinL a ((ls.map fun l => (⟨l.toArray⟩ : Str)).map TL.tl) = TL.joinL a ls
  rw [List.map_map]
  congr 1
  induction ls with
  | nil => rfl
  | cons l ls ih => rw [List.map_cons, ih]; rfl
theorem joinD_S {a : List Nat} {ls : List (List Nat)} (h : (ls.map List.length).sum + ls.length * a.length ≤ 16777216) : joinD ⟨a.toArray⟩ [.list (ls.map S)] = .ok (S (TL.joinL a ls)) := by
  simp only [joinD, seqD_list, bind_okR, strsOf_S, ofO_some]
  have e : ((ls.map fun l => (⟨l.toArray⟩ : Str)).map (·.length)) = ls.map List.length := by
    rw [List.map_map]
    congr 1
  rw [e, List.length_map, len_mk, if_pos h, join_mk]
theorem joinL_nil : ∀ ls : List (List Nat), TL.joinL [] ls = ls.flatten
  | [] => rfl
  | [p] => by simp [TL.joinL]
  | p :: q :: r => by
    have := joinL_nil (q :: r)
    simp [TL.joinL] at *
    rw [this]
theorem mulD_S {a : List Nat} {k : Int} (h0 : 0 ≤ k) (h : a.length * k.toNat ≤ 16777216) (hk : k < 2 ^ 63) : mulD (S a) (.int k) = .ok (S (List.replicate k.toNat a).flatten) := by
  have : -(2 ^ 63) ≤ k ∧ k < 2 ^ 63 ∧ (⟨a.toArray⟩ : Str).length * k.toNat ≤ 16777216 := ⟨by omega, hk, by rw [len_mk]; exact h⟩
  simp only [mulD, if_pos this]
  rfl

/-! ### loops -/
theorem forL_inv {g : D → WD.Env → Option WD.Env} {b : WD.Env → Out} (I : Nat → WD.Env → Prop) : ∀ (ds : List D) (ρ : WD.Env) (j : Nat), I j ρ →
    (∀ i d ρ, ds[i]? = some d → I (j + i) ρ → ∃ ρ1 ρ2, g d ρ = some ρ1 ∧ (b ρ1 = .nx ρ2 ∨ b ρ1 = .ct ρ2) ∧ I (j + i + 1) ρ2) → ∃ ρ', forL g b ds ρ = .nx ρ' ∧ I (j + ds.length) ρ'
  | [], ρ, j, h, _ => ⟨ρ, rfl, h⟩
  | d :: ds, ρ, j, h, step => by
    obtain ⟨ρ1, ρ2, e1, e2, i2⟩ := step 0 d ρ rfl h
    have ih := forL_inv I ds ρ2 (j + 1) (by simpa using i2) fun i d' ρ' hd hi => by
      have := step (i + 1) d' ρ' (by simpa using hd) (by rw [show j + (i + 1) = j + 1 + i by omega]; exact hi)
      rw [show j + (i + 1) + 1 = j + 1 + i + 1 by omega] at this
      exact this
    obtain ⟨ρ', e3, i3⟩ := ih
    refine ⟨ρ', ?_, by rw [List.length_cons, show j + (ds.length + 1) = j + 1 + ds.length by omega]; exact i3⟩
    unfold forL
    rw [e1]
    rcases e2 with e2 | e2 <;> simp only [e2] <;> exact e3
/-- a loop that may end by a return: I while it goes on, R of what is returned -/
theorem forL_ret {g : D → WD.Env → Option WD.Env} {b : WD.Env → Out} (I : Nat → WD.Env → Prop) (R : Nat → Out → Prop) : ∀ (ds : List D) (ρ : WD.Env) (j : Nat), I j ρ →
    (∀ i d ρ, ds[i]? = some d → I (j + i) ρ → ∃ ρ1, g d ρ = some ρ1 ∧ ((∃ ρ2, (b ρ1 = .nx ρ2 ∨ b ρ1 = .ct ρ2) ∧ I (j + i + 1) ρ2) ∨ ((∃ r, b ρ1 = .rt r) ∨ ∃ x, b ρ1 = .err x) ∧ R (j + i) (b ρ1))) →
      (∃ ρ', forL g b ds ρ = .nx ρ' ∧ I (j + ds.length) ρ') ∨ ∃ i, i < ds.length ∧ R (j + i) (forL g b ds ρ) ∧ ((∃ r, forL g b ds ρ = .rt r) ∨ ∃ x, forL g b ds ρ = .err x)
  | [], ρ, j, h, _ => .inl ⟨ρ, rfl, h⟩
  | d :: ds, ρ, j, h, step => by
    obtain ⟨ρ1, e1, h1⟩ := step 0 d ρ rfl h
    rcases h1 with ⟨ρ2, e2, i2⟩ | ⟨e2, r2⟩
    · have ih := forL_ret I R ds ρ2 (j + 1) (by simpa using i2) fun i d' ρ' hd hi => by
        have := step (i + 1) d' ρ' (by simpa using hd) (by rw [show j + (i + 1) = j + 1 + i by omega]; exact hi)
        rw [show j + (i + 1) = j + 1 + i by omega] at this
        exact this
      have e : forL g b (d :: ds) ρ = forL g b ds ρ2 := by
        conv => lhs; unfold forL
        rw [e1]
        rcases e2 with e2 | e2 <;> simp only [e2]
      rw [e]
      rcases ih with ⟨ρ', e3, i3⟩ | ⟨i, hi, r, z⟩
      · exact .inl ⟨ρ', e3, by rw [List.length_cons, show j + (ds.length + 1) = j + 1 + ds.length by omega]; exact i3⟩
      · exact .inr ⟨i + 1, by rw [List.length_cons]; omega, by rw [show j + (i + 1) = j + 1 + i by omega]; exact r, z⟩
    · refine .inr ⟨0, by simp, ?_⟩
      have e : forL g b (d :: ds) ρ = b ρ1 := by
        unfold forL
        rw [e1]
        rcases e2 with ⟨r, e2⟩ | ⟨x, e2⟩ <;> simp only [e2]
      rw [e]
      exact ⟨r2, e2⟩
/-! ### comprehensions -/
theorem compL_map {g : D → WD.Env → Option WD.Env} {t : WD.Env → Res Bool} {m : WD.Env → Res D} {ρ : WD.Env} (f : D → D) : ∀ ds : List D, (∀ d ∈ ds, ∃ ρ1, g d ρ = some ρ1 ∧ t ρ1 = .ok true ∧ m ρ1 = .ok (f d)) → compL g t m ρ ds = .ok (ds.map f)
  | [], _ => rfl
  | d :: ds, h => by
    obtain ⟨ρ1, e1, e2, e3⟩ := h d (by simp)
    have ih := compL_map f ds fun d' hd => h d' (by simp [hd])
    unfold compL
    simp only [e1, e2, e3, noErr_okR, bind_okR, if_true, ih, List.map_cons]
theorem compL_filter {g : D → WD.Env → Option WD.Env} {t : WD.Env → Res Bool} {m : WD.Env → Res D} {ρ : WD.Env} (p : D → Bool) (f : D → D) : ∀ ds : List D, (∀ d ∈ ds, ∃ ρ1, g d ρ = some ρ1 ∧ t ρ1 = .ok (p d) ∧ (p d = true → m ρ1 = .ok (f d))) → compL g t m ρ ds = .ok ((ds.filter p).map f)
  | [], _ => rfl
  | d :: ds, h => by
    obtain ⟨ρ1, e1, e2, e3⟩ := h d (by simp)
    have ih := compL_filter p f ds fun d' hd => h d' (by simp [hd])
    unfold compL
    cases hp : p d with
    | true => simp only [e1, e2, hp, e3 hp, noErr_okR, bind_okR, if_true, ih, List.filter_cons_of_pos hp, List.map_cons]
    | false =>
      have hn : ¬ p d = true := by rw [hp]; exact Bool.false_ne_true
      simp only [e1, e2, hp, noErr_okR, bind_okR, ih, List.filter_cons_of_neg hn]
      rfl
/-- over a range, by the number -/
theorem compL_range {g : D → WD.Env → Option WD.Env} {t : WD.Env → Res Bool} {m : WD.Env → Res D} {ρ : WD.Env} {lo : Int} {n : Nat} (f : Nat → D) (h : ∀ i, i < n → ∃ ρ1, g (.int (lo + (i : Nat))) ρ = some ρ1 ∧ t ρ1 = .ok true ∧ m ρ1 = .ok (f i)) : compL g t m ρ (rngD lo n) = .ok ((List.range n).map f) := by
  have main : ∀ (k : Nat) (is : List Nat), (∀ i ∈ is, i < n) → compL g t m ρ (is.map fun (i : Nat) => .int (lo + (i : Int))) = .ok (is.map f) := fun _ is => by
    induction is with
    | nil => intro _; rfl
    | cons i is ih =>
      intro hi
      obtain ⟨ρ1, e1, e2, e3⟩ := h i (hi i (by simp))
      have ih := ih fun j hj => hi j (by simp [hj])
      rw [List.map_cons, List.map_cons]
      unfold compL
      simp only [e1, e2, e3, noErr_okR, bind_okR, if_true, ih]
  exact main 0 (List.range n) fun i hi => List.mem_range.mp hi
theorem rngD_len (lo : Int) (n : Nat) : (rngD lo n).length = n := by simp [rngD]
theorem rngD_get {lo : Int} {n i : Nat} {d : D} (h : (rngD lo n)[i]? = some d) : i < n ∧ d = .int (lo + (i : Nat)) := by
  unfold rngD at h
  rw [List.getElem?_map] at h
  by_cases hi : i < n
  · rw [List.getElem?_range hi] at h
    exact ⟨hi, by simpa using h.symm⟩
  · rw [List.getElem?_eq_none (by simpa using hi)] at h
    cases h
theorem rng1D_int {j : Int} (h0 : 0 ≤ j) (h1 : j < 2 ^ 62) : rng1D [.int j] = .ok (rngD 0 j.toNat) := by
  simp only [rng1D, if_pos (show -(2 ^ 62) ≤ j ∧ j < 2 ^ 62 from ⟨by omega, h1⟩)]
theorem allD_bools (bs : List Bool) : allD (.list (bs.map PyData.bool)) = .ok (.bool (bs.all id)) := by
  have : ∀ bs : List Bool, blsOf (bs.map PyData.bool) = some bs := fun bs => by
    induction bs with
    | nil => rfl
    | cons b bs ih => rw [List.map_cons]; show (blsOf (bs.map PyData.bool)).map _ = _; rw [ih]; rfl
  simp only [allD, this, ofO_some, bind_okR]
theorem sumD_ints (bs : List Int) : sumD (.list (bs.map PyData.int)) = .ok (.int bs.sum) := by
  have : ∀ bs : List Int, intsOf (bs.map PyData.int) = some bs := fun bs => by
    induction bs with
    | nil => rfl
    | cons b bs ih => rw [List.map_cons]; show (intsOf (bs.map PyData.int)).map _ = _; rw [ih]; rfl
  simp only [sumD, this, ofO_some, bind_okR]
/-! the classes of values -/
theorem isi_self {d : D} : isiD (tyN d) d = .ok (.bool true) := by
  have h : kitB (tyN d) (tyN d) = some true := by cases d <;> (simp only [tyN]; decide +kernel)
  simp only [isiD, h, ofO_some, bind_okR]
@[simp] theorem isi_bool (b : Bool) : isiD "bool" (.bool b) = .ok (.bool true) := isi_self (d := .bool b)
@[simp] theorem isi_list (xs : List D) : isiD "list" (.list xs) = .ok (.bool true) := isi_self (d := .list xs)
@[simp] theorem isi_tuple (xs : List D) : isiD "tuple" (.tuple xs) = .ok (.bool true) := isi_self (d := .tuple xs)
@[simp] theorem isi_str (x : Str) : isiD "str" (.str x) = .ok (.bool true) := isi_self (d := .str x)
@[simp] theorem isi_int (i : Int) : isiD "int" (.int i) = .ok (.bool true) := isi_self (d := .int i)
@[simp] theorem isi_int_bool (i : Int) : isiD "bool" (.int i) = .ok (.bool false) := by
  have h : kitB "int" "bool" = some false := by decide +kernel
  simp only [isiD, tyN, h, ofO_some, bind_okR]
@[simp] theorem isi_str_tuple (x : Str) : isiD "tuple" (.str x) = .ok (.bool false) := by
  have h : kitB "str" "tuple" = some false := by decide +kernel
  simp only [isiD, tyN, h, ofO_some, bind_okR]
@[simp] theorem isi_int_tuple (x : Int) : isiD "tuple" (.int x) = .ok (.bool false) := by
  have h : kitB "int" "tuple" = some false := by decide +kernel
  simp only [isiD, tyN, h, ofO_some, bind_okR]
@[simp] theorem isi_int_str (x : Int) : isiD "str" (.int x) = .ok (.bool false) := by
  have h : kitB "int" "str" = some false := by decide +kernel
  simp only [isiD, tyN, h, ofO_some, bind_okR]
@[simp] theorem isi_none_tuple : isiD "tuple" .none = .ok (.bool false) := by
  have h : kitB "NoneType" "tuple" = some false := by decide +kernel
  simp only [isiD, tyN, h, ofO_some, bind_okR]
end WD
namespace WD
open PySem PySem.Spec PyProof.Rows L2
theorem compL_ex {g : D → WD.Env → Option WD.Env} {t : WD.Env → Res Bool} {m : WD.Env → Res D} {ρ : WD.Env} (P : D → Prop) : ∀ ds : List D, (∀ d ∈ ds, ∃ ρ1 y, g d ρ = some ρ1 ∧ t ρ1 = .ok true ∧ m ρ1 = .ok y ∧ P y) → ∃ ys, compL g t m ρ ds = .ok ys ∧ ys.length = ds.length ∧ ∀ y ∈ ys, P y
  | [], _ => ⟨[], rfl, rfl, by simp⟩
  | d :: ds, h => by
    obtain ⟨ρ1, y, e1, e2, e3, p⟩ := h d (by simp)
    obtain ⟨ys, ih, hl, hp⟩ := compL_ex P ds fun d' hd => h d' (by simp [hd])
    refine ⟨y :: ys, ?_, by simp [hl], fun z hz => ?_⟩
    · unfold compL
      simp only [e1, e2, e3, noErr_okR, bind_okR, if_true, ih]
    · rcases List.mem_cons.mp hz with rfl | hz
      · exact p
      · exact hp z hz
theorem choose_map {α β : Type} {P : α → Prop} (f : α → β) : ∀ ys : List β, (∀ y ∈ ys, ∃ a, y = f a ∧ P a) → ∃ as : List α, ys = as.map f ∧ ∀ a ∈ as, P a
  | [], _ => ⟨[], rfl, by simp⟩
  | y :: ys, h => by
    obtain ⟨a, rfl, ha⟩ := h y (by simp)
    obtain ⟨as, rfl, hp⟩ := choose_map f ys fun z hz => h z (by simp [hz])
    refine ⟨a :: as, rfl, fun b hb => ?_⟩
    rcases List.mem_cons.mp hb with rfl | hb
    · exact ha
    · exact hp b hb
theorem rngD_mem {lo : Int} {n : Nat} {d : D} (h : d ∈ rngD lo n) : ∃ i : Nat, i < n ∧ d = .int (lo + (i : Nat)) := by
  obtain ⟨i, hi, rfl⟩ := List.mem_map.mp h
  exact ⟨i, List.mem_range.mp hi, rfl⟩
theorem ints_at {ds : List Int} {k : Nat} {d : Int} (h : ds[k]? = some d) : atD (.list (ds.map PyData.int)) (.int k) = .ok (.int d) := atD_list (by rw [List.getElem?_map, h]; rfl)
theorem get_some {α : Type} {l : List α} {k : Nat} (h : k < l.length) : ∃ x, l[k]? = some x ∧ x ∈ l := ⟨l[k], List.getElem?_eq_getElem h, List.getElem_mem h⟩
theorem flat_ones : ∀ cs : List Nat, (cs.map fun c => [c]).flatten = cs
  | [] => rfl
  | c :: cs => by simp [flat_ones cs]
end WD

namespace WD
open PySem PySem.Spec PyProof.Rows L2
@[simp] theorem mWhile_at (fu : WD.Env → Nat) (c : WD.Env → Res Bool) (b : WD.Env → Out) (ρ : WD.Env) : mWhile fu c b ρ = whileL c b (fu ρ) ρ := rfl
@[simp] theorem mAug_at (f : D → D → Res D) (i : Nat) (m : WD.Env → Res D) (ρ : WD.Env) : mAug f i m ρ = (ofO (ρ[i]?).join).out fun x => (m ρ).out fun y => (f x y).out fun z => .nx (ρ.set i (some z)) := rfl
@[simp] theorem incD_int (i j : Int) : incD (.int i) (.int j) = .ok (.int (i + j)) := rfl
@[simp] theorem decD_int (i j : Int) : decD (.int i) (.int j) = .ok (.int (i - j)) := rfl
@[simp] theorem mRgL2_at (a b : WD.Env → Res D) (ρ : WD.Env) : mRgL2 a b ρ = (a ρ).bind fun x => (b ρ).bind fun y => match x, y with
  | .int i, .int j => rngL i j
  | _, _ => .stk := rfl
@[simp] theorem mSeqX_at (a : WD.Env → Res D) (ρ : WD.Env) : mSeqX a ρ = (a ρ).bind seqX := rfl
@[simp] theorem seqX_dict (ds : List (D × D)) : seqX (.dict ds) = .ok (ds.map (·.1)) := rfl
@[simp] theorem mGet2_at (a k x : WD.Env → Res D) (ρ : WD.Env) : mGet2 a k x ρ = (a ρ).bind fun d => match d with
  | .dict ds => (k ρ).bind fun y => (x ρ).bind fun z => (ofO (keyOf y)).bind fun k => .ok ((valD ds k).getD z)
  | _ => .stk := rfl
@[simp] theorem mGet1_at (a k : WD.Env → Res D) (ρ : WD.Env) : mGet1 a k ρ = (a ρ).bind fun d => match d with
  | .dict ds => (k ρ).bind fun y => (ofO (keyOf y)).bind fun k => .ok ((valD ds k).getD .none)
  | _ => .stk := rfl
@[simp] theorem keyOf_S (l : List Nat) : keyOf (S l) = some (.inr ⟨l.toArray⟩) := rfl
@[simp] theorem keyOf_int (i : Int) : keyOf (.int i) = some (.inl i) := rfl
@[simp] theorem getDct_at (i : Nat) (ρ : WD.Env) : getDct i ρ = match (ρ[i]?).join with
  | some (.dict ds) => .ok ds
  | _ => .stk := rfl
@[simp] theorem mDSet_at (i : Nat) (k : WD.Env → Res D) (fin : Key → WD.Env → Out) (ρ : WD.Env) : mDSet i k fin ρ = (getDct i ρ).out fun ds => (k ρ).out fun dk => (ofO (keyOf dk)).out fun k => if ds.length < sizeLine then (match valD ds k with
  | none => fin k (ρ.set i (some (.dict (putD ds k (.list [])))))
  | some _ => fin k ρ) else .stk := rfl
@[simp] theorem mDL_at (i : Nat) (k : WD.Env → Res D) (fin : Key → WD.Env → Out) (ρ : WD.Env) : mDL i k fin ρ = (getDct i ρ).out fun _ => (k ρ).out fun dk => (ofO (keyOf dk)).out fun k => fin k ρ := rfl
@[simp] theorem finExt_at (i : Nat) (m : WD.Env → Res D) (k : Key) (ρ : WD.Env) : finExt i m k ρ = (getDct i ρ).out fun ds => (lstAt ds k).out fun xs => (m ρ).out fun d => (seqD d).out fun es => if xs.length + es.length ≤ sizeLine then .nx (ρ.set i (some (.dict (putD ds k (.list (xs ++ es)))))) else .stk := rfl
@[simp] theorem finApp_at (i : Nat) (m : WD.Env → Res D) (k : Key) (ρ : WD.Env) : finApp i m k ρ = (getDct i ρ).out fun ds => (lstAt ds k).out fun xs => (m ρ).out fun d => if xs.length < sizeLine then .nx (ρ.set i (some (.dict (putD ds k (.list (xs ++ [d])))))) else .stk := rfl
@[simp] theorem mDPut_at (i : Nat) (k v : WD.Env → Res D) (ρ : WD.Env) : mDPut i k v ρ = (v ρ).out fun v => (getDct i ρ).out fun ds => (k ρ).out fun k => (ofO (keyOf k)).out fun k => if ds.length < sizeLine then .nx (ρ.set i (some (.dict (putD ds k v)))) else .stk := rfl
@[simp] theorem mDPutN_at (i : Nat) (k : WD.Env → Res D) (v : WD.Env → Res (List D)) (ρ : WD.Env) : mDPutN i k v ρ = (v ρ).out fun v => (getDct i ρ).out fun ds => (k ρ).out fun k => (ofO (keyOf k)).out fun k => if ds.length < sizeLine ∧ valD ds k = none then .nx (ρ.set i (some (.dict (putD ds k (.list v))))) else .stk := rfl
@[simp] theorem mInS_at (w : Bool) (i : Nat) (k : WD.Env → Res D) (ρ : WD.Env) : mInS w i k ρ = (k ρ).bind fun y => (getDct i ρ).bind fun ds => (ofO (keyOf y)).bind fun k => .ok (.bool (w == (valD ds k).isSome)) := rfl
@[simp] theorem inX_dict (x : D) (ds : List (D × D)) : inX x (.dict ds) = (ofO (keyOf x)).bind fun k => .ok (.bool (valD ds k).isSome) := rfl
@[simp] theorem notInX_dict (x : D) (ds : List (D × D)) : notInX x (.dict ds) = ((ofO (keyOf x)).bind fun k => .ok (PyData.bool (valD ds k).isSome)).bind fun d => match d with
  | PyData.bool b => .ok (PyData.bool (!b))
  | _ => .stk := rfl
@[simp] theorem atX_dict (x : D) (ds : List (D × D)) : atX (.dict ds) x = (ofO (keyOf x)).bind fun k => ofO (valD ds k) := rfl
@[simp] theorem mRaise_at (x : Str) (fs : List Str) (m : WD.Env → Res (List D)) (ρ : WD.Env) : mRaise x fs m ρ = (m ρ).out fun ds => if ds.length = fs.length then .err ⟨x, (fs.zip ds).reverse⟩ else .stk := rfl
theorem mTry_at (tb : Tbl) (m : WD.Env → Res D) (fin : D → WD.Env → Out) (hs : List Sut) (ρ : WD.Env) : mTry tb m fin hs ρ = match m ρ with
  | .ok d => fin d ρ
  | .err x => hndl tb hs x ρ
  | .stk => .stk := rfl
/-! a dict, by functions of data -/
theorem valD_map {α : Type} (kf : α → D) (df : α → D) (k : Key) : ∀ L : List α, valD (L.map fun x => (kf x, df x)) k = (L.find? fun x => decide (keyOf (kf x) = some k)).map df
  | [] => rfl
  | x :: L => by
    have ih := valD_map kf df k L
    unfold valD at ih ⊢
    rw [List.map_cons, List.find?_cons, List.find?_cons]
    cases h : decide (keyOf (kf x) = some k) with
    | true => simp [h]
    | false => simp only [h]; exact ih
/-! one step of a for loop after the other, by what the loop carries -/
theorem forL_acc {α β : Type} {g : D → WD.Env → Option WD.Env} {b : WD.Env → Out} (dat : α → D) (st : β → WD.Env → Prop) (step : β → α → β) (P : α → Prop) (hs : ∀ x s ρ, P x → st s ρ → ∃ ρ1 ρ2, g (dat x) ρ = some ρ1 ∧ (b ρ1 = .nx ρ2 ∨ b ρ1 = .ct ρ2) ∧ st (step s x) ρ2) :
    ∀ (xs : List α) (s : β) (ρ : WD.Env), (∀ x ∈ xs, P x) → st s ρ → ∃ ρ', forL g b (xs.map dat) ρ = .nx ρ' ∧ st (xs.foldl step s) ρ'
  | [], s, ρ, _, h => ⟨ρ, rfl, h⟩
  | x :: xs, s, ρ, hp, h => by
    obtain ⟨ρ1, ρ2, e1, e2, h2⟩ := hs x s ρ (hp x (by simp)) h
    obtain ⟨ρ', e3, h3⟩ := forL_acc dat st step P hs xs (step s x) ρ2 (fun y hy => hp y (by simp [hy])) h2
    refine ⟨ρ', ?_, h3⟩
    rw [List.map_cons]
    unfold forL
    rw [e1]
    rcases e2 with e2 | e2 <;> simp only [e2] <;> exact e3
theorem compL_mapA {α : Type} {g : D → WD.Env → Option WD.Env} {t : WD.Env → Res Bool} {m : WD.Env → Res D} {ρ : WD.Env} (dat : α → D) (p : α → Bool) (f : α → D) : ∀ xs : List α, (∀ x ∈ xs, ∃ ρ1, g (dat x) ρ = some ρ1 ∧ t ρ1 = .ok (p x) ∧ (p x = true → m ρ1 = .ok (f x))) → compL g t m ρ (xs.map dat) = .ok ((xs.filter p).map f)
  | [], _ => rfl
  | x :: xs, h => by
    obtain ⟨ρ1, e1, e2, e3⟩ := h x (by simp)
    have ih := compL_mapA dat p f xs fun y hy => h y (by simp [hy])
    rw [List.map_cons]
    unfold compL
    cases hp : p x with
    | true => simp only [e1, e2, hp, e3 hp, noErr_okR, bind_okR, if_true, ih, List.filter_cons_of_pos hp, List.map_cons]
    | false =>
      have hn : ¬ p x = true := by rw [hp]; exact Bool.false_ne_true
      simp only [e1, e2, hp, noErr_okR, bind_okR, ih, List.filter_cons_of_neg hn]
      rfl
theorem rng1_is (n : Nat) (h : n ≤ 1000) : rng1D [.int (n : Int)] = .ok ((List.range n).map fun i => .int (i : Nat)) := by
  rw [rng1D_int (by omega) (by omega)]
  simp [rngD]
def nth (ds : List D) (i : Nat) : D := ds.getD i .none
theorem enumD_rng (ds : List D) : enumD ds = (List.range ds.length).map fun i => .tuple [.int (i : Nat), nth ds i] := by
  unfold enumD nth
  apply List.ext_getElem?
  intro i
  rw [List.getElem?_map, List.getElem?_map, List.getElem?_zipIdx]
  by_cases h : i < ds.length
  · rw [List.getElem?_range h, List.getElem?_eq_getElem h]
    simp [List.getD_eq_getElem?_getD, List.getElem?_eq_getElem h]
  · rw [List.getElem?_eq_none (by omega), List.getElem?_eq_none (by simpa using h)]
    rfl
theorem enumX_tup (ds : List D) : enumXD [.tuple ds] = .ok ((List.range ds.length).map fun i => .tuple [.int (i : Nat), nth ds i]) := by
  simp only [enumXD, enumD_rng]
theorem enumX_lst (ds : List D) : enumXD [.list ds] = .ok ((List.range ds.length).map fun i => .tuple [.int (i : Nat), nth ds i]) := by
  simp only [enumXD, enumD_rng]
theorem nth_some {ds : List D} {i : Nat} {d : D} (h : ds[i]? = some d) : nth ds i = d := by unfold nth; rw [List.getD_eq_getElem?_getD, h]; rfl
/-! dicts from names to lists of numbers -/
abbrev NL := List (List Nat × List Nat)
def nsD (xs : List Nat) : D := .list (xs.map fun i => .int (i : Nat))
def dc (s : NL) : List (D × D) := s.map fun p => (S p.1, nsD p.2)
def lk (s : NL) (n : List Nat) : Option (List Nat) := (s.find? fun p => p.1 == n).map (·.2)
def pt (s : NL) (n xs : List Nat) : NL := if (s.any fun p => p.1 == n) = true then s.map fun p => if p.1 = n then (p.1, xs) else p else s ++ [(n, xs)]
theorem key_dec (a n : List Nat) : decide (keyOf (S a) = some (.inr ⟨n.toArray⟩)) = (a == n) := by
  rw [keyOf_S]
  by_cases h : a = n
  · subst h; simp
  · have : ¬ ((⟨a.toArray⟩ : Str) = ⟨n.toArray⟩) := fun z => h (S_inj.mp z)
    rw [beq_eq_false_iff_ne.mpr h]
    simp [this]
theorem valD_dc (s : NL) (n : List Nat) : valD (dc s) (.inr ⟨n.toArray⟩) = (lk s n).map nsD := by
  unfold dc lk
  rw [valD_map (fun p : List Nat × List Nat => S p.1) (fun p => nsD p.2)]
  have e : (fun p : List Nat × List Nat => decide (keyOf (S p.1) = some (.inr ⟨n.toArray⟩))) = fun p => p.1 == n := by funext p; exact key_dec p.1 n
  rw [e, Option.map_map]
  rfl
theorem putD_dc (s : NL) (n xs : List Nat) : putD (dc s) (.inr ⟨n.toArray⟩) (nsD xs) = dc (pt s n xs) := by
  unfold putD pt
  have ea : ((dc s).any fun p => decide (keyOf p.1 = some (.inr ⟨n.toArray⟩))) = s.any fun p => p.1 == n := by
    unfold dc
    rw [List.any_map]
    congr 1
    funext p
    exact key_dec p.1 n
  rw [ea]
  split
  · unfold dc
    rw [List.map_map, List.map_map]
    apply List.map_congr_left
    intro p _
    have := key_dec p.1 n
    by_cases h : p.1 = n
    · have h2 : keyOf (S p.1) = some (.inr ⟨n.toArray⟩) := by rw [h]; rfl
      simp [h]
    · have h2 : ¬ keyOf (S p.1) = some (.inr ⟨n.toArray⟩) := fun z => by
        rw [decide_eq_true z] at this
        exact h (by simpa using this.symm)
      simp only [Function.comp, if_neg h2, if_neg h]
  · unfold dc
    rw [List.map_append]
    rfl
def grow (s : NL) (n r : List Nat) : NL := match lk s n with
  | some xs => pt s n (xs ++ r)
  | none => pt (pt s n []) n ([] ++ r)
theorem lk_none {s : NL} {n : List Nat} : lk s n = none ↔ (s.any fun p => p.1 == n) = false := by
  unfold lk
  rw [Option.map_eq_none_iff, List.find?_eq_none, List.any_eq_false]
theorem pt_new {s : NL} {n xs : List Nat} (h : lk s n = none) : pt s n xs = s ++ [(n, xs)] := by
  unfold pt
  rw [lk_none.mp h]
  rfl
theorem lk_pt (s : NL) (n m xs : List Nat) : lk (pt s n xs) m = if m = n then some xs else lk s m := by
  unfold pt
  split
  · rename_i h
    induction s with
    | nil => simp at h
    | cons p s ih =>
      unfold lk at ih ⊢
      rw [List.map_cons, List.find?_cons, List.find?_cons]
      by_cases e : p.1 = n
      · rw [if_pos e]
        by_cases e2 : m = n
        · subst e2; simp [e]
        · have n1 : (p.1 == m) = false := beq_eq_false_iff_ne.mpr fun z => e2 (by rw [← z, e])
          simp only [n1, if_neg e2]
          have hm : ∀ s : NL, ((s.map fun p => if p.1 = n then (p.1, xs) else p).find? fun p => p.1 == m) = s.find? fun p => p.1 == m := fun s => by
            induction s with
            | nil => rfl
            | cons q s ih =>
              rw [List.map_cons, List.find?_cons, List.find?_cons, ih]
              by_cases eq : q.1 = n
              · have : (q.1 == m) = false := beq_eq_false_iff_ne.mpr fun z => e2 (by rw [← z, eq])
                simp [eq, this]
                have e3 : (n == m) = false := beq_eq_false_iff_ne.mpr fun z => e2 z.symm
                simp [e3]
              · simp [eq]
          rw [hm]
      · rw [if_neg e]
        by_cases e3 : p.1 = m
        · have : ¬ m = n := fun z => e (e3.trans z)
          simp [e3, this]
        · have n1 : (p.1 == m) = false := beq_eq_false_iff_ne.mpr e3
          simp only [n1]
          have h' : (s.any fun p => p.1 == n) = true := by
            rw [List.any_cons] at h
            have : (p.1 == n) = false := beq_eq_false_iff_ne.mpr e
            simpa [this] using h
          exact ih h'
  · rename_i h
    have h : lk s n = none := lk_none.mpr (by cases q : (s.any fun p => p.1 == n) with | true => exact absurd q h | false => rfl)
    unfold lk at h ⊢
    rw [List.find?_append]
    by_cases e : m = n
    · subst e
      rw [Option.map_eq_none_iff] at h
      simp [h]
    · have n1 : (n == m) = false := beq_eq_false_iff_ne.mpr fun z => e z.symm
      simp [e, n1]
theorem lk_grow (s : NL) (n m r : List Nat) : lk (grow s n r) m = if m = n then some ((lk s n).getD [] ++ r) else lk s m := by
  unfold grow
  cases h : lk s n with
  | some xs => simp only [lk_pt, Option.getD_some]
  | none =>
    simp only [lk_pt, Option.getD_none]
    split <;> rfl
theorem keys_pt (s : NL) (n xs : List Nat) : (pt s n xs).map (·.1) = if (s.map (·.1)).contains n = true then s.map (·.1) else s.map (·.1) ++ [n] := by
  have e : (s.map (·.1)).contains n = s.any fun p => p.1 == n := by
    induction s with
    | nil => rfl
    | cons p s ih => rw [List.map_cons, List.contains_cons, List.any_cons, ih, Bool.beq_comm]
  unfold pt
  rw [e]
  split
  · rw [List.map_map]
    apply List.map_congr_left
    intro p _
    simp only [Function.comp]
    split <;> rfl
  · rw [List.map_append]; rfl
theorem keys_grow (s : NL) (n r : List Nat) : (grow s n r).map (·.1) = if (s.map (·.1)).contains n = true then s.map (·.1) else s.map (·.1) ++ [n] := by
  unfold grow
  cases h : lk s n with
  | some xs => simp only [keys_pt]
  | none =>
    simp only
    rw [keys_pt, keys_pt]
    by_cases c : (s.map (·.1)).contains n = true
    · rw [if_pos c, if_pos c]
    · have c' : (s.map (·.1)).contains n = false := by simpa using c
      simp only [c', Bool.false_eq_true, if_false]
      rw [if_pos]
      simp
/-- found.setdefault(n, []).extend(r) over such a dict -/
theorem dset_ext {i : Nat} {mk mv : WD.Env → Res D} {ρ : WD.Env} {s : NL} {n r : List Nat} (hi : ρ[i]? = some (some (.dict (dc s)))) (hk : mk ρ = .ok (S n)) (hv : ∀ ρ', (∀ j, j ≠ i → ρ'[j]? = ρ[j]?) → mv ρ' = .ok (nsD r)) (hs : s.length < 1000) (hr : ∀ xs, lk s n = some xs → xs.length + r.length ≤ 100000) (hr2 : r.length ≤ 100000) :
    mDSet i mk (finExt i mv) ρ = .nx (ρ.set i (some (.dict (dc (grow s n r))))) := by
  have hl : i < ρ.length := by
    rcases Nat.lt_or_ge i ρ.length with h | h
    · exact h
    · rw [List.getElem?_eq_none h] at hi; cases hi
  have s1 : (dc s).length < sizeLine := by unfold dc; rw [List.length_map, sl_eq]; omega
  have hj : (ρ[i]?).join = some (.dict (dc s)) := by rw [hi]; rfl
  rw [mDSet_at, getDct_at, hj]
  simp only [out_okR, hk, keyOf_S, ofO_some, if_pos s1, valD_dc]
  cases h : lk s n with
  | some xs =>
    have s2 : (xs.map fun i : Nat => PyData.int i).length + (r.map fun i : Nat => PyData.int i).length ≤ sizeLine := by
      have := hr xs h
      rw [List.length_map, List.length_map, sl_eq]; omega
    simp only [Option.map_some]
    rw [finExt_at, getDct_at, hj]
    simp only [out_okR, lstAt, valD_dc, h, Option.map_some, nsD, hv ρ (fun _ _ => rfl), seqD_list, if_pos s2]
    have e : PyData.list ((xs.map fun i : Nat => PyData.int i) ++ r.map fun i : Nat => PyData.int i) = nsD (xs ++ r) := by unfold nsD; rw [List.map_append]
    rw [e, putD_dc]
    unfold grow
    rw [h]
  | none =>
    simp only [Option.map_none]
    have e0 : (PyData.list []) = nsD [] := rfl
    rw [e0, putD_dc, finExt_at, getDct_at]
    have hj2 : ((ρ.set i (some (.dict (dc (pt s n [])))))[i]?).join = some (.dict (dc (pt s n []))) := by rw [List.getElem?_set_self hl]; rfl
    rw [hj2]
    have hv2 := hv (ρ.set i (some (.dict (dc (pt s n []))))) fun j hj => by rw [List.getElem?_set_ne (Ne.symm hj)]
    have s2 : (([] : List Nat).map fun i : Nat => PyData.int i).length + (r.map fun i : Nat => PyData.int i).length ≤ sizeLine := by
      rw [List.length_map, List.length_map, sl_eq, List.length_nil]; omega
    have hlk : lk (pt s n []) n = some [] := by rw [lk_pt, if_pos rfl]
    simp only [out_okR, lstAt, valD_dc, hlk, Option.map_some, nsD, hv2, seqD_list, if_pos s2]
    have e : PyData.list ((([] : List Nat).map fun i : Nat => PyData.int i) ++ r.map fun i : Nat => PyData.int i) = nsD ([] ++ r) := by unfold nsD; rw [List.map_append]
    rw [e, putD_dc, List.set_set]
    unfold grow
    rw [h]
end WD

namespace WK
open PySem PySem.Spec PyProof.Rows L2 WD
def topS (i : Nat) : Stmt := PySem.Challenge.pw_weft_k41_merge.main.body.getD i (.Pass ⟨0, 0, 0, 0⟩)
structure Txt (K : PySem.W.Frag) (mg : Mg) : Prop where
  b_dict : mg "dict" = none
  b_int : mg "int" = none
  b_isinstance : mg "isinstance" = none
  b_len : mg "len" = none
  b_range : mg "range" = none
  b_sorted : mg "sorted" = none
def tb_x : Tbl := tblOf [((("Both" : Str), ("Both" : Str)), true)]
def tb_i : Tbl := tblOf [((("Both" : Str), ("WeftError" : Str)), true), ((("Both" : Str), ("ValueError" : Str)), true)]
def c_cs : List Str := ["Both"]
def c_fs : List Str := ["line"]
structure TxC (P : Program) (w : World) (K : PySem.W.Frag) (mg : Mg) (base : Heap) : Prop where
  x_Both : XCls P w K mg base "Both" ["line"]
  h_Both : ∃ cv, mg "Both" = some cv
  tb : TblOk K mg tb_x
  is : IsOk K mg tb_i
  xf : XfOk K mg c_cs c_fs
abbrev si_Both : Stmt := iniOf (topS 2)
theorem sci_Both : FnScope ["self", "line"] ["self", "line"] (defScope si_Both) := ⟨rfl, rfl, rfl, by decide +kernel, rfl, by decide +kernel, by decide +kernel⟩
theorem ini_Both {P : Program} {w : World} {K : PySem.W.Frag} {mg : Mg} {base : Heap} {f : Addr} {fd : FuncData} (F : Fun K "__init__" "Both.__init__" si_Both f fd) : FnOk P w K mg base (L2N.CX P w) 1 f fd ["self", "line"] (spI K ["line"]) :=
  ini_ok F sci_Both (by simp) (by decide) fun cdv A outer s H E => (ini_cons ini_nil)
section
variable {P : Program} {w : World} {K : PySem.W.Frag} {mg : Mg} {base : Heap}
abbrev s__law_cell : Stmt := topS 6
theorem sc__law_cell : FnScope ["script", "k"] ["script", "k"] (defScope s__law_cell) := ⟨rfl, rfl, rfl, by decide +kernel, rfl, by decide +kernel, by decide +kernel⟩
def b__law_cell : WD.Env → Out := (mSeq (mIfS (mTru (mBin (cmpD ltI) (mVar 1) (mUn lenD (mVar 0)))) (mRet (mBin atD (mVar 0) (mVar 1))) mNext) (mRet (mC (.int 0))))
def m__law_cell : List D → Res D := mkFn 2 b__law_cell
theorem ok__law_cell {f : Addr} {fd : FuncData} (F : Fun K "_law_cell" "_law_cell" s__law_cell f fd) (T : Txt K mg) (TC : TxC P w K mg base) : FnOk P w K mg base (L2N.CX P w) 1 f fd ["script", "k"] (spM mg K 2 m__law_cell) :=
  fn_ok (κ := kdT []) (κe := _) F sc__law_cell rfl (by decide) fun cdv A outer s H E hr => (ds2_of (ds_cons (ds_if (dt_lt (db_of (dv 1)) (db_of (de_len rfl T.b_len (db_of (dv 0))))) (ds_one (ds_ret (de_at (db_of (dv 0)) (db_of (dv 1))))) ds_nil) (ds_one (ds_ret de_int))))
abbrev s__law_draws : Stmt := topS 7
theorem sc__law_draws : FnScope ["cell", "count", "found", "is_wide", "k", "mixed"] ["cell", "count"] (defScope s__law_draws) := ⟨rfl, rfl, rfl, by decide +kernel, rfl, by decide +kernel, by decide +kernel⟩
def lb__law_draws_0 : WD.Env → Out := (mIfS (mTru (mVar 3)) (mSeq (mApp 2 (mBin modD (mUn intD (mVar 0)) (mC (.int 1009)))) (mAsg 0 (mBin fdivD (mVar 0) (mC (.int 1009))))) (mSeq (mAsg 5 (mBin modD (mUn intD (mBin addD (mBin mulD (mVar 0) (mC (.int 48271))) (mBin mulD (mVar 4) (mC (.int 69621))))) (mC (.int 2147483647)))) (mApp 2 (mBin modD (mUn intD (mBin addD (mBin addD (mBin mulD (mVar 5) (mVar 5)) (mBin mulD (mVar 0) (mC (.int 31)))) (mVar 4))) (mC (.int 1000003))))))
def b__law_draws : WD.Env → Out := (mSeq (mAsgN 2 (mLst mNil)) (mSeq (mAsg 3 (mBin (cmpD geI) (mVar 0) (mBin powD (mC (.int 10)) (mC (.int 18))))) (mSeq (mFor (mBindA rng1D (mCons (mVar 1) mNil)) (gSet 4) lb__law_draws_0) (mRet (mVar 2)))))
def m__law_draws : List D → Res D := mkFn 6 b__law_draws
theorem ok__law_draws {f : Addr} {fd : FuncData} (F : Fun K "_law_draws" "_law_draws" s__law_draws f fd) (T : Txt K mg) (TC : TxC P w K mg base) : FnOk P w K mg base (L2N.CX P w) 1 f fd ["cell", "count"] (spM mg K 2 m__law_draws) :=
  fn_ok (κ := kdT [(2, .ow)]) (κe := _) F sc__law_draws rfl (by decide) fun cdv A outer s H E hr => (ds2_cons (ds_setN (i := 2) rfl sc__law_draws.nd rfl (by first | exact Or.inl rfl | exact Or.inr rfl) (dn_lst da_nil)) (ds2_cons (ds_set (i := 3) rfl sc__law_draws.nd rfl (by first | exact Or.inl rfl | exact Or.inr rfl) (de_ge (db_of (dv 0)) (db_of (de_pow (db_of de_int) (db_of de_int))))) (ds2_cons (ds_for pown rfl (di_range1 rfl T.b_range (da_cons (dv 1) da_nil)) (gn 4 sc__law_draws.nd) (show DSs _ _ _ _ lb__law_draws_0 from (ds_one (ds_if (dt_truth (db_of (dv 3)) (by intro _; rfl)) (ds_cons (ds_append (i := 2) rfl rfl (Or.inl rfl) (de_mod (db_of (de_int1 rfl T.b_int (db_of (dv 0)))) (db_of de_int)) (pe_bm PySem.F.plainAttrs_list PySem.F.slot_list_append PySem.F.type_list_append mt_append (pe_var rfl (Or.inl rfl)) (pa_cons (de_mod (db_of (de_int1 rfl T.b_int (db_of (dv 0)))) (db_of de_int)) pa_nil))) (ds_one (ds_set (i := 0) rfl sc__law_draws.nd rfl (by first | exact Or.inl rfl | exact Or.inr rfl) (de_fdiv (db_of (dv 0)) (db_of de_int))))) (ds_cons (ds_set (i := 5) rfl sc__law_draws.nd rfl (by first | exact Or.inl rfl | exact Or.inr rfl) (de_mod (db_of (de_int1 rfl T.b_int (db_of (de_add (db_of (de_mul (db_of (dv 0)) (db_of de_int))) (db_of (de_mul (db_of (dv 4)) (db_of de_int))))))) (db_of de_int))) (ds_one (ds_append (i := 2) rfl rfl (Or.inl rfl) (de_mod (db_of (de_int1 rfl T.b_int (db_of (de_add (db_of (de_add (db_of (de_mul (db_of (dv 5)) (db_of (dv 5)))) (db_of (de_mul (db_of (dv 0)) (db_of de_int))))) (db_of (dv 4)))))) (db_of de_int)) (pe_bm PySem.F.plainAttrs_list PySem.F.slot_list_append PySem.F.type_list_append mt_append (pe_var rfl (Or.inl rfl)) (pa_cons (de_mod (db_of (de_int1 rfl T.b_int (db_of (de_add (db_of (de_add (db_of (de_mul (db_of (dv 5)) (db_of (dv 5)))) (db_of (de_mul (db_of (dv 0)) (db_of de_int))))) (db_of (dv 4)))))) (db_of de_int)) pa_nil))))))))) (ds2_freeze 2 (ds2_of (ds_one (ds_ret (dv 2)))) rfl) sg_for) sg_asg) sg_asgN)
abbrev s__law_fates : Stmt := topS 8
theorem sc__law_fates : FnScope ["script", "start", "fates", "k", "draws", "text", "change", "behind"] ["script", "start"] (defScope s__law_fates) := ⟨rfl, rfl, rfl, by decide +kernel, rfl, by decide +kernel, by decide +kernel⟩
def lb__law_fates_0 : WD.Env → Out := (mSeq (mAsg 4 (mCall m__law_draws (mCons (mCall m__law_cell (mCons (mVar 0) (mCons (mBin addD (mVar 1) (mVar 3)) mNil))) (mCons (mC (.int 4)) mNil)))) (mSeq (mAsg 5 (mBin atD (mList (mLst (mCons (mC (S [120])) (mCons (mC (S [])) (mCons (mC (S [121, 32, 122])) mNil))))) (mBin modD (mUn intD (mBin atD (mVar 4) (mC (.int 2)))) (mC (.int 3))))) (mSeq (mAsg 6 (mBin atD (mList (mLst (mCons (mTup (mCons (mC (S [107, 101, 101, 112])) mNil)) (mCons (mTup (mCons (mC (S [100, 114, 111, 112])) mNil)) (mCons (mTup (mCons (mC (S [116, 101, 120, 116])) (mCons (mVar 5) mNil))) mNil))))) (mBin modD (mUn intD (mBin atD (mVar 4) (mC (.int 1)))) (mC (.int 3))))) (mSeq (mAsg 7 (mBin atD (mList (mLst (mCons (mTup mNil) (mCons (mTup (mCons (mVar 5) mNil)) (mCons (mTup (mCons (mC (S [97])) (mCons (mVar 5) mNil))) mNil))))) (mBin modD (mUn intD (mBin atD (mVar 4) (mC (.int 3)))) (mC (.int 3))))) (mIfS (mAnd (mTru (mBin eqD (mBin modD (mUn intD (mBin atD (mVar 4) (mC (.int 0)))) (mC (.int 3))) (mC (.int 0)))) (mOr (mTru (mBin neD (mVar 6) (mTup (mCons (mC (S [107, 101, 101, 112])) mNil)))) (mTru (mBin (cmpD gtI) (mUn lenD (mVar 7)) (mC (.int 0)))))) (mDPut 2 (mBin mulD (mVar 3) (mC (.int 3))) (mTup (mCons (mTup mNil) (mCons (mVar 6) (mCons (mVar 7) mNil))))) mNext)))))
def b__law_fates : WD.Env → Out := (mSeq (fun ρ => .nx (ρ.set 2 (some (.dict [])))) (mSeq (mFor (mBindA rng1D (mCons (mC (.int 12)) mNil)) (gSet 3) lb__law_fates_0) (mRet (mVar 2))))
def m__law_fates : List D → Res D := mkFn 8 b__law_fates
theorem ok__law_fates {f : Addr} {fd : FuncData} (F : Fun K "_law_fates" "_law_fates" s__law_fates f fd) (T : Txt K mg) (TC : TxC P w K mg base) (G__law_draws : Fn P w K mg base 1 "_law_draws" ["cell", "count"] m__law_draws) (G__law_cell : Fn P w K mg base 1 "_law_cell" ["script", "k"] m__law_cell) : FnOk P w K mg base (L2N.CX P w) 2 f fd ["script", "start"] (spX mg K 2 m__law_fates) :=
  fn_okX (κ := kdT [(2, .ow)]) (κe := _) F sc__law_fates rfl (by decide) fun cdv A outer s H E hr => (ds2_of (ds_cons (ds_setD0 (i := 2) rfl sc__law_fates.nd rfl (by first | exact Or.inl rfl | exact Or.inr rfl)) (ds_cons (ds_for pown rfl (di_range1 rfl T.b_range (da_cons de_int da_nil)) (gn 3 sc__law_fates.nd) (show DSs _ _ _ _ lb__law_fates_0 from (ds_cons (ds_set (i := 4) rfl sc__law_fates.nd rfl (by first | exact Or.inl rfl | exact Or.inr rfl) (de_call G__law_draws (hr.mono (by decide)) pcx rfl (da_cons (de_call G__law_cell (hr.mono (by decide)) pcx rfl (da_cons (dv 0) (da_cons (de_add (db_of (dv 1)) (db_of (dv 3))) da_nil)) rfl (mCons_len (mCons_len mNil_len))) (da_cons de_int da_nil)) rfl (mCons_len (mCons_len mNil_len)))) (ds_cons (ds_set (i := 5) rfl sc__law_fates.nd rfl (by first | exact Or.inl rfl | exact Or.inr rfl) (de_at (db_of (de_new (dn_lst (da_cons (de_strS [120]) (da_cons (de_strS []) (da_cons (de_strS [121, 32, 122]) da_nil)))))) (db_of (de_mod (db_of (de_int1 rfl T.b_int (db_of (de_at (db_of (dv 4)) (db_of de_int))))) (db_of de_int))))) (ds_cons (ds_set (i := 6) rfl sc__law_fates.nd rfl (by first | exact Or.inl rfl | exact Or.inr rfl) (de_at (db_of (de_new (dn_lst (da_cons (de_tup (da_cons (de_strS [107, 101, 101, 112]) da_nil)) (da_cons (de_tup (da_cons (de_strS [100, 114, 111, 112]) da_nil)) (da_cons (de_tup (da_cons (de_strS [116, 101, 120, 116]) (da_cons (dv 5) da_nil))) da_nil)))))) (db_of (de_mod (db_of (de_int1 rfl T.b_int (db_of (de_at (db_of (dv 4)) (db_of de_int))))) (db_of de_int))))) (ds_cons (ds_set (i := 7) rfl sc__law_fates.nd rfl (by first | exact Or.inl rfl | exact Or.inr rfl) (de_at (db_of (de_new (dn_lst (da_cons (de_tup da_nil) (da_cons (de_tup (da_cons (dv 5) da_nil)) (da_cons (de_tup (da_cons (de_strS [97]) (da_cons (dv 5) da_nil))) da_nil)))))) (db_of (de_mod (db_of (de_int1 rfl T.b_int (db_of (de_at (db_of (dv 4)) (db_of de_int))))) (db_of de_int))))) (ds_one (ds_if (PW.pt (dw_and (dt_eq hr (db_of (de_mod (db_of (de_int1 rfl T.b_int (db_of (de_at (db_of (dv 4)) (db_of de_int))))) (db_of de_int))) (db_of de_int)) (dw_and1 (PW.pt (dw_or (dt_ne hr (db_of (dv 6)) (db_of (de_tup (da_cons (de_strS [107, 101, 101, 112]) da_nil)))) (dw_or1 (dt_gt (db_of (de_len rfl T.b_len (db_of (dv 7)))) (db_of de_int)))))))) (ds_one (ds_dput (i := 2) hr rfl rfl (by first | exact Or.inl rfl | exact Or.inr (Or.inl rfl) | exact Or.inr (Or.inr rfl)) (de_mul (db_of (dv 3)) (db_of de_int)) (de_tup (da_cons (de_tup da_nil) (da_cons (dv 6) (da_cons (dv 7) da_nil)))))) ds_nil)))))))) (ds_one (ds_retOwn (i := 2) rfl rfl (by first | exact Or.inl rfl | exact Or.inr (Or.inl rfl) | exact Or.inr (Or.inr rfl)))))))
abbrev s_merge : Stmt := topS 4
theorem sc_merge : FnScope ["one", "other", "line", "merged"] ["one", "other"] (defScope s_merge) := ⟨rfl, rfl, rfl, by decide +kernel, rfl, by decide +kernel, by decide +kernel⟩
def lb_merge_0 : WD.Env → Out := (mIfS (mAnd (mTru (mBin inX (mVar 2) (mVar 1))) (mTru (mBin neD (mBin atX (mVar 0) (mVar 2)) (mBin atX (mVar 1) (mVar 2))))) (mRaise "Both" ["line"] (mCons (mVar 2) mNil)) mNext)
def b_merge : WD.Env → Out := (mSeq (mFor (mIt (mList (mSortD (mVar 0)))) (gSet 2) lb_merge_0) (mSeq (mAsgD 3 (mStar2 (mVar 0) (mVar 1))) (mRet (mDict (mDc (mIt (mList (mSortD (mVar 3)))) (gSet 2) mYes (mVar 2) (mBin atX (mVar 3) (mVar 2)) [2])))))
def m_merge : List D → Res D := mkFn 4 b_merge
theorem ok_merge {f : Addr} {fd : FuncData} (F : Fun K "merge" "merge" s_merge f fd) (T : Txt K mg) (TC : TxC P w K mg base) : FnOk P w K mg base (L2N.CX P w) 3 f fd ["one", "other"] (spX mg K 2 m_merge) :=
  fn_okX (κ := kdT [(3, .ow)]) (κe := _) F sc_merge rfl (by decide) fun cdv A outer s H E hr => (ds2_cons (ds_for pown rfl (di_seq (de_new (dn_sortD rfl rfl T.b_sorted (db_of (dv 0))))) (gn 2 sc_merge.nd) (show DSs _ _ _ _ lb_merge_0 from (ds_one (ds_if (PW.pt (dw_and (dt_inX hr (db_of (dv 2)) (db_of (dv 1))) (dw_and1 (dt_ne hr (db_of (de_atX hr (db_of (dv 0)) (db_of (dv 2)))) (db_of (de_atX hr (db_of (dv 1)) (db_of (dv 2)))))))) (ds_one (ds_raise TC.x_Both rfl tkx hr (by omega) rfl (da_cons (dv 2) da_nil) (by decide))) ds_nil)))) (ds2_cons (ds_setND (i := 3) rfl sc_merge.nd rfl (by first | exact Or.inl rfl | exact Or.inr rfl) (dnd_star2 (dv 0) (dv 1))) (ds2_freeze 3 (ds2_of (ds_one (ds_retX (dx_nd (dnd_dc (own := [("line", 2)]) rfl sc_merge.nd (dip_seq (db_of (de_new (dn_sortD rfl rfl T.b_sorted (db_of (dv 3)))))) (blkOk_by (N := ["one", "other", "line", "merged"]) (sc := defScope s_merge) (own := [("line", 2)]) (by decide +kernel)) (by decide) (fun _ _ _ _ _ => (gn 2 sc_merge.nd)) (fun _ _ _ _ _ => dts_nil) (fun _ _ _ _ _ => (dv 2)) (fun _ _ _ _ _ => (de_atX hr (db_of (dv 3)) (db_of (dv 2))))))))) rfl) sg_asgD) sg_for)
abbrev s__law_told : Stmt := topS 9
theorem sc__law_told : FnScope ["one", "other", "e"] ["one", "other"] (defScope s__law_told) := ⟨rfl, rfl, rfl, by decide +kernel, rfl, by decide +kernel, by decide +kernel⟩
def b__law_told : WD.Env → Out := (mTry tb_x (mCall m_merge (mCons (mVar 0) (mCons (mVar 1) mNil))) (fun d _ => .rt d) [⟨"Both", 2, fun cn => (mRet (mLit (mIf (mAnd (mTru (mIsX tb_i cn "WeftError" 2)) (mTru (mIsX tb_i cn "ValueError" 2))) (mXfc c_cs cn 2 "line") (mUn negD (mC (.int 9))))))⟩])
def m__law_told : List D → Res D := mkFn 3 b__law_told
theorem ok__law_told {f : Addr} {fd : FuncData} (F : Fun K "_law_told" "_law_told" s__law_told f fd) (T : Txt K mg) (TC : TxC P w K mg base) (G_merge : FnX P w K mg base 3 "merge" ["one", "other"] m_merge) : FnOk P w K mg base (L2N.CX P w) 4 f fd ["one", "other"] (spX mg K 2 m__law_told) :=
  fn_okX (κ := kdT []) (κe := _) F sc__law_told rfl (by decide) fun cdv A outer s H E hr => (ds2_of (ds_one (ds_tryRX (fun W pn xe tk => (dx_call G_merge (hr.mono (by decide)) (fun σ => L2N.passAt tk σ) rfl (da_cons (dv 0) (da_cons (dv 1) da_nil)) rfl (mCons_len (mCons_len mNil_len)))) (.cons rfl rfl rfl rfl (by decide) (fun _ _ _ cn _ _ hmC hz hf => (ds_one (ds_retX (dx_lit (de_if (PW.pt (dw_and (dt_truth (db_of (de_isX TC.is hmC hz hf rfl rfl (by first | exact Or.inl rfl | exact Or.inr (Or.inl rfl) | exact Or.inr (Or.inr rfl)) rfl T.b_isinstance rfl)) (by intro _; rfl)) (dw_and1 (dt_truth (db_of (de_isX TC.is hmC hz hf rfl rfl (by first | exact Or.inl rfl | exact Or.inr (Or.inl rfl) | exact Or.inr (Or.inr rfl)) rfl T.b_isinstance rfl)) (by intro _; rfl))))) (de_xfc TC.xf hmC hz hf rfl rfl (by first | exact Or.inl rfl | exact Or.inr (Or.inl rfl) | exact Or.inr (Or.inr rfl)) (by decide +kernel)) (de_neg de_int)))))) .nil) TC.tb (hcl_cons TC.h_Both hcl_nil) sc__law_told.nd tkx)))
abbrev s_law : Stmt := topS 10
theorem sc_law : FnScope ["script", "one", "other", "line", "due", "passed", "told", "back", "expected"] ["script"] (defScope s_law) := ⟨rfl, rfl, rfl, by decide +kernel, rfl, by decide +kernel, by decide +kernel⟩
def lb_law_2 : WD.Env → Out := (mSeq (mAsg 8 (mGet2 (mVar 1) (mVar 3) (mGet1 (mVar 2) (mVar 3)))) (mIfS (mTru (mBin neD (mGet1 (mVar 6) (mVar 3)) (mVar 8))) (mRet (mC (.bool false))) mNext))
def lb_law_1 : WD.Env → Out := (mIfS (mAnd (mTru (mBin (cmpD ltI) (mVar 4) (mC (.int 0)))) (mAnd (mTru (mBin inX (mVar 3) (mVar 2))) (mTru (mBin neD (mBin atX (mVar 1) (mVar 3)) (mBin atX (mVar 2) (mVar 3)))))) (mAsg 4 (mVar 3)) mNext)
def lb_law_0 : WD.Env → Out := (mIfS (mTru (mBin inX (mVar 3) (mVar 2))) (mDPut 2 (mVar 3) (mBin atX (mVar 1) (mVar 3))) mNext)
def b_law : WD.Env → Out := (mSeq (mAsgO 1 (mCall m__law_fates (mCons (mVar 0) (mCons (mC (.int 1)) mNil)))) (mSeq (mAsgO 2 (mCall m__law_fates (mCons (mVar 0) (mCons (mC (.int 14)) mNil)))) (mSeq (mIfS (mTru (mBin eqD (mBin modD (mCall m__law_cell (mCons (mVar 0) (mCons (mC (.int 0)) mNil))) (mC (.int 2))) (mC (.int 0)))) (mFor (mIt (mList (mSortD (mVar 1)))) (gSet 3) lb_law_0) mNext) (mSeq (mAsg 4 (mUn negD (mC (.int 1)))) (mSeq (mFor (mIt (mList (mSortD (mVar 1)))) (gSet 3) lb_law_1) (mSeq (mAsg 5 (mList (mLst (mCons (mDict (mDcp (mVar 1))) (mCons (mDict (mDcp (mVar 2))) mNil))))) (mSeq (mAsg 6 (mCall m__law_told (mCons (mBin atD (mVar 5) (mC (.int 0))) (mCons (mBin atD (mVar 5) (mC (.int 1))) mNil)))) (mSeq (mAsg 7 (mCall m__law_told (mCons (mBin atD (mVar 5) (mC (.int 1))) (mCons (mBin atD (mVar 5) (mC (.int 0))) mNil)))) (mSeq (mIfS (mTru (mBin (eqLd false) (mVar 5) (mList (mLst (mCons (mVar 1) (mCons (mVar 2) mNil)))))) (mRet (mC (.bool false))) mNext) (mSeq (mIfS (mTru (mBin (cmpD geI) (mVar 4) (mC (.int 0)))) (mRet (mAndV (mBin eqX (mVar 6) (mVar 4)) (mBin eqX (mVar 7) (mVar 4)))) mNext) (mSeq (mIfS (mOr (mNot (mTru (mUn (isiD "dict") (mVar 6)))) (mOr (mNot (mTru (mUn (isiD "dict") (mVar 7)))) (mTru (mBin neX (mVar 6) (mVar 7))))) (mRet (mC (.bool false))) mNext) (mSeq (mFor (mBindA rng1D (mCons (mC (.int 40)) mNil)) (gSet 3) lb_law_2) (mSeq (mDPut 6 (mC (.int 99)) (mTup (mCons (mTup mNil) (mCons (mTup (mCons (mC (S [100, 114, 111, 112])) mNil)) (mCons (mTup mNil) mNil))))) (mRet (mAndV (mBin (eqLd true) (mVar 5) (mList (mLst (mCons (mVar 1) (mCons (mVar 2) mNil))))) (mBin eqD (mUn lenD (mVar 6)) (mBin addD (mUn lenD (mVar 7)) (mC (.int 1)))))))))))))))))))
def m_law : List D → Res D := mkFn 9 b_law
theorem ok_law {f : Addr} {fd : FuncData} (F : Fun K "law" "law" s_law f fd) (T : Txt K mg) (TC : TxC P w K mg base) (G__law_fates : FnX P w K mg base 2 "_law_fates" ["script", "start"] m__law_fates) (G__law_told : FnX P w K mg base 4 "_law_told" ["one", "other"] m__law_told) (G__law_cell : Fn P w K mg base 1 "_law_cell" ["script", "k"] m__law_cell) : FnOk P w K mg base (L2N.CX P w) 5 f fd ["script"] (spM mg K 1 m_law) :=
  fn_ok (κ := kdT [(1, .ow), (2, .ow), (6, .mx), (7, .mx)]) (κe := _) F sc_law rfl (by decide) fun cdv A outer s H E hr => (ds2_cons (ds_setO (i := 1) rfl sc_law.nd rfl (by first | exact Or.inl rfl | exact Or.inr rfl) (dx_call G__law_fates (hr.mono (by decide)) pcx rfl (da_cons (dv 0) (da_cons de_int da_nil)) rfl (mCons_len (mCons_len mNil_len)))) (ds2_freeze 1 (ds2_cons (ds_setO (i := 2) rfl sc_law.nd rfl (by first | exact Or.inl rfl | exact Or.inr rfl) (dx_call G__law_fates (hr.mono (by decide)) pcx rfl (da_cons (dv 0) (da_cons de_int da_nil)) rfl (mCons_len (mCons_len mNil_len)))) (ds2_cons (ds_if (dt_eq hr (db_of (de_mod (db_of (de_call G__law_cell (hr.mono (by decide)) pcx rfl (da_cons (dv 0) (da_cons de_int da_nil)) rfl (mCons_len (mCons_len mNil_len)))) (db_of de_int))) (db_of de_int)) (ds_one (ds_for pown rfl (di_seq (de_new (dn_sortD rfl rfl T.b_sorted (db_of (dv 1))))) (gn 3 sc_law.nd) (show DSs _ _ _ _ lb_law_0 from (ds_one (ds_if (dt_inX hr (db_of (dv 3)) (bv 2)) (ds_one (ds_dput (i := 2) hr rfl rfl (by first | exact Or.inl rfl | exact Or.inr (Or.inl rfl) | exact Or.inr (Or.inr rfl)) (dv 3) (de_atX hr (db_of (dv 1)) (db_of (dv 3))))) ds_nil))))) ds_nil) (ds2_freeze 2 (ds2_of (ds_cons (ds_set (i := 4) rfl sc_law.nd rfl (by first | exact Or.inl rfl | exact Or.inr rfl) (de_neg de_int)) (ds_cons (ds_for pown rfl (di_seq (de_new (dn_sortD rfl rfl T.b_sorted (db_of (dv 1))))) (gn 3 sc_law.nd) (show DSs _ _ _ _ lb_law_1 from (ds_one (ds_if (PW.pt (dw_and (dt_lt (db_of (dv 4)) (db_of de_int)) (dw_and (dt_inX hr (db_of (dv 3)) (db_of (dv 2))) (dw_and1 (dt_ne hr (db_of (de_atX hr (db_of (dv 1)) (db_of (dv 3)))) (db_of (de_atX hr (db_of (dv 2)) (db_of (dv 3))))))))) (ds_one (ds_set (i := 4) rfl sc_law.nd rfl (by first | exact Or.inl rfl | exact Or.inr rfl) (dv 3))) ds_nil)))) (ds_cons (ds_set (i := 5) rfl sc_law.nd rfl (by first | exact Or.inl rfl | exact Or.inr rfl) (de_new (dn_lst (da_cons (de_ndF (dnd_copy rfl T.b_dict (db_of (dv 1)))) (da_cons (de_ndF (dnd_copy rfl T.b_dict (db_of (dv 2)))) da_nil))))) (ds_cons (ds_setX (i := 6) rfl sc_law.nd rfl (by first | exact Or.inl rfl | exact Or.inr rfl) (dx_call G__law_told (hr.mono (by decide)) pcx rfl (da_cons (de_at (db_of (dv 5)) (db_of de_int)) (da_cons (de_at (db_of (dv 5)) (db_of de_int)) da_nil)) rfl (mCons_len (mCons_len mNil_len)))) (ds_cons (ds_setX (i := 7) rfl sc_law.nd rfl (by first | exact Or.inl rfl | exact Or.inr rfl) (dx_call G__law_told (hr.mono (by decide)) pcx rfl (da_cons (de_at (db_of (dv 5)) (db_of de_int)) (da_cons (de_at (db_of (dv 5)) (db_of de_int)) da_nil)) rfl (mCons_len (mCons_len mNil_len)))) (ds_cons (ds_if (dt_neLd hr (db_of (dv 5)) (db_of (de_new (dn_lst (da_cons (dv 1) (da_cons (dv 2) da_nil)))))) (ds_one (ds_ret de_bl)) ds_nil) (ds_cons (ds_if (dt_ge (db_of (dv 4)) (db_of de_int)) (ds_one (ds_ret (de_and (de_eqX hr (bv 6) (db_of (dv 4))) (de_one (de_eqX hr (bv 7) (db_of (dv 4))))))) ds_nil) (ds_cons (ds_if (PW.pt (dw_or (dt_not (dt_truth (db_of (de_isi rfl T.b_isinstance rfl T.b_dict (by decide +kernel) (bv 6))) (by intro _; rfl))) (dw_or (dt_not (dt_truth (db_of (de_isi rfl T.b_isinstance rfl T.b_dict (by decide +kernel) (bv 7))) (by intro _; rfl))) (dw_or1 (dt_neX hr (bv 6) (bv 7)))))) (ds_one (ds_ret de_bl)) ds_nil) (ds_cons (ds_for pown rfl (di_range1 rfl T.b_range (da_cons de_int da_nil)) (gn 3 sc_law.nd) (show DSs _ _ _ _ lb_law_2 from (ds_cons (ds_set (i := 8) rfl sc_law.nd rfl (by first | exact Or.inl rfl | exact Or.inr rfl) (de_get2 hr (db_of (dv 1)) (dv 3) (de_get1 hr (db_of (dv 2)) (dv 3)))) (ds_one (ds_if (dt_ne hr (db_of (de_get1 hr (bv 6) (dv 3))) (db_of (dv 8))) (ds_one (ds_ret de_bl)) ds_nil))))) (ds_cons (ds_dputM (i := 6) hr rfl rfl (by first | exact Or.inl rfl | exact Or.inr (Or.inl rfl) | exact Or.inr (Or.inr rfl)) de_int (de_tup (da_cons (de_tup da_nil) (da_cons (de_tup (da_cons (de_strS [100, 114, 111, 112]) da_nil)) (da_cons (de_tup da_nil) da_nil))))) (ds_one (ds_ret (de_and (de_eqLd hr (db_of (dv 5)) (db_of (de_new (dn_lst (da_cons (dv 1) (da_cons (dv 2) da_nil)))))) (de_one (de_eq hr (db_of (de_len rfl T.b_len (bv 6))) (db_of (de_add (db_of (de_len rfl T.b_len (bv 7))) (db_of de_int))))))))))))))))))) rfl) (sg_if sg_for sg_next)) sg_asgO) rfl) sg_asgO)
end
theorem sl5 (n : Nat) (h : n ≤ 100000) : n ≤ sizeLine := by rw [sl_eq]; omega
theorem sl5' (n : Nat) (h : n ≤ 100000) : n < sizeLine := by rw [sl_eq]; omega
theorem filter_all {α : Type} (l : List α) : l.filter (fun _ => true) = l := by induction l with
  | nil => rfl
  | cons x l ih => rw [List.filter_cons_of_pos rfl, ih]

/-! edits -/
inductive Ch where
  | keep | drop
  | text (t : List Nat)
deriving DecidableEq
def chD : Ch → D
  | .keep => .tuple [S [107, 101, 101, 112]]
  | .drop => .tuple [S [100, 114, 111, 112]]
  | .text t => .tuple [S [116, 101, 120, 116], S t]
structure Ed where
  a : List (List Nat)
  c : Ch
  b : List (List Nat)
deriving DecidableEq
def edD (e : Ed) : D := .tuple [.tuple (e.a.map S), chD e.c, .tuple (e.b.map S)]
def unt : Ed := ⟨[], .keep, []⟩
theorem plain_Ss (n : Nat) (xs : List (List Nat)) : ∀ d ∈ xs.map S, plainD n d = true := fun d hd => by
  obtain ⟨x, _, rfl⟩ := List.mem_map.mp hd
  exact plain_S n x
theorem plain_ch (n : Nat) (c : Ch) : plainD (n + 1) (chD c) = true := by
  cases c with
  | keep => exact plain_tuple fun d hd => by rw [List.mem_singleton.mp hd]; exact plain_S _ _
  | drop => exact plain_tuple fun d hd => by rw [List.mem_singleton.mp hd]; exact plain_S _ _
  | text t =>
    refine plain_tuple fun d hd => ?_
    · rcases List.mem_cons.mp hd with rfl | hd
      · exact plain_S _ _
      · rw [List.mem_singleton.mp hd]; exact plain_S _ _
theorem plain_ed (n : Nat) (e : Ed) : plainD (n + 2) (edD e) = true := plain_tuple fun d hd => by
  rcases List.mem_cons.mp hd with rfl | hd
  · exact plain_tuple (plain_Ss _ _)
  · rcases List.mem_cons.mp hd with rfl | hd
    · exact plain_ch _ _
    · rw [List.mem_singleton.mp hd]; exact plain_tuple (plain_Ss _ _)
theorem plain_eds (n : Nat) (es : List Ed) : plainD (n + 3) (.list (es.map edD)) = true := plain_list fun d hd => by
  obtain ⟨e, _, rfl⟩ := List.mem_map.mp hd
  exact plain_ed _ _
theorem plain_txt (n : Nat) (ts : List (List Nat)) : plainD (n + 1) (.list (ts.map S)) = true := plain_list (plain_Ss _ _)
theorem eqD_is {x y : D} (hx : plainD deep x = true) (hy : plainD deep y = true) : eqD x y = .ok (.bool (PyData.eqv x y)) := by
  unfold eqD
  rw [if_pos ⟨hx, hy⟩]
theorem neD_is {x y : D} (hx : plainD deep x = true) (hy : plainD deep y = true) : neD x y = .ok (.bool (!PyData.eqv x y)) := by
  unfold neD
  rw [if_pos ⟨hx, hy⟩]
theorem eqv_ch (c c' : Ch) : PyData.eqv (chD c) (chD c') = decide (c = c') := by
  have h : ∀ a b : List Nat, ((⟨a.toArray⟩ : Str) == ⟨b.toArray⟩) = decide (a = b) := fun a b => (eqv_S a b).trans (by by_cases h : a = b <;> simp [h])
  cases c <;> cases c' <;> simp [chD, PyData.eqv, PyData.eqvAll, h]
theorem eqD_ch (c c' : Ch) : eqD (chD c) (chD c') = .ok (.bool (decide (c = c'))) := by
  rw [eqD_is (plain_ch 39 c) (plain_ch 39 c'), eqv_ch]
theorem neD_ch (c c' : Ch) : neD (chD c) (chD c') = .ok (.bool (!decide (c = c'))) := by
  rw [neD_is (plain_ch 39 c) (plain_ch 39 c'), eqv_ch]
/-! lists of edits -/
abbrev Tx := List Nat
def chS (t : Tx) : Ch → List Tx
  | .keep => [t]
  | .drop => []
  | .text s => [s]
def itS (t : Tx) (e : Ed) : List Tx := e.a ++ (chS t e.c ++ e.b)
def edL : List Tx → List Ed → List Tx
  | t :: ts, e :: es => itS t e ++ edL ts es
  | _, _ => []
def mid (e : Ed) : Nat := if e.c = .drop then 0 else 1
def outLen : List Ed → Nat
  | [] => 0
  | e :: es => e.a.length + (mid e + (e.b.length + outLen es))
theorem chS_len (t : Tx) (e : Ed) : (chS t e.c).length = mid e := by
  unfold mid
  cases e.c <;> simp [chS]
theorem itS_len (t : Tx) (e : Ed) : (itS t e).length = e.a.length + (mid e + e.b.length) := by
  unfold itS
  rw [List.length_append, List.length_append, chS_len]
theorem edL_len : ∀ (ts : List Tx) (es : List Ed), ts.length = es.length → (edL ts es).length = outLen es
  | [], [], _ => rfl
  | t :: ts, e :: es, h => by
    have := edL_len ts es (by simpa using h)
    show (itS t e ++ edL ts es).length = _
    rw [List.length_append, itS_len, this]
    show _ = e.a.length + (mid e + (e.b.length + outLen es))
    omega
  | [], e :: es, h => by simp at h
  | t :: ts, [], h => by simp at h
theorem edL_app : ∀ (xs ys : List Tx) (us vs : List Ed), xs.length = us.length → edL (xs ++ ys) (us ++ vs) = edL xs us ++ edL ys vs
  | [], ys, [], vs, _ => rfl
  | x :: xs, ys, u :: us, vs, h => by
    show itS x u ++ edL (xs ++ ys) (us ++ vs) = (itS x u ++ edL xs us) ++ edL ys vs
    rw [edL_app xs ys us vs (by simpa using h), List.append_assoc]
  | [], _, u :: us, _, h => by simp at h
  | x :: xs, _, [], _, h => by simp at h
theorem outLen_app : ∀ us vs : List Ed, outLen (us ++ vs) = outLen us + outLen vs
  | [], vs => by simp [outLen]
  | u :: us, vs => by
    have := outLen_app us vs
    show u.a.length + (mid u + (u.b.length + outLen (us ++ vs))) = u.a.length + (mid u + (u.b.length + outLen us)) + outLen vs
    omega
theorem len_le_out {es : List Ed} {e : Ed} (h : e ∈ es) : e.a.length ≤ outLen es ∧ e.b.length ≤ outLen es := by
  induction es with
  | nil => simp at h
  | cons x es ih =>
    have e0 : outLen (x :: es) = x.a.length + (mid x + (x.b.length + outLen es)) := rfl
    rcases List.mem_cons.mp h with rfl | h
    · omega
    · have := ih h; omega
/-! one after the other -/
def one (e : Ed) (s1 so s3 : List Ed) : Ed := ⟨edL e.a s1 ++ (so.headD unt).a, if (so.headD unt).c = .keep then e.c else (so.headD unt).c, (so.headD unt).b ++ edL e.b s3⟩
def cmp : List Ed → List Ed → List Ed
  | [], _ => []
  | e :: es, s => one e (s.take e.a.length) ((s.drop e.a.length).take (mid e)) ((s.drop (e.a.length + mid e)).take e.b.length) :: cmp es (s.drop (e.a.length + (mid e + e.b.length)))
theorem cmp_len : ∀ (f s : List Ed), (cmp f s).length = f.length
  | [], _ => rfl
  | e :: f, s => by
    show (cmp f _).length + 1 = f.length + 1
    rw [cmp_len f]
theorem cmp_cons {e : Ed} {es s1 so s3 s' : List Ed} (h1 : s1.length = e.a.length) (h2 : so.length = mid e) (h3 : s3.length = e.b.length) : cmp (e :: es) (s1 ++ (so ++ (s3 ++ s'))) = one e s1 so s3 :: cmp es s' := by
  have d1 : (s1 ++ (so ++ (s3 ++ s'))).drop e.a.length = so ++ (s3 ++ s') := by rw [← h1, List.drop_left]
  have d2 : (s1 ++ (so ++ (s3 ++ s'))).drop (e.a.length + mid e) = s3 ++ s' := by rw [← List.drop_drop, d1, ← h2, List.drop_left]
  have d3 : (s1 ++ (so ++ (s3 ++ s'))).drop (e.a.length + (mid e + e.b.length)) = s' := by rw [← Nat.add_assoc, ← List.drop_drop, d2, ← h3, List.drop_left]
  show one e ((s1 ++ (so ++ (s3 ++ s'))).take e.a.length) (((s1 ++ (so ++ (s3 ++ s'))).drop e.a.length).take (mid e)) (((s1 ++ (so ++ (s3 ++ s'))).drop (e.a.length + mid e)).take e.b.length) :: cmp es ((s1 ++ (so ++ (s3 ++ s'))).drop (e.a.length + (mid e + e.b.length))) = _
  rw [d1, d2, d3, ← h1, List.take_left, ← h2, List.take_left, ← h3, List.take_left]
theorem split2 {α : Type} {s : List α} {a b : Nat} (h : s.length = a + b) : ∃ x y, s = x ++ y ∧ x.length = a ∧ y.length = b := ⟨s.take a, s.drop a, (List.take_append_drop a s).symm, by rw [List.length_take]; omega, by rw [List.length_drop]; omega⟩
theorem split4 {e : Ed} {es s : List Ed} (h : s.length = outLen (e :: es)) : ∃ s1 so s3 s', s = s1 ++ (so ++ (s3 ++ s')) ∧ s1.length = e.a.length ∧ so.length = mid e ∧ s3.length = e.b.length ∧ s'.length = outLen es := by
  obtain ⟨s1, r1, rfl, h1, hr1⟩ := split2 (a := e.a.length) (b := mid e + (e.b.length + outLen es)) h
  obtain ⟨so, r2, rfl, h2, hr2⟩ := split2 hr1
  obtain ⟨s3, s', rfl, h3, h4⟩ := split2 hr2
  exact ⟨s1, so, s3, s', rfl, h1, h2, h3, h4⟩
/-- the middle: no line, or one -/
theorem mid_cases {e : Ed} {so : List Ed} (h : so.length = mid e) : (e.c = .drop ∧ so = []) ∨ (e.c ≠ .drop ∧ ∃ w, so = [w]) := by
  unfold mid at h
  by_cases z : e.c = .drop
  · rw [if_pos z] at h
    exact .inl ⟨z, List.eq_nil_of_length_eq_zero h⟩
  · rw [if_neg z] at h
    match so, h with
    | [w], _ => exact .inr ⟨z, w, rfl⟩
theorem chS_own {t : Tx} {c : Ch} (hc : c ≠ .drop) (w : Ed) : edL (chS t c) [w] = w.a ++ (chS t (if w.c = .keep then c else w.c) ++ w.b) := by
  obtain ⟨x, hx⟩ : ∃ x, chS t c = [x] := by cases c <;> simp [chS] at hc ⊢
  rw [hx]
  show itS x w ++ [] = _
  rw [List.append_nil]
  unfold itS
  cases hw : w.c with
  | keep => rw [if_pos rfl, hx]; rfl
  | drop => rw [if_neg (by simp)]; rfl
  | text y => rw [if_neg (by simp)]; rfl
theorem edL_cmp : ∀ (f : List Ed) (ts : List Tx) (s : List Ed), ts.length = f.length → s.length = outLen f → edL ts (cmp f s) = edL (edL ts f) s
  | [], [], s, _, h => by
    have : s = [] := List.eq_nil_of_length_eq_zero h
    subst this; rfl
  | [], t :: ts, _, h, _ => by simp at h
  | e :: f, [], _, h, _ => by simp at h
  | e :: f, t :: ts, s, h, hs => by
    obtain ⟨s1, so, s3, s', rfl, h1, h2, h3, h4⟩ := split4 hs
    rw [cmp_cons h1 h2 h3]
    have ih := edL_cmp f ts s' (by simpa using h) h4
    show itS t (one e s1 so s3) ++ edL ts (cmp f s') = edL (itS t e ++ edL ts f) (s1 ++ (so ++ (s3 ++ s')))
    rw [ih]
    have e1 : itS t e ++ edL ts f = e.a ++ (chS t e.c ++ (e.b ++ edL ts f)) := by unfold itS; simp only [List.append_assoc]
    rw [e1, edL_app e.a _ s1 _ h1.symm, edL_app (chS t e.c) _ so _ (by rw [chS_len, h2]), edL_app e.b _ s3 _ h3.symm]
    have : itS t (one e s1 so s3) = edL e.a s1 ++ (edL (chS t e.c) so ++ edL e.b s3) := by
      rcases mid_cases h2 with ⟨hc, rfl⟩ | ⟨hc, w, rfl⟩
      · unfold itS one
        rw [hc]
        show (edL e.a s1 ++ []) ++ (chS t (if Ch.keep = .keep then Ch.drop else .keep) ++ ([] ++ edL e.b s3)) = _
        rw [if_pos rfl]
        simp [chS, edL]
      · rw [chS_own hc]
        unfold itS one
        show (edL e.a s1 ++ w.a) ++ (chS t (if w.c = .keep then e.c else w.c) ++ (w.b ++ edL e.b s3)) = _
        simp only [List.append_assoc]
    rw [this]
    simp only [List.append_assoc]
theorem cmp_app : ∀ (s1 s2 u1 u2 : List Ed), u1.length = outLen s1 → cmp (s1 ++ s2) (u1 ++ u2) = cmp s1 u1 ++ cmp s2 u2
  | [], s2, u1, u2, h => by
    have : u1 = [] := List.eq_nil_of_length_eq_zero h
    subst this; rfl
  | e :: s1, s2, u1, u2, h => by
    obtain ⟨v1, vo, v3, v', rfl, h1, h2, h3, h4⟩ := split4 h
    have ih := cmp_app s1 s2 v' u2 h4
    have e1 : v1 ++ (vo ++ (v3 ++ v')) ++ u2 = v1 ++ (vo ++ (v3 ++ (v' ++ u2))) := by simp only [List.append_assoc]
    show cmp (e :: (s1 ++ s2)) (v1 ++ (vo ++ (v3 ++ v')) ++ u2) = cmp (e :: s1) (v1 ++ (vo ++ (v3 ++ v'))) ++ cmp s2 u2
    rw [e1, cmp_cons h1 h2 h3, cmp_cons h1 h2 h3, ih]
    rfl
theorem cmp_assoc : ∀ (f s u : List Ed), s.length = outLen f → u.length = outLen s → cmp (cmp f s) u = cmp f (cmp s u)
  | [], s, u, _, _ => rfl
  | e :: f, s, u, hs, hu => by
    obtain ⟨s1, so, s3, s', rfl, h1, h2, h3, h4⟩ := split4 hs
    rw [outLen_app, outLen_app, outLen_app] at hu
    obtain ⟨u1, r1, rfl, k1, hr1⟩ := split2 hu
    obtain ⟨uo, r2, rfl, k2, hr2⟩ := split2 hr1
    obtain ⟨u3, u', rfl, k3, k4⟩ := split2 hr2
    have ih := cmp_assoc f s' u' h4 k4
    rw [cmp_app s1 _ u1 _ k1, cmp_app so _ uo _ k2, cmp_app s3 _ u3 _ k3, cmp_cons h1 h2 h3, cmp_cons (e := e) (es := f) (s1 := cmp s1 u1) (so := cmp so uo) (s3 := cmp s3 u3) (by rw [cmp_len, h1]) (by rw [cmp_len, h2]) (by rw [cmp_len, h3]), ← ih]
    have la := edL_len e.a s1 h1.symm
    have lb := edL_len e.b s3 h3.symm
    have c1 := edL_cmp s1 e.a u1 h1.symm k1
    have c3 := edL_cmp s3 e.b u3 h3.symm k3
    rcases mid_cases h2 with ⟨hc, rfl⟩ | ⟨hc, w, rfl⟩
    · have : uo = [] := List.eq_nil_of_length_eq_zero k2
      subst this
      have g : one e s1 [] s3 = ⟨edL e.a s1, .drop, edL e.b s3⟩ := by
        unfold one
        show (⟨edL e.a s1 ++ [], if Ch.keep = .keep then e.c else .keep, [] ++ edL e.b s3⟩ : Ed) = _
        rw [if_pos rfl, hc, List.append_nil]; rfl
      rw [g, cmp_cons (by rw [k1, ← la]) (by rfl) (by rw [k3, ← lb])]
      congr 1
      unfold one
      show (⟨edL (edL e.a s1) u1 ++ [], if Ch.keep = .keep then Ch.drop else .keep, [] ++ edL (edL e.b s3) u3⟩ : Ed) = ⟨edL e.a (cmp s1 u1) ++ [], if Ch.keep = .keep then e.c else .keep, [] ++ edL e.b (cmp s3 u3)⟩
      rw [c1, c3, if_pos rfl, if_pos rfl, hc]
    · have k2 : uo.length = outLen (w :: []) := k2
      obtain ⟨ua, um, ub, un, rfl, j1, j2, j3, j4⟩ := split4 k2
      have : un = [] := List.eq_nil_of_length_eq_zero j4
      subst this
      have g : one e s1 [w] s3 = ⟨edL e.a s1 ++ w.a, if w.c = .keep then e.c else w.c, w.b ++ edL e.b s3⟩ := rfl
      have hm : mid (one e s1 [w] s3) = mid w := by
        unfold mid
        rw [g]
        by_cases z : w.c = .keep
        · simp only [if_pos z]
          rw [if_neg hc, z, if_neg (by simp)]
        · simp only [if_neg z]
      have eu : u1 ++ ((ua ++ (um ++ (ub ++ []))) ++ (u3 ++ u')) = (u1 ++ ua) ++ (um ++ ((ub ++ u3) ++ u')) := by simp only [List.append_assoc, List.append_nil, List.nil_append]
      rw [eu, cmp_cons (by rw [g]; simp only [List.length_append]; omega) (by rw [hm, j2]) (by rw [g]; simp only [List.length_append]; omega)]
      congr 1
      rw [cmp_cons j1 j2 j3]
      rw [g]
      have hw2 : ((one w ua um ub :: cmp [] ([] : List Ed)).headD unt) = one w ua um ub := rfl
      unfold one
      unfold one at hw2
      simp only [hw2]
      rw [edL_app (edL e.a s1) w.a u1 ua (by rw [la, k1]), edL_app w.b (edL e.b s3) ub u3 j3.symm, c1, c3]
      have hch : (if (um.headD unt).c = .keep then (if w.c = .keep then e.c else w.c) else (um.headD unt).c) = (if (if (um.headD unt).c = .keep then w.c else (um.headD unt).c) = .keep then e.c else (if (um.headD unt).c = .keep then w.c else (um.headD unt).c)) := by
        by_cases z : (um.headD unt).c = .keep
        · simp only [if_pos z]
        · simp only [if_neg z]
      rw [hch]
      simp only [List.append_assoc]
theorem edL_unt : ∀ (ts : List Tx), edL ts (List.replicate ts.length unt) = ts
  | [] => rfl
  | t :: ts => by
    show [t] ++ edL ts (List.replicate ts.length unt) = _
    rw [edL_unt ts]; rfl
theorem outLen_unt (n : Nat) : outLen (List.replicate n unt) = n := by
  have := edL_len (List.replicate n []) (List.replicate n unt) (by simp)
  have h2 := edL_unt (List.replicate n [])
  rw [List.length_replicate] at h2
  rw [h2, List.length_replicate] at this
  exact this.symm
theorem cmp_unt_left : ∀ es : List Ed, cmp (List.replicate es.length unt) es = es
  | [] => rfl
  | e :: es => by
    have ih := cmp_unt_left es
    have h := cmp_cons (e := unt) (es := List.replicate es.length unt) (s1 := []) (so := [e]) (s3 := []) (s' := es) rfl rfl rfl
    have h : cmp (List.replicate (es.length + 1) unt) (e :: es) = one unt [] [e] [] :: cmp (List.replicate es.length unt) es := h
    rw [List.length_cons, h, ih]
    congr 1
    unfold one
    show (⟨[] ++ e.a, if e.c = .keep then Ch.keep else e.c, e.b ++ []⟩ : Ed) = e
    by_cases z : e.c = .keep
    · rw [if_pos z, List.append_nil, List.nil_append, ← z]
    · rw [if_neg z, List.append_nil, List.nil_append]
theorem cmp_unt_right : ∀ es : List Ed, cmp es (List.replicate (outLen es) unt) = es
  | [] => rfl
  | e :: es => by
    have ih := cmp_unt_right es
    have er : List.replicate (outLen (e :: es)) unt = List.replicate e.a.length unt ++ (List.replicate (mid e) unt ++ (List.replicate e.b.length unt ++ List.replicate (outLen es) unt)) := by
      rw [List.replicate_append_replicate, List.replicate_append_replicate, List.replicate_append_replicate]; rfl
    rw [er, cmp_cons (by simp) (by simp) (by simp), ih]
    congr 1
    unfold one
    have hd : (List.replicate (mid e) unt).headD unt = unt := by cases mid e <;> rfl
    rw [hd, edL_unt, edL_unt]
    show (⟨e.a ++ [], if Ch.keep = .keep then e.c else .keep, [] ++ e.b⟩ : Ed) = e
    rw [if_pos rfl, List.append_nil, List.nil_append]

theorem law_cell (ns : List Int) (k : Nat) : m__law_cell [.list (ns.map PyData.int), .int k] = .ok (.int ((ns[k]?).getD 0)) := by
  unfold m__law_cell mkFn b__law_cell
  by_cases h : k < ns.length
  · have : (ns.map PyData.int)[k]? = some (.int ns[k]) := by simp [h]
    simp -implicitDefEqProofs [ltI, h, atD_list this]
  · simp -implicitDefEqProofs [ltI, h]
theorem cdiv1009 (c : Int) : CDiv c 1009 := by unfold CDiv; omega
theorem cmul_r {c k : Int} (h : -(2 ^ 64) < k ∧ k < 2 ^ 64) : CMul c k := .inr h
theorem draw_turn (c : Int) (n : D) (ds : List Int) (w : Bool) (k : Nat) (x5 : Option D) (hs : ds.length < 1000) (hk : k < 1000) : ∃ (c' d : Int) (x5' : Option D),
    lb__law_draws_0 [some (.int c), some n, some (.list (ds.map PyData.int)), some (.bool w), some (.int k), x5] = .nx [some (.int c'), some n, some (.list ((ds ++ [d]).map PyData.int)), some (.bool w), some (.int k), x5'] ∧ 0 ≤ d := by
  have small : ds.length < sizeLine := by rw [sl_eq]; omega
  unfold lb__law_draws_0
  cases w with
  | true =>
    refine ⟨c / 1009, c % 1009, x5, ?_, by omega⟩
    simp -implicitDefEqProofs [modD_int, fdivD_int (cdiv1009 c), small]
  | false =>
    have h0 : 0 ≤ (c * 48271 + (k : Int) * 69621) % 2147483647 := by omega
    have h1 : (c * 48271 + (k : Int) * 69621) % 2147483647 < 2147483647 := by omega
    refine ⟨c, ((c * 48271 + (k : Int) * 69621) % 2147483647 * ((c * 48271 + (k : Int) * 69621) % 2147483647) + c * 31 + k) % 1000003, some (.int ((c * 48271 + (k : Int) * 69621) % 2147483647)), ?_, by omega⟩
    simp -implicitDefEqProofs [modD_int, mulD_int (cmul_r (c := c) (k := 48271) (by decide)), mulD_int (cmul_r (c := (k : Int)) (k := 69621) (by decide)), small]
    rw [mulD_int (.inl (by omega))]
    simp -implicitDefEqProofs [modD_int, mulD_int (cmul_r (c := c) (k := 31) (by decide)), small]
theorem law_draws (c : Int) (n : Nat) (hn : n ≤ 1000) : ∃ ds : List Int, m__law_draws [.int c, .int n] = .ok (.list (ds.map PyData.int)) ∧ ds.length = n ∧ ∀ d ∈ ds, 0 ≤ d := by
  unfold m__law_draws mkFn b__law_draws
  have hp : powD (.int 10) (.int 18) = .ok (.int (10 ^ (18 : Int).toNat)) := powD_int (by decide)
  generalize (10 : Int) ^ (18 : Int).toNat = big at hp
  obtain ⟨w, hw⟩ : ∃ w, geI c big = w := ⟨_, rfl⟩
  obtain ⟨ρ', e, c', ds, x4, x5, rfl, hl, hd⟩ := forL_inv (fun j ρ => ∃ (c' : Int) (ds : List Int) (x4 x5 : Option D), ρ = [some (.int c'), some (.int n), some (.list (ds.map PyData.int)), some (.bool w), x4, x5] ∧ ds.length = j ∧ ∀ d ∈ ds, 0 ≤ d)
    (rngD 0 n) [some (.int c), some (.int n), some (.list []), some (.bool w), none, none] 0 ⟨c, [], none, none, rfl, rfl, by simp⟩ (b := lb__law_draws_0) (g := gSet 4) (fun i d ρ hd hI => by
      obtain ⟨c', ds, x4, x5, rfl, hl, h0⟩ := hI
      obtain ⟨hi, rfl⟩ := rngD_get hd
      obtain ⟨c2, d, x5', e, h1⟩ := draw_turn c' (.int n) ds w i x5 (by omega) (by omega)
      refine ⟨_, _, gSet_at _ _ _, .inl (by simpa using e), c2, ds ++ [d], _, x5', rfl, by simp [hl], fun d' hd' => ?_⟩
      rcases List.mem_append.mp hd' with hd' | hd'
      · exact h0 d' hd'
      · have : d' = d := by simpa using hd'
        omega)
  refine ⟨ds, ?_, by simpa [rngD_len] using hl, hd⟩
  simp -implicitDefEqProofs [hp, hw, rng1D_int (show (0 : Int) ≤ (n : Int) by omega) (show (n : Int) < 2 ^ 62 by omega), e]
@[simp] theorem mIsN_at (m : WD.Env → Res D) (ρ : WD.Env) : mIsN m ρ = (m ρ).bind fun d => .ok (.bool (isNoneD d)) := rfl
@[simp] theorem mNotN_at (m : WD.Env → Res D) (ρ : WD.Env) : mNotN m ρ = (m ρ).bind fun d => .ok (.bool (!isNoneD d)) := rfl

theorem forL_go {g : D → WD.Env → Option WD.Env} {b : WD.Env → Out} {d : D} {ds : List D} {ρ ρ1 ρ2 : WD.Env} (h1 : g d ρ = some ρ1) (h2 : b ρ1 = .nx ρ2) : forL g b (d :: ds) ρ = forL g b ds ρ2 := by
  conv => lhs; unfold forL
  rw [h1]
  simp only [h2]
theorem forL_stop {g : D → WD.Env → Option WD.Env} {b : WD.Env → Out} {d : D} {ds : List D} {ρ ρ1 : WD.Env} {x : Exn} (h1 : g d ρ = some ρ1) (h2 : b ρ1 = .err x) : forL g b (d :: ds) ρ = .err x := by
  unfold forL
  rw [h1]
  simp only [h2]
theorem seq_nx {A R : WD.Env → Out} {ρ ρ' : WD.Env} {o : Out} (h : A ρ = .nx ρ') (h2 : R ρ' = o) : mSeq A R ρ = o := by rw [mSeq_at, h, then_nx]; exact h2

/-! dicts from numbers -/
section
variable {β : Type}
abbrev ID (β : Type) := List (Nat × β)
def dI (df : β → D) (s : ID β) : List (D × D) := s.map fun p => (.int (p.1 : Nat), df p.2)
def li (s : ID β) (n : Nat) : Option β := (s.find? fun p => p.1 == n).map (·.2)
def pi (s : ID β) (n : Nat) (x : β) : ID β := if (s.any fun p => p.1 == n) = true then s.map fun p => if p.1 = n then (p.1, x) else p else s ++ [(n, x)]
theorem key_decI (a n : Nat) : decide (keyOf (.int (a : Nat)) = some (.inl (n : Int))) = (a == n) := by
  rw [keyOf_int]
  by_cases h : a = n
  · subst h; simp
  · rw [beq_eq_false_iff_ne.mpr h]
    simp
    omega
theorem valD_dI (df : β → D) (s : ID β) (n : Nat) : valD (dI df s) (.inl (n : Int)) = (li s n).map df := by
  unfold dI li
  rw [valD_map (fun p : Nat × β => .int (p.1 : Nat)) (fun p => df p.2)]
  have e : (fun p : Nat × β => decide (keyOf (.int (p.1 : Nat)) = some (.inl (n : Int)))) = fun p => p.1 == n := by funext p; exact key_decI p.1 n
  rw [e, Option.map_map]
  rfl
theorem putD_dI (df : β → D) (s : ID β) (n : Nat) (x : β) : putD (dI df s) (.inl (n : Int)) (df x) = dI df (pi s n x) := by
  unfold putD pi
  have ea : ((dI df s).any fun p => decide (keyOf p.1 = some (.inl (n : Int)))) = s.any fun p => p.1 == n := by
    unfold dI
    rw [List.any_map]
    congr 1
    funext p
    exact key_decI p.1 n
  rw [ea]
  split
  · unfold dI
    rw [List.map_map, List.map_map]
    apply List.map_congr_left
    intro p _
    have := key_decI p.1 n
    by_cases h : p.1 = n
    · have h2 : keyOf (.int (p.1 : Nat)) = some (.inl (n : Int)) := by rw [h]; rfl
      simp [h]
    · have h2 : ¬ keyOf (.int (p.1 : Nat)) = some (.inl (n : Int)) := fun z => by
        rw [decide_eq_true z] at this
        exact h (by simpa using this.symm)
      simp only [Function.comp, if_neg h2, if_neg h]
  · unfold dI
    rw [List.map_append]
    rfl
theorem li_none {s : ID β} {n : Nat} : li s n = none ↔ (s.any fun p => p.1 == n) = false := by
  unfold li
  rw [Option.map_eq_none_iff, List.find?_eq_none, List.any_eq_false]
theorem li_pi (s : ID β) (n m : Nat) (x : β) : li (pi s n x) m = if m = n then some x else li s m := by
  unfold pi
  split
  · rename_i h
    induction s with
    | nil => simp at h
    | cons p s ih =>
      unfold li at ih ⊢
      rw [List.map_cons, List.find?_cons, List.find?_cons]
      by_cases e : p.1 = n
      · rw [if_pos e]
        by_cases e2 : m = n
        · subst e2; simp [e]
        · have n1 : (p.1 == m) = false := beq_eq_false_iff_ne.mpr fun z => e2 (by rw [← z, e])
          simp only [n1, if_neg e2]
          have hm : ∀ s : ID β, ((s.map fun p => if p.1 = n then (p.1, x) else p).find? fun p => p.1 == m).map (·.2) = (s.find? fun p => p.1 == m).map (·.2) := fun s => by
            induction s with
            | nil => rfl
            | cons q s ih =>
              rw [List.map_cons, List.find?_cons, List.find?_cons]
              by_cases eq : q.1 = n
              · have z1 : (q.1 == m) = false := beq_eq_false_iff_ne.mpr fun z => e2 (by rw [← z, eq])
                rw [if_pos eq]
                simp only [z1]
                exact ih
              · rw [if_neg eq]
                cases z1 : (q.1 == m) with
                | true => rfl
                | false => exact ih
          exact hm s
      · rw [if_neg e]
        by_cases e3 : p.1 = m
        · have : ¬ m = n := fun z => e (e3.trans z)
          simp [e3, this]
        · have n1 : (p.1 == m) = false := beq_eq_false_iff_ne.mpr e3
          simp only [n1]
          have h' : (s.any fun p => p.1 == n) = true := by
            rw [List.any_cons] at h
            have : (p.1 == n) = false := beq_eq_false_iff_ne.mpr e
            simpa [this] using h
          exact ih h'
  · rename_i h
    have h : li s n = none := li_none.mpr (by cases q : (s.any fun p => p.1 == n) with | true => exact absurd q h | false => rfl)
    unfold li at h ⊢
    rw [List.find?_append]
    by_cases e : m = n
    · subst e
      rw [Option.map_eq_none_iff] at h
      simp [h]
    · have n1 : (n == m) = false := beq_eq_false_iff_ne.mpr fun z => e z.symm
      simp [e, n1]
theorem keys_pi (s : ID β) (n : Nat) (x : β) : (pi s n x).map (·.1) = if li s n = none then s.map (·.1) ++ [n] else s.map (·.1) := by
  unfold pi
  cases h : li s n with
  | none =>
    rw [li_none.mp h]
    simp
  | some y =>
    have : (s.any fun p => p.1 == n) = true := by
      cases q : (s.any fun p => p.1 == n) with
      | true => rfl
      | false => rw [li_none.mpr q] at h; cases h
    rw [if_pos this, if_neg (by simp), List.map_map]
    apply List.map_congr_left
    intro p _
    simp only [Function.comp]
    split <;> rfl
theorem li_mem {s : ID β} {n : Nat} : n ∈ s.map (·.1) ↔ li s n ≠ none := by
  rw [Ne, li_none, List.any_eq_false]
  constructor
  · intro h z
    obtain ⟨p, hp, rfl⟩ := List.mem_map.mp h
    exact z p hp (by simp)
  · intro h
    refine Classical.byContradiction fun z => h fun p hp w => z ?_
    rw [← eq_of_beq w]
    exact List.mem_map.mpr ⟨p, hp, rfl⟩
theorem keys_nd {s : ID β} (h : (s.map (·.1)).Nodup) (n : Nat) (x : β) : ((pi s n x).map (·.1)).Nodup := by
  rw [keys_pi]
  split
  · rename_i z
    rw [List.nodup_append]
    refine ⟨h, by simp, fun a ha b hb e => li_mem.mp ha ?_⟩
    rw [List.mem_singleton.mp hb] at e
    rw [e]; exact z
  · exact h
theorem len_subG {α : Type} [DecidableEq α] : ∀ (B L : List α), B.Nodup → (∀ b ∈ B, b ∈ L) → B.length ≤ L.length
  | [], _, _, _ => Nat.zero_le _
  | b :: B, L, h, hs => by
    obtain ⟨h1, h2⟩ := List.nodup_cons.mp h
    have hb := hs b (by simp)
    have ih := len_subG B (L.erase b) h2 fun x hx => (List.mem_erase_of_ne (fun e => h1 (by rw [← e]; exact hx))).mpr (hs x (by simp [hx]))
    rw [List.length_erase_of_mem hb] at ih
    have : 0 < L.length := List.length_pos_of_mem hb
    rw [List.length_cons]
    omega
theorem keys_lt {s : ID β} (h : (s.map (·.1)).Nodup) {n : Nat} (hs : ∀ m ∈ s.map (·.1), m < n) : s.length ≤ n := by
  have := len_subG _ (List.range n) h fun b hb => List.mem_range.mpr (hs b hb)
  rwa [List.length_map, List.length_range] at this
end

@[simp] theorem mDc_at (it : WD.Env → Res (List D)) (g : D → WD.Env → Option WD.Env) (t : WD.Env → Res Bool) (mk mv : WD.Env → Res D) (vs : List Nat) (ρ : WD.Env) : mDc it g t mk mv vs ρ = (it ρ).bind fun ds => noErr (compDL g t mk mv (forget vs ρ) ds []) := rfl
@[simp] theorem mAsgD_at (i : Nat) (m : WD.Env → Res (List (D × D))) (ρ : WD.Env) : mAsgD i m ρ = (m ρ).out fun ds => .nx (ρ.set i (some (.dict ds))) := rfl
theorem mSortD_at (m : WD.Env → Res D) (ρ : WD.Env) : mSortD m ρ = (m ρ).bind fun d => match d with
  | .dict ds => (ofO (keyIs ds)).bind fun ks => if ks.length < 64 then .ok ((srtI ks).map PyData.int) else .stk
  | _ => .stk := rfl
theorem keyIs_dI {β : Type} (df : β → D) : ∀ s : ID β, keyIs (dI df s) = some (s.map fun p => (p.1 : Int))
  | [] => rfl
  | p :: s => by
    show (keyIs (dI df s)).map _ = _
    rw [keyIs_dI df s]; rfl
theorem srt_nat (xs : List Nat) : ∃ L : List Nat, srtI (xs.map fun i : Nat => (i : Int)) = L.map (fun i : Nat => (i : Int)) ∧ (∀ m, m ∈ L ↔ m ∈ xs) ∧ L.length = xs.length := by
  have p := srtI_perm (xs.map fun i : Nat => (i : Int))
  generalize srtI (xs.map fun i : Nat => (i : Int)) = R at p
  have hR : ∀ z ∈ R, ∃ m ∈ xs, z = (m : Int) := fun z hz => by
    obtain ⟨m, hm, e⟩ := List.mem_map.mp (p.mem_iff.mp hz)
    exact ⟨m, hm, e.symm⟩
  refine ⟨R.map Int.toNat, ?_, fun m => ?_, ?_⟩
  · rw [List.map_map]
    refine (List.map_id R).symm.trans (List.map_congr_left fun z hz => ?_)
    obtain ⟨m, _, e⟩ := hR z hz
    rw [e]; simp
  · constructor
    · intro h
      obtain ⟨z, hz, e⟩ := List.mem_map.mp h
      obtain ⟨k, hk, e2⟩ := hR z hz
      rw [e2] at e
      have : k = m := by simpa using e
      rw [← this]; exact hk
    · intro h
      exact List.mem_map.mpr ⟨(m : Int), p.mem_iff.mpr (List.mem_map.mpr ⟨m, h, rfl⟩), by simp⟩
  · rw [List.length_map, p.length_eq, List.length_map]
theorem forL_rt {g : D → WD.Env → Option WD.Env} {b : WD.Env → Out} {d : D} {ds : List D} {ρ ρ1 : WD.Env} {x : D} (h1 : g d ρ = some ρ1) (h2 : b ρ1 = .rt x) : forL g b (d :: ds) ρ = .rt x := by
  unfold forL
  rw [h1]
  simp only [h2]
theorem rngD_cons (k : Int) (n : Nat) : rngD k (n + 1) = .int k :: rngD (k + 1) n := by
  unfold rngD
  rw [List.range_succ_eq_map, List.map_cons, List.map_map]
  refine List.cons_eq_cons.mpr ⟨by simp, ?_⟩
  apply List.map_congr_left
  intro i _
  show PyData.int _ = PyData.int _
  congr 1
  show k + ((i + 1 : Nat) : Int) = k + 1 + (i : Int)
  omega
theorem pickS {L : List (List Nat)} {n : Nat} (hL : L.length = n) (hn : 0 < n) (d : Int) : ∃ t, atD (.list (L.map S)) (.int (d % (n : Nat))) = .ok (S t) := by
  obtain ⟨k, hk, hd⟩ : ∃ k : Nat, k < n ∧ d % (n : Int) = (k : Int) := ⟨(d % (n : Int)).toNat, by have := Int.emod_lt_of_pos d (show (0 : Int) < n by omega); have := Int.emod_nonneg d (show (n : Int) ≠ 0 by omega); omega, by have := Int.emod_nonneg d (show (n : Int) ≠ 0 by omega); omega⟩
  refine ⟨L[k], ?_⟩
  rw [hd]
  exact atD_list (by rw [List.getElem?_map, List.getElem?_eq_getElem (by omega)]; rfl)
theorem isx2 {cn T : Str} {b : Bool} {d : D} {ρ : WD.Env} (h : (ρ[2]?).join = some d) (ht : tb_i cn T = some b) : mIsX tb_i cn T 2 ρ = .ok (.bool b) := by
  unfold mIsX
  rw [h]
  simp only [ht, ofO_some, bind_okR]
theorem xfc2 {cn f : Str} {fs : List (Str × D)} {x : D} {ρ : WD.Env} (h : (ρ[2]?).join = some (xD fs)) (hc : c_cs.contains cn = true) (hl : fs.lookup f = some x) : mXfc c_cs cn 2 f ρ = .ok x := by
  unfold mXfc
  rw [if_pos hc]
  unfold mXf
  rw [h]
  exact (congrArg ofO (xd_find fs f)).trans (by rw [hl]; rfl)
@[simp] theorem mAsgO_at (i : Nat) (m : WD.Env → Res D) (ρ : WD.Env) : mAsgO i m ρ = (m ρ).out fun d => if litD d = true then .stk else .nx (ρ.set i (some d)) := rfl
@[simp] theorem mDict_at (m : WD.Env → Res (List (D × D))) (ρ : WD.Env) : mDict m ρ = (m ρ).bind fun ds => .ok (.dict ds) := rfl
@[simp] theorem mDcp_at (m : WD.Env → Res D) (ρ : WD.Env) : mDcp m ρ = (m ρ).bind dctD := rfl
@[simp] theorem dctD_dict (ds : List (D × D)) : dctD (.dict ds) = .ok ds := rfl
@[simp] theorem mLit_at (m : WD.Env → Res D) (ρ : WD.Env) : mLit m ρ = (m ρ).bind fun d => if litD d = true then .ok d else .stk := rfl
@[simp] theorem mStar2_at (ma mb : WD.Env → Res D) (ρ : WD.Env) : mStar2 ma mb ρ = (ma ρ).bind fun x => (dctD x).bind fun ds => (mb ρ).bind fun y => (dctD y).bind fun es => if ds.length + es.length ≤ sizeLine then .ok (mrgD (mrgD [] ds) es) else .stk := rfl
@[simp] theorem litD_int (i : Int) : litD (.int i) = true := rfl
@[simp] theorem litD_dict (ds : List (D × D)) : litD (.dict ds) = false := rfl
@[simp] theorem lenD_dict (ds : List (D × D)) : lenD (.dict ds) = .ok (.int ds.length) := rfl

/-! fates by their lines, as data -/
abbrev Ft := ID Ed
abbrev fD (s : Ft) : D := .dict (dI edD s)
def FtOk (s : Ft) : Prop := (s.map (·.1)).Nodup ∧ ∀ m ∈ s.map (·.1), m < 40
theorem FtOk.len {s : Ft} (h : FtOk s) : s.length ≤ 40 := keys_lt h.1 h.2
theorem FtOk.nil : FtOk [] := ⟨List.nodup_nil, by simp⟩
theorem mem_pi {s : Ft} {n m : Nat} {x : Ed} (h : m ∈ (pi s n x).map (·.1)) : m = n ∨ m ∈ s.map (·.1) := by
  rw [keys_pi] at h
  split at h
  · rcases List.mem_append.mp h with h | h
    · exact .inr h
    · exact .inl (List.mem_singleton.mp h)
  · exact .inr h
theorem FtOk.pi {s : Ft} (h : FtOk s) {n : Nat} (hn : n < 40) (x : Ed) : FtOk (pi s n x) := ⟨keys_nd h.1 n x, fun m hm => by
  rcases mem_pi hm with rfl | q
  · exact hn
  · exact h.2 m q⟩
theorem li_of_mem {s : Ft} (h : (s.map (·.1)).Nodup) {p : Nat × Ed} (hp : p ∈ s) : li s p.1 = some p.2 := by
  induction s with
  | nil => simp at hp
  | cons q s ih =>
    rw [List.map_cons, List.nodup_cons] at h
    unfold li
    rw [List.find?_cons]
    rcases List.mem_cons.mp hp with e | e
    · subst e; simp
    · have : (q.1 == p.1) = false := beq_eq_false_iff_ne.mpr fun z => h.1 (by rw [z]; exact List.mem_map.mpr ⟨p, e, rfl⟩)
      rw [this]
      exact ih h.2 e
/-! == of fates -/
theorem eqv_Ss : ∀ a b : List (List Nat), PyData.eqvAll (a.map S) (b.map S) = decide (a = b)
  | [], [] => by simp [PyData.eqvAll]
  | [], _ :: _ => by simp [PyData.eqvAll]
  | _ :: _, [] => by simp [PyData.eqvAll]
  | x :: a, y :: b => by
    have ih := eqv_Ss a b
    have h := eqv_S x y
    rw [List.map_cons, List.map_cons]
    simp only [PyData.eqvAll, ih, h]
    by_cases e1 : x = y <;> by_cases e2 : a = b <;> simp [e1, e2]
theorem eqv_ed (e e' : Ed) : PyData.eqv (edD e) (edD e') = decide (e = e') := by
  have h1 := eqv_Ss e.a e'.a
  have h2 := eqv_ch e.c e'.c
  have h3 := eqv_Ss e.b e'.b
  obtain ⟨a, c, b⟩ := e
  obtain ⟨a', c', b'⟩ := e'
  simp only at h1 h2 h3
  show PyData.eqv (.tuple [.tuple (a.map S), chD c, .tuple (b.map S)]) (.tuple [.tuple (a'.map S), chD c', .tuple (b'.map S)]) = _
  simp only [PyData.eqv, PyData.eqvAll, h1, h2, h3, Ed.mk.injEq]
  by_cases e1 : a = a' <;> by_cases e2 : c = c' <;> by_cases e3 : b = b' <;> simp [e1, e2, e3]
theorem neD_ed (e e' : Ed) : neD (edD e) (edD e') = .ok (.bool (!decide (e = e'))) := by
  rw [neD_is (plain_ed 38 e) (plain_ed 38 e'), eqv_ed]
theorem plainK_dI (s : Ft) : plainK (dI edD s) = true := by
  unfold plainK dI
  rw [List.all_eq_true]
  intro p hp
  obtain ⟨q, _, rfl⟩ := List.mem_map.mp hp
  exact plain_ed 28 q.2
theorem eqK_dI (t : Ft) : ∀ s : Ft, (∀ p ∈ s, li t p.1 = some p.2) → eqK (dI edD t) (dI edD s) = true
  | [], _ => rfl
  | p :: s, h => by
    have ih := eqK_dI t s fun q hq => h q (by simp [hq])
    have hv := valD_dI edD t p.1
    rw [h p (by simp)] at hv
    show (match keyOf (.int (p.1 : Nat)) with
      | some k => (match valD (dI edD t) k with
        | some d => PyData.eqv (edD p.2) d && eqK (dI edD t) (dI edD s)
        | none => false)
      | none => false) = true
    rw [keyOf_int]
    simp only [hv, Option.map_some, ih, eqv_ed]
    simp
theorem eqKL_dI {s t : Ft} (hl : s.length = t.length) (h : ∀ p ∈ s, li t p.1 = some p.2) : eqKL (dI edD s) (dI edD t) = true := by
  unfold eqKL
  rw [eqK_dI t s h]
  simp [dI, hl]
theorem intK_dI (s : Ft) : intK (dI edD s) = true := by
  unfold intK dI
  rw [List.all_eq_true]
  intro p hp
  obtain ⟨q, _, rfl⟩ := List.mem_map.mp hp
  rfl
theorem dctOk_dI {s : Ft} (h : FtOk s) : dctOk (fD s) = true := by
  show (plainK (dI edD s) && (eqKL (dI edD s) (dI edD s) && intK (dI edD s))) = true
  rw [plainK_dI, intK_dI, eqKL_dI rfl fun p hp => li_of_mem h.1 hp]
  rfl
/-! put together -/
def mrgI (s t : Ft) : Ft := t.foldl (fun acc p => pi acc p.1 p.2) s
theorem mrgD_dI : ∀ (t s : Ft), mrgD (dI edD s) (dI edD t) = dI edD (mrgI s t)
  | [], s => rfl
  | p :: t, s => by
    have e : mrgD (dI edD s) (dI edD (p :: t)) = mrgD (putD (dI edD s) (.inl (p.1 : Int)) (edD p.2)) (dI edD t) := rfl
    rw [e, putD_dI, mrgD_dI t (pi s p.1 p.2)]
    rfl
theorem li_cons (p : Nat × Ed) (t : Ft) (n : Nat) : li (p :: t) n = if p.1 = n then some p.2 else li t n := by
  unfold li
  rw [List.find?_cons]
  by_cases h : p.1 = n
  · rw [if_pos h]; simp [h]
  · rw [if_neg h]
    have : (p.1 == n) = false := beq_eq_false_iff_ne.mpr h
    rw [this]
def orE (a b : Option Ed) : Option Ed := match a with
  | some x => some x
  | none => b
theorem li_mrg : ∀ (t s : Ft) (n : Nat), (t.map (·.1)).Nodup → li (mrgI s t) n = orE (li t n) (li s n)
  | [], s, n, _ => rfl
  | p :: t, s, n, h => by
    rw [List.map_cons, List.nodup_cons] at h
    have e : mrgI s (p :: t) = mrgI (pi s p.1 p.2) t := rfl
    rw [e, li_mrg t (pi s p.1 p.2) n h.2, li_cons, li_pi]
    by_cases q : p.1 = n
    · have hn : li t n = none := by
        cases z : li t n with
        | none => rfl
        | some x => exact absurd (li_mem.mpr (by rw [z]; simp)) (by rw [← q]; exact h.1)
      rw [hn, if_pos q, if_pos q.symm]; rfl
    · rw [if_neg q, if_neg fun z => q z.symm]
theorem FtOk.mrg : ∀ {t s : Ft}, FtOk s → (∀ m ∈ t.map (·.1), m < 40) → FtOk (mrgI s t)
  | [], s, h, _ => h
  | p :: t, s, h, ht => FtOk.mrg (t := t) (h.pi (ht p.1 (by simp)) p.2) fun m hm => ht m (by simp at hm ⊢; exact .inr hm)
/-! the first line on which they disagree -/
def conf (s t : Ft) (n : Nat) : Bool := match li s n, li t n with
  | some x, some y => !decide (x = y)
  | _, _ => false
theorem conf_comm (s t : Ft) (n : Nat) : conf s t n = conf t s n := by
  unfold conf
  cases li s n <;> cases li t n <;> simp [eq_comm]
theorem conf_mem {s t : Ft} {n : Nat} (h : conf s t n = true) : n ∈ s.map (·.1) := by
  rw [li_mem]
  intro z
  unfold conf at h
  rw [z] at h; cases h
/-- what stands first in an ascending row -/
theorem find_least (p : Nat → Bool) : ∀ (L : List Nat), L.Pairwise (· ≤ ·) → (∀ n, p n = true → n ∈ L) → ∀ n, L.find? p = some n ↔ p n = true ∧ ∀ m, p m = true → n ≤ m := by
  intro L hs hm n
  constructor
  · intro h
    have hn := List.find?_some h
    refine ⟨hn, fun m hp => ?_⟩
    have hmL := hm m hp
    clear hm
    induction L with
    | nil => simp at hmL
    | cons a L ih =>
      rw [List.pairwise_cons] at hs
      rw [List.find?_cons] at h
      cases q : p a with
      | true =>
        rw [q] at h
        cases h
        rcases List.mem_cons.mp hmL with e | e
        · exact Nat.le_of_eq e.symm
        · exact hs.1 m e
      | false =>
        rw [q] at h
        rcases List.mem_cons.mp hmL with e | e
        · rw [e, q] at hp; cases hp
        · exact ih hs.2 h e
  · intro ⟨hp, hl⟩
    cases h : L.find? p with
    | none =>
      have := List.find?_eq_none.mp h n (hm n hp)
      exact absurd hp this
    | some m =>
      have h2 := List.find?_some h
      have h3 := hl m h2
      have h4 : m ≤ n := by
        have hnL := hm n hp
        clear hm hl
        induction L with
        | nil => simp at hnL
        | cons a L ih =>
          rw [List.pairwise_cons] at hs
          rw [List.find?_cons] at h
          cases q : p a with
          | true =>
            rw [q] at h
            cases h
            rcases List.mem_cons.mp hnL with e | e
            · exact Nat.le_of_eq e.symm
            · exact hs.1 n e
          | false =>
            rw [q] at h
            rcases List.mem_cons.mp hnL with e | e
            · rw [e, q] at hp; cases hp
            · exact ih hs.2 h e
      rw [Nat.le_antisymm h3 h4]
theorem find_same (p : Nat → Bool) {L L' : List Nat} (h1 : L.Pairwise (· ≤ ·)) (h2 : L'.Pairwise (· ≤ ·)) (m1 : ∀ n, p n = true → n ∈ L) (m2 : ∀ n, p n = true → n ∈ L') : L.find? p = L'.find? p := by
  have a := find_least p L h1 m1
  have b := find_least p L' h2 m2
  cases h : L.find? p with
  | some n => exact ((b n).mpr ((a n).mp h)).symm
  | none =>
    cases h' : L'.find? p with
    | none => rfl
    | some n => rw [(a n).mpr ((b n).mp h')] at h; cases h
theorem srt_asc (xs : List Nat) : ∃ L : List Nat, srtI (xs.map fun i : Nat => (i : Int)) = L.map (fun i : Nat => (i : Int)) ∧ (∀ m, m ∈ L ↔ m ∈ xs) ∧ L.length = xs.length ∧ L.Pairwise (· ≤ ·) ∧ (xs.Nodup → L.Nodup) := by
  obtain ⟨L, h1, h2, h3⟩ := srt_nat xs
  have hs : (srtI (xs.map fun i : Nat => (i : Int))).Pairwise (fun a b => decide (a ≤ b) = true) := by
    unfold srtI
    exact List.pairwise_mergeSort (le := fun (i j : Int) => decide (i ≤ j)) (fun (a b c : Int) h1 h2 => decide_eq_true (Int.le_trans (of_decide_eq_true h1) (of_decide_eq_true h2))) (fun (a b : Int) => by rcases Int.le_total a b with h | h <;> simp [h]) _
  have hp := srtI_perm (xs.map fun i : Nat => (i : Int))
  refine ⟨L, h1, h2, h3, ?_, fun hn => ?_⟩
  · rw [h1, List.pairwise_map] at hs
    exact hs.imp fun h => by have := of_decide_eq_true h; omega
  · rw [h1] at hp
    have : (L.map fun i : Nat => (i : Int)).Nodup := hp.nodup_iff.mpr (List.pairwise_map.mpr (hn.imp fun h z => h (by omega)))
    exact (List.pairwise_map.mp this).imp fun h z => h (by rw [z])

theorem sort_is {s : Ft} (h : FtOk s) : ∃ L : List Nat, L.Pairwise (· ≤ ·) ∧ L.Nodup ∧ (∀ m, m ∈ L ↔ m ∈ s.map (·.1)) ∧ L.length = s.length ∧ ∀ (m : WD.Env → Res D) (ρ : WD.Env), m ρ = .ok (fD s) → mSortD m ρ = .ok (L.map fun n : Nat => PyData.int (n : Int)) := by
  obtain ⟨L, h1, h2, h3, h4, h5⟩ := srt_asc (s.map (·.1))
  refine ⟨L, h4, h5 h.1, h2, by rw [h3, List.length_map], fun m ρ hm => ?_⟩
  have hk := keyIs_dI edD s
  have e4 : (s.map fun p => (p.1 : Int)) = (s.map (·.1)).map fun i : Nat => (i : Int) := by rw [List.map_map]; rfl
  rw [e4] at hk
  have hl := h.len
  have hlen : ((s.map (·.1)).map fun i : Nat => (i : Int)).length < 64 := by rw [List.length_map, List.length_map]; omega
  have hmm : (srtI ((s.map (·.1)).map fun i : Nat => (i : Int))).map PyData.int = L.map fun m : Nat => PyData.int (m : Int) := by rw [h1, List.map_map]; rfl
  rw [mSortD_at, hm]
  simp only [bind_okR, hk, ofO_some, if_pos hlen, hmm]
/-! what the law draws -/
theorem fates_turn (NS : D) (ns : List Int) (hNS : NS = .list (ns.map PyData.int)) (a k : Nat) (hk : k < 12) (s : Ft) (hs : FtOk s) (x4 x5 x6 x7 : Option D) :
    ∃ s' y4 y5 y6 y7, FtOk s' ∧ lb__law_fates_0 [some NS, some (.int (a : Nat)), some (fD s), some (.int (k : Nat)), x4, x5, x6, x7] = .nx [some NS, some (.int (a : Nat)), some (fD s'), some (.int (k : Nat)), y4, y5, y6, y7] := by
  have hc : m__law_cell [NS, .int ((a : Int) + (k : Int))] = .ok (.int ((ns[a + k]?).getD 0)) := by rw [hNS]; simpa using law_cell ns (a + k)
  generalize ((ns[a + k]?).getD 0) = c at hc
  obtain ⟨ds, hds, hl, -⟩ := law_draws c 4 (by omega)
  have hds : m__law_draws [.int c, .int 4] = .ok (.list (ds.map PyData.int)) := hds
  obtain ⟨dd, I⟩ : ∃ dd : Nat → Int, ∀ k : Nat, k < 4 → atD (.list (List.map PyData.int ds)) (.int k) = .ok (.int (dd k)) := ⟨fun k => ds.getD k 0, fun k hk => by
    obtain ⟨x, hx, _⟩ := get_some (l := ds) (k := k) (by omega)
    rw [ints_at hx]
    show _ = Res.ok (PyData.int (ds.getD k 0))
    rw [List.getD_eq_getElem?_getD, hx]
    rfl⟩
  generalize hDD : (PyData.list (List.map PyData.int ds)) = DD at *
  have i0 : atD DD (.int 0) = .ok (.int (dd 0)) := I 0 (by omega)
  have i1 : atD DD (.int 1) = .ok (.int (dd 1)) := I 1 (by omega)
  have i2 : atD DD (.int 2) = .ok (.int (dd 2)) := I 2 (by omega)
  have i3 : atD DD (.int 3) = .ok (.int (dd 3)) := I 3 (by omega)
  have small : ∀ n : Nat, n ≤ 8 → n ≤ sizeLine := fun n hn => by rw [sl_eq]; omega
  obtain ⟨t, ht⟩ := pickS (L := [[120], [], [121, 32, 122]]) (n := 3) rfl (by omega) (dd 2)
  have ht : atD (.list [S [120], S [], S [121, 32, 122]]) (.int (dd 2 % 3)) = .ok (S t) := ht
  obtain ⟨ch, hch⟩ : ∃ ch : Ch, atD (.list [chD .keep, chD .drop, chD (.text t)]) (.int (dd 1 % 3)) = .ok (chD ch) := by
    obtain ⟨k, hk, hd⟩ : ∃ k : Nat, k < 3 ∧ dd 1 % 3 = (k : Int) := ⟨(dd 1 % 3).toNat, by omega, by omega⟩
    rw [hd]
    match k, hk with
    | 0, _ => exact ⟨_, atD_list rfl⟩
    | 1, _ => exact ⟨_, atD_list rfl⟩
    | 2, _ => exact ⟨_, atD_list rfl⟩
  have hch : atD (.list [.tuple [S [107, 101, 101, 112]], .tuple [S [100, 114, 111, 112]], .tuple [S [116, 101, 120, 116], S t]]) (.int (dd 1 % 3)) = .ok (chD ch) := hch
  obtain ⟨bh, hbh⟩ : ∃ bh : List Tx, atD (.list [.tuple [], .tuple [S t], .tuple [S [97], S t]]) (.int (dd 3 % 3)) = .ok (.tuple (bh.map S)) := by
    obtain ⟨k, hk, hd⟩ : ∃ k : Nat, k < 3 ∧ dd 3 % 3 = (k : Int) := ⟨(dd 3 % 3).toNat, by omega, by omega⟩
    rw [hd]
    match k, hk with
    | 0, _ => exact ⟨[], atD_list rfl⟩
    | 1, _ => exact ⟨[t], atD_list rfl⟩
    | 2, _ => exact ⟨[[97], t], atD_list rfl⟩
  have n1 := neD_ch ch .keep
  have n1 : neD (chD ch) (.tuple [S [107, 101, 101, 112]]) = .ok (.bool (!decide (ch = .keep))) := n1
  have lb : lenD (.tuple (bh.map S)) = .ok (.int (bh.length : Nat)) := by rw [lenD_tuple, List.length_map]
  have m3 : ((k : Int) * 3) = ((k * 3 : Nat) : Int) := by omega
  have hmul : mulD (.int (k : Nat)) (.int 3) = .ok (.int ((k * 3 : Nat) : Int)) := by rw [mulD_int (by unfold CMul; omega), m3]
  have kk : keyOf (.int ((k * 3 : Nat) : Int)) = some (.inl ((k * 3 : Nat) : Int)) := rfl
  have hlen := hs.len
  have sl : (dI edD s).length < sizeLine := by unfold dI; rw [List.length_map]; exact sl5' _ (by omega)
  have hp := putD_dI edD s (k * 3) ⟨[], ch, bh⟩
  have hp : putD (dI edD s) (.inl ((k * 3 : Nat) : Int)) (.tuple [.tuple [], chD ch, .tuple (bh.map S)]) = dI edD (pi s (k * 3) ⟨[], ch, bh⟩) := hp
  have key : ∀ w : Bool, ∃ s' : Ft, FtOk s' ∧ dI edD s' = if w = true then dI edD (pi s (k * 3) ⟨[], ch, bh⟩) else dI edD s := fun w => by
    cases w with
    | true => exact ⟨_, hs.pi (by omega) _, rfl⟩
    | false => exact ⟨s, hs, rfl⟩
  obtain ⟨s', hs', e'⟩ := key (decide (dd 0 % 3 = 0) && (!decide (ch = .keep) || decide (0 < bh.length)))
  refine ⟨s', some DD, some (S t), some (chD ch), some (.tuple (bh.map S)), hs', ?_⟩
  show lb__law_fates_0 [some NS, some (.int (a : Nat)), some (.dict (dI edD s)), some (.int (k : Nat)), x4, x5, x6, x7] = Out.nx [some NS, some (.int (a : Nat)), some (.dict (dI edD s')), some (.int (k : Nat)), _, _, _, _]
  rw [e']
  have s3 : 3 ≤ sizeLine := small 3 (by omega)
  generalize dI edD (pi s (k * 3) ⟨[], ch, bh⟩) = DS' at *
  generalize dI edD s = DS at *
  generalize bh.map S = BH at *
  clear m3 key e'
  generalize ((k * 3 : Nat) : Int) = K3 at *
  have g0 : ∀ b, decide (ch = .keep) = b → neD (chD ch) (.tuple [S [107, 101, 101, 112]]) = .ok (.bool (!b)) := fun b hb => by rw [n1, hb]
  clear n1
  generalize chD ch = CH at *
  unfold lb__law_fates_0
  refine seq_nx (ρ' := [some NS, some (.int (a : Nat)), some (.dict DS), some (.int (k : Nat)), some DD, x5, x6, x7]) (by simp -implicitDefEqProofs [hc, hds]) ?_
  refine seq_nx (ρ' := [some NS, some (.int (a : Nat)), some (.dict DS), some (.int (k : Nat)), some DD, some (S t), x6, x7]) (by simp -implicitDefEqProofs [i2, modD_int, small, ht]) ?_
  refine seq_nx (ρ' := [some NS, some (.int (a : Nat)), some (.dict DS), some (.int (k : Nat)), some DD, some (S t), some CH, x7]) (by simp -implicitDefEqProofs [i1, modD_int, small, hch]) ?_
  refine seq_nx (ρ' := [some NS, some (.int (a : Nat)), some (.dict DS), some (.int (k : Nat)), some DD, some (S t), some CH, some (.tuple BH)]) (by simp -implicitDefEqProofs [i3, modD_int, small, hbh]) ?_
  by_cases z0 : dd 0 % 3 = 0
  · rw [decide_eq_true z0, Bool.true_and]
    by_cases z1 : ch = .keep
    · have n1 := g0 true (decide_eq_true z1)
      rw [decide_eq_true z1]
      by_cases z2 : 0 < bh.length
      · have hg : gtI (bh.length : Int) 0 = true := by unfold gtI; exact decide_eq_true (by omega)
        rw [decide_eq_true z2]
        simp -implicitDefEqProofs [i0, modD_int, z0, n1, small, lb, hg, hmul, kk, sl, hp]
      · have hg : gtI (bh.length : Int) 0 = false := by unfold gtI; exact decide_eq_false (by omega)
        rw [decide_eq_false z2]
        simp -implicitDefEqProofs [i0, modD_int, z0, n1, small, lb, hg]
    · have n1 := g0 false (decide_eq_false z1)
      rw [decide_eq_false z1]
      simp -implicitDefEqProofs [i0, modD_int, z0, n1, small, hmul, kk, sl, hp]
  · rw [decide_eq_false z0, Bool.false_and]
    simp -implicitDefEqProofs [i0, modD_int, z0]
theorem fates_loop (NS : D) (ns : List Int) (hNS : NS = .list (ns.map PyData.int)) (a : Nat) : ∀ (n k : Nat) (s : Ft) (x3 x4 x5 x6 x7 : Option D), FtOk s → k + n = 12 →
    ∃ s' y3 y4 y5 y6 y7, FtOk s' ∧ forL (gSet 3) lb__law_fates_0 (rngD (k : Nat) n) [some NS, some (.int (a : Nat)), some (fD s), x3, x4, x5, x6, x7] = .nx [some NS, some (.int (a : Nat)), some (fD s'), y3, y4, y5, y6, y7]
  | 0, k, s, x3, x4, x5, x6, x7, hs, _ => ⟨s, x3, x4, x5, x6, x7, hs, rfl⟩
  | n + 1, k, s, x3, x4, x5, x6, x7, hs, hn => by
    obtain ⟨s1, y4, y5, y6, y7, h1, tn⟩ := fates_turn NS ns hNS a k (by omega) s hs x4 x5 x6 x7
    obtain ⟨s2, z3, z4, z5, z6, z7, h2, go⟩ := fates_loop NS ns hNS a n (k + 1) s1 (some (.int (k : Nat))) y4 y5 y6 y7 h1 (by omega)
    refine ⟨s2, z3, z4, z5, z6, z7, h2, ?_⟩
    have ej : ((k : Nat) : Int) + 1 = ((k + 1 : Nat) : Int) := by omega
    rw [← go, rngD_cons, ej]
    exact forL_go (gSet_at _ _ _) tn
theorem law_fates_is (ns : List Int) (a : Nat) : ∃ s, FtOk s ∧ m__law_fates [.list (ns.map PyData.int), .int (a : Nat)] = .ok (fD s) := by
  obtain ⟨s, y3, y4, y5, y6, y7, h1, go⟩ := fates_loop (.list (ns.map PyData.int)) ns rfl a 12 0 [] none none none none none FtOk.nil rfl
  refine ⟨s, h1, ?_⟩
  have go : forL (gSet 3) lb__law_fates_0 (rngD 0 12) [some (.list (ns.map PyData.int)), some (.int (a : Nat)), some (.dict []), none, none, none, none, none] = .nx [some (.list (ns.map PyData.int)), some (.int (a : Nat)), some (.dict (dI edD s)), y3, y4, y5, y6, y7] := go
  have hr : rng1D [.int 12] = .ok (rngD 0 12) := rng1D_int (by omega) (by omega)
  show _ = Res.ok (PyData.dict (dI edD s))
  unfold m__law_fates mkFn b__law_fates
  generalize ns.map PyData.int = NS at *
  generalize dI edD s = DS at *
  generalize rngD 0 12 = R at *
  simp -implicitDefEqProofs [hr, go]

/-! merge -/
def bothX (n : Nat) : Exn := ⟨"Both", [("line", .int (n : Nat))]⟩
theorem in_dI (t : Ft) (n : Nat) : inX (.int (n : Nat)) (fD t) = .ok (.bool (li t n).isSome) := by
  have h := valD_dI edD t n
  have k : keyOf (.int (n : Nat)) = some (.inl (n : Int)) := rfl
  show inX (.int (n : Nat)) (.dict (dI edD t)) = _
  rw [inX_dict, k]
  simp only [ofO_some, bind_okR, h, Option.isSome_map]
theorem at_dI {t : Ft} {n : Nat} {x : Ed} (hx : li t n = some x) : atX (fD t) (.int (n : Nat)) = .ok (edD x) := by
  have h := valD_dI edD t n
  have k : keyOf (.int (n : Nat)) = some (.inl (n : Int)) := rfl
  show atX (.dict (dI edD t)) (.int (n : Nat)) = _
  rw [atX_dict, k]
  simp only [ofO_some, bind_okR, h, hx, Option.map_some]
theorem mem_some {s : Ft} {n : Nat} (h : n ∈ s.map (·.1)) : ∃ x, li s n = some x := by
  have := li_mem.mp h
  cases z : li s n with
  | none => exact absurd z this
  | some x => exact ⟨x, rfl⟩
theorem merge_turn (s t : Ft) (n : Nat) (hn : n ∈ s.map (·.1)) (x3 : Option D) : lb_merge_0 [some (fD s), some (fD t), some (.int (n : Nat)), x3] = if conf s t n = true then .err (bothX n) else .nx [some (fD s), some (fD t), some (.int (n : Nat)), x3] := by
  obtain ⟨x, hx⟩ := mem_some hn
  have i1 := in_dI t n
  have a1 := at_dI hx
  have hb : bothX n = ⟨"Both", ([("line" : Str)].zip [PyData.int (n : Nat)]).reverse⟩ := rfl
  rw [hb]
  unfold conf
  rw [hx]
  cases hy : li t n with
  | none =>
    rw [hy] at i1
    have i1 : inX (.int (n : Nat)) (fD t) = .ok (.bool false) := i1
    show _ = if false = true then _ else _
    rw [if_neg (by simp)]
    unfold lb_merge_0
    generalize fD s = DS at *
    generalize fD t = DT at *
    generalize ((n : Nat) : Int) = N at *
    simp -implicitDefEqProofs [i1]
  | some y =>
    rw [hy] at i1
    have i1 : inX (.int (n : Nat)) (fD t) = .ok (.bool true) := i1
    have a2 := at_dI hy
    have n1 := neD_ed x y
    show _ = if (!decide (x = y)) = true then _ else _
    unfold lb_merge_0
    generalize fD s = DS at *
    generalize fD t = DT at *
    generalize ((n : Nat) : Int) = N at *
    by_cases z : x = y
    · rw [decide_eq_true z] at n1 ⊢
      rw [if_neg (by simp)]
      generalize edD x = EX at *
      generalize edD y = EY at *
      simp -implicitDefEqProofs [i1, a1, a2, n1]
    · rw [decide_eq_false z] at n1 ⊢
      rw [if_pos (by simp)]
      generalize edD x = EX at *
      generalize edD y = EY at *
      simp -implicitDefEqProofs [i1, a1, a2, n1]
abbrev intN (n : Nat) : D := .int (n : Nat)
theorem merge_loop (s t : Ft) (x3 : Option D) : ∀ (L : List Nat) (x2 : Option D), (∀ n ∈ L, n ∈ s.map (·.1)) →
    (L.find? (conf s t) = none → ∃ y2, forL (gSet 2) lb_merge_0 (L.map intN) [some (fD s), some (fD t), x2, x3] = .nx [some (fD s), some (fD t), y2, x3]) ∧
    ∀ n, L.find? (conf s t) = some n → forL (gSet 2) lb_merge_0 (L.map intN) [some (fD s), some (fD t), x2, x3] = .err (bothX n)
  | [], x2, _ => ⟨fun _ => ⟨x2, rfl⟩, fun n h => by simp at h⟩
  | m :: L, x2, hL => by
    have tn := merge_turn s t m (hL m (by simp)) x3
    obtain ⟨i1, i2⟩ := merge_loop s t x3 L (some (.int (m : Nat))) fun n hn => hL n (by simp [hn])
    rw [List.find?_cons, List.map_cons]
    cases hc : conf s t m with
    | true =>
      rw [hc, if_pos rfl] at tn
      refine ⟨fun h => (by cases h), fun n h => ?_⟩
      cases h
      exact forL_stop (gSet_at _ _ _) tn
    | false =>
      rw [hc, if_neg (by simp)] at tn
      refine ⟨fun h => ?_, fun n h => ?_⟩
      · obtain ⟨y2, go⟩ := i1 h
        exact ⟨y2, by rw [← go]; exact forL_go (ρ1 := [some (fD s), some (fD t), some (.int (m : Nat)), x3]) rfl tn⟩
      · rw [← i2 n h]
        exact forL_go (ρ1 := [some (fD s), some (fD t), some (.int (m : Nat)), x3]) rfl tn
theorem comp_turn (A B : Option D) (M acc : Ft) (n : Nat) (x : Ed) (hx : li M n = some x) (L : List D) (hl : acc.length ≤ 1000) : compDL (gSet 2) mYes (mVar 2) (mBin atX (mVar 3) (mVar 2)) [A, B, none, some (fD M)] (.int (n : Nat) :: L) (dI edD acc) = compDL (gSet 2) mYes (mVar 2) (mBin atX (mVar 3) (mVar 2)) [A, B, none, some (fD M)] L (dI edD (pi acc n x)) := by
  have a1 := at_dI hx
  have k : keyOf (.int (n : Nat)) = some (.inl (n : Int)) := rfl
  have hp := putD_dI edD acc n x
  have sl : (dI edD acc).length < sizeLine := by unfold dI; rw [List.length_map]; exact sl5' _ (by omega)
  conv => lhs; unfold compDL
  rw [gSet_at]
  generalize dI edD (pi acc n x) = DP at *
  generalize dI edD acc = DA at *
  generalize fD M = DM at *
  generalize edD x = EX at *
  simp -implicitDefEqProofs [a1, k, hp, sl, noErr]
theorem comp_is (A B : Option D) (M : Ft) : ∀ (L : List Nat) (acc : Ft), (∀ n ∈ L, n ∈ M.map (·.1)) → (acc.map (·.1) ++ L).Nodup → acc.length + L.length ≤ 1000 →
    ∃ R : Ft, compDL (gSet 2) mYes (mVar 2) (mBin atX (mVar 3) (mVar 2)) [A, B, none, some (fD M)] (L.map intN) (dI edD acc) = .ok (dI edD R) ∧ R.map (·.1) = acc.map (·.1) ++ L ∧ ∀ n, li R n = if n ∈ L then li M n else li acc n
  | [], acc, _, _, _ => ⟨acc, rfl, by simp, fun n => by simp⟩
  | m :: L, acc, hL, hn, hl => by
    obtain ⟨x, hx⟩ := mem_some (hL m (by simp))
    have hma : m ∉ acc.map (·.1) := fun z => by
      rw [List.nodup_append] at hn
      exact hn.2.2 m z m (by simp) rfl
    have hla : li acc m = none := by
      cases z : li acc m with
      | none => rfl
      | some y => exact absurd (li_mem.mpr (by rw [z]; simp)) hma
    have hk : (pi acc m x).map (·.1) = acc.map (·.1) ++ [m] := by rw [keys_pi, if_pos hla]
    have hlen : (pi acc m x).length = acc.length + 1 := by
      have := congrArg List.length hk
      simpa using this
    rw [List.length_cons] at hl
    obtain ⟨R, h1, h2, h3⟩ := comp_is A B M L (pi acc m x) (fun n hn => hL n (by simp [hn])) (by rw [hk, List.append_assoc]; exact hn) (by omega)
    refine ⟨R, ?_, by rw [h2, hk, List.append_assoc]; rfl, fun n => ?_⟩
    · rw [List.map_cons, comp_turn A B M acc m x hx _ (by omega)]
      exact h1
    · rw [h3, li_pi]
      by_cases q : n ∈ L
      · rw [if_pos q, if_pos (by simp [q])]
      · rw [if_neg q]
        by_cases e : n = m
        · rw [if_pos e, if_pos (by simp [e]), e, hx]
        · rw [if_neg e, if_neg (by simp [q, e])]
/-- what merge gives -/
def MrgOk (s t R : Ft) : Prop := FtOk R ∧ R.length = (mrgI s t).length ∧ ∀ n, li R n = li (mrgI s t) n
theorem merge_is (s t : Ft) (hs : FtOk s) (ht : FtOk t) : ∃ L : List Nat, L.Pairwise (· ≤ ·) ∧ (∀ n, n ∈ L ↔ n ∈ s.map (·.1)) ∧
    (∀ n, L.find? (conf s t) = some n → m_merge [fD s, fD t] = .err (bothX n)) ∧ (L.find? (conf s t) = none → ∃ R, MrgOk s t R ∧ m_merge [fD s, fD t] = .ok (fD R)) := by
  obtain ⟨L, h1, h2, h3, h4, h5⟩ := sort_is hs
  refine ⟨L, h1, h3, ?_⟩
  obtain ⟨i1, i2⟩ := merge_loop s t none L none fun n hn => (h3 n).mp hn
  have e0 := h5 (mVar 0) [some (fD s), some (fD t), none, none] rfl
  have hL : (L.map fun n : Nat => PyData.int (n : Int)) = L.map intN := rfl
  rw [hL] at e0
  refine ⟨fun n hf => ?_, fun hf => ?_⟩
  · have go := i2 n hf
    unfold m_merge mkFn b_merge
    generalize fD s = DS at *
    generalize fD t = DT at *
    generalize L.map intN = LD at *
    simp -implicitDefEqProofs [e0, go]
  · obtain ⟨y2, go⟩ := i1 hf
    have hM := FtOk.mrg (t := t) hs ht.2
    obtain ⟨L', h1', h2', h3', h4', h5'⟩ := sort_is hM
    have lM := hM.len
    obtain ⟨R, r1, r2, r3⟩ := comp_is (some (fD s)) (some (fD t)) (mrgI s t) L' [] (fun n hn => (h3' n).mp hn) (by simpa using h2') (by simp; omega)
    have r2 : R.map (·.1) = L' := by simpa using r2
    have hR : MrgOk s t R := by
      refine ⟨⟨by rw [r2]; exact h2', fun m hm => hM.2 m ((h3' m).mp (by rw [← r2]; exact hm))⟩, ?_, fun n => ?_⟩
      · rw [← h4', ← r2, List.length_map]
      · rw [r3]
        by_cases q : n ∈ L'
        · rw [if_pos q]
        · rw [if_neg q]
          cases z : li (mrgI s t) n with
          | none => rfl
          | some x => exact absurd ((h3' n).mpr (li_mem.mpr (by rw [z]; simp))) q
    refine ⟨R, hR, ?_⟩
    have e1 := h5' (mVar 3) [some (fD s), some (fD t), y2, some (fD (mrgI s t))] rfl
    have hL' : (L'.map fun n : Nat => PyData.int (n : Int)) = L'.map intN := rfl
    rw [hL'] at e1
    have m1 : mrgD (mrgD [] (dI edD s)) (dI edD t) = dI edD (mrgI s t) := by
      have z : mrgD [] (dI edD s) = dI edD (mrgI [] s) := mrgD_dI s []
      have z2 : mrgI [] s = s := by
        have gen : ∀ (s acc : Ft), (acc.map (·.1) ++ s.map (·.1)).Nodup → mrgI acc s = acc ++ s := by
          intro s
          induction s with
          | nil => intro acc _; exact (List.append_nil _).symm
          | cons p s ih =>
            intro acc hn
            have hp : li acc p.1 = none := by
              cases z : li acc p.1 with
              | none => rfl
              | some y =>
                rw [List.nodup_append] at hn
                exact absurd rfl (hn.2.2 p.1 (li_mem.mpr (by rw [z]; simp)) p.1 (by simp))
            have e : pi acc p.1 p.2 = acc ++ [p] := by
              unfold pi
              rw [li_none.mp hp]
              rfl
            show mrgI (pi acc p.1 p.2) s = _
            rw [e, ih (acc ++ [p]) (by rw [List.map_append, List.append_assoc]; exact hn), List.append_assoc]
            rfl
        exact gen s [] (by simpa using hs.1)
      rw [z, z2, mrgD_dI]
    have ls := hs.len
    have lt := ht.len
    have sl : (dI edD s).length + (dI edD t).length ≤ sizeLine := by unfold dI; rw [List.length_map, List.length_map]; exact sl5 _ (by omega)
    have r1 : compDL (gSet 2) mYes (mVar 2) (mBin atX (mVar 3) (mVar 2)) [some (fD s), some (fD t), none, some (fD (mrgI s t))] (L'.map intN) [] = .ok (dI edD R) := r1
    show _ = Res.ok (PyData.dict (dI edD R))
    unfold m_merge mkFn b_merge
    have st : (mAsgD 3 (mStar2 (mVar 0) (mVar 1))) [some (fD s), some (fD t), y2, none] = .nx [some (fD s), some (fD t), y2, some (fD (mrgI s t))] := by
      show (mAsgD 3 (mStar2 (mVar 0) (mVar 1))) [some (.dict (dI edD s)), some (.dict (dI edD t)), y2, none] = .nx [some (.dict (dI edD s)), some (.dict (dI edD t)), y2, some (.dict (dI edD (mrgI s t)))]
      generalize dI edD (mrgI s t) = DM at *
      generalize dI edD s = DS at *
      generalize dI edD t = DT at *
      simp -implicitDefEqProofs [sl, m1]
    refine congrArg fnOut (a₂ := Out.rt (.dict (dI edD R))) ?_
    refine seq_nx (ρ' := [some (fD s), some (fD t), y2, none]) ?_ (seq_nx st ?_)
    · generalize fD s = DS at *
      generalize fD t = DT at *
      generalize L.map intN = LD at *
      simp -implicitDefEqProofs [e0, go]
    · generalize fD s = DS at *
      generalize fD t = DT at *
      generalize fD (mrgI s t) = DM at *
      generalize dI edD R = DR at *
      generalize L'.map intN = LD at *
      simp -implicitDefEqProofs [e1, r1, noErr]
theorem told_is (s t : Ft) {r : Res D} (h : m_merge [fD s, fD t] = r) : (∀ R, r = .ok (fD R) → m__law_told [fD s, fD t] = .ok (fD R)) ∧ ∀ n, r = .err (bothX n) → m__law_told [fD s, fD t] = .ok (.int (n : Nat)) := by
  refine ⟨fun R e => ?_, fun n e => ?_⟩
  · subst e
    unfold m__law_told mkFn b__law_told
    generalize fD s = DS at *
    generalize fD t = DT at *
    generalize fD R = DR at *
    simp -implicitDefEqProofs [mTry_at, h]
  · subst e
    have t0 : tb_x "Both" "Both" = some true := by decide +kernel
    have i1 := isx2 (cn := "Both") (T := "WeftError") (b := true) (ρ := [some (fD s), some (fD t), some (xD [("line", .int (n : Nat))])]) rfl (by decide +kernel)
    have i3 := isx2 (cn := "Both") (T := "ValueError") (b := true) (ρ := [some (fD s), some (fD t), some (xD [("line", .int (n : Nat))])]) rfl (by decide +kernel)
    have i2 := xfc2 (cn := "Both") (f := "line") (ρ := [some (fD s), some (fD t), some (xD [("line", .int (n : Nat))])]) rfl (by decide +kernel) rfl
    unfold bothX at h
    unfold m__law_told mkFn b__law_told
    generalize fD s = DS at *
    generalize fD t = DT at *
    simp -implicitDefEqProofs [mTry_at, hndl, t0, h, i1, i2, i3]

/-! the law -/
theorem set_turn (NS : D) (s t : Ft) (hs : FtOk s) (n : Nat) (hn : n ∈ s.map (·.1)) (ht : FtOk t) : ∃ t', FtOk t' ∧ lb_law_0 [some NS, some (fD s), some (fD t), some (.int (n : Nat)), none, none, none, none, none] = .nx [some NS, some (fD s), some (fD t'), some (.int (n : Nat)), none, none, none, none, none] := by
  obtain ⟨x, hx⟩ := mem_some hn
  have i1 := in_dI t n
  have a1 := at_dI hx
  have kk : keyOf (.int (n : Nat)) = some (.inl (n : Int)) := rfl
  have lt := ht.len
  have sl : (dI edD t).length < sizeLine := by unfold dI; rw [List.length_map]; exact sl5' _ (by omega)
  have hp := putD_dI edD t n x
  unfold lb_law_0
  cases hy : (li t n).isSome with
  | false =>
    rw [hy] at i1
    refine ⟨t, ht, ?_⟩
    generalize fD s = DS at *
    generalize fD t = DT at *
    generalize ((n : Nat) : Int) = N at *
    simp -implicitDefEqProofs [i1]
  | true =>
    rw [hy] at i1
    refine ⟨pi t n x, ht.pi (hs.2 n hn) x, ?_⟩
    show _ = Out.nx [some NS, some (fD s), some (.dict (dI edD (pi t n x))), some (.int (n : Nat)), none, none, none, none, none]
    rw [← hp]
    have i1 : inX (.int (n : Nat)) (.dict (dI edD t)) = .ok (.bool true) := i1
    show (mIfS (mTru (mBin inX (mVar 3) (mVar 2))) (mDPut 2 (mVar 3) (mBin atX (mVar 1) (mVar 3))) mNext) [some NS, some (fD s), some (.dict (dI edD t)), some (.int (n : Nat)), none, none, none, none, none] = _
    clear hp
    generalize fD s = DS at *
    generalize dI edD t = DT at *
    generalize edD x = EX at *
    have i1' : (ofO (keyOf (.int (n : Nat)))).bind (fun k => Res.ok (PyData.bool (valD DT k).isSome)) = .ok (.bool true) := i1
    have hv : (valD DT (.inl (n : Int))).isSome = true := by
      rw [kk] at i1'
      simpa using i1'
    generalize ((n : Nat) : Int) = N at *
    simp -implicitDefEqProofs [hv, a1, kk, sl]
theorem set_loop (NS : D) (s : Ft) (hs : FtOk s) : ∀ (L : List Nat) (t : Ft) (x3 : Option D), FtOk t → (∀ n ∈ L, n ∈ s.map (·.1)) → ∃ t' y3, FtOk t' ∧ forL (gSet 3) lb_law_0 (L.map intN) [some NS, some (fD s), some (fD t), x3, none, none, none, none, none] = .nx [some NS, some (fD s), some (fD t'), y3, none, none, none, none, none]
  | [], t, x3, ht, _ => ⟨t, x3, ht, rfl⟩
  | n :: L, t, x3, ht, hL => by
    obtain ⟨t1, h1, tn⟩ := set_turn NS s t hs n (hL n (by simp)) ht
    obtain ⟨t2, y3, h2, go⟩ := set_loop NS s hs L t1 (some (.int (n : Nat))) h1 fun m hm => hL m (by simp [hm])
    exact ⟨t2, y3, h2, by rw [← go, List.map_cons]; exact forL_go (ρ1 := [some NS, some (fD s), some (fD t), some (.int (n : Nat)), none, none, none, none, none]) rfl tn⟩
def dueI (o : Option Nat) : Int := match o with
  | none => -1
  | some n => (n : Nat)
def orN (d e : Option Nat) : Option Nat := match d with
  | some m => some m
  | none => e
theorem due_turn (NS : D) (s t : Ft) (n : Nat) (hn : n ∈ s.map (·.1)) (d : Option Nat) : lb_law_1 [some NS, some (fD s), some (fD t), some (.int (n : Nat)), some (.int (dueI d)), none, none, none, none] = .nx [some NS, some (fD s), some (fD t), some (.int (n : Nat)), some (.int (dueI (orN d (if conf s t n = true then some n else none)))), none, none, none, none] := by
  obtain ⟨x, hx⟩ := mem_some hn
  have i1 := in_dI t n
  have a1 := at_dI hx
  unfold lb_law_1
  cases d with
  | some m =>
    have hg : ltI (dueI (some m)) 0 = false := by unfold ltI dueI; exact decide_eq_false (by simp)
    have ho : orN (some m) (if conf s t n = true then some n else none) = some m := rfl
    rw [ho]
    generalize fD s = DS at *
    generalize fD t = DT at *
    generalize ((n : Nat) : Int) = N at *
    simp -implicitDefEqProofs [hg]
  | none =>
    have hg : ltI (dueI none) 0 = true := by decide
    show _ = Out.nx [_, _, _, _, some (.int (dueI (if conf s t n = true then some n else none))), _, _, _, _]
    unfold conf
    rw [hx]
    cases hy : li t n with
    | none =>
      rw [hy] at i1
      have i1 : inX (.int (n : Nat)) (fD t) = .ok (.bool false) := i1
      show _ = Out.nx [_, _, _, _, some (.int (dueI (if false = true then some n else none))), _, _, _, _]
      rw [if_neg (by simp)]
      generalize fD s = DS at *
      generalize fD t = DT at *
      generalize dueI none = DU at *
      generalize ((n : Nat) : Int) = N at *
      simp -implicitDefEqProofs [hg, i1]
    | some y =>
      rw [hy] at i1
      have i1 : inX (.int (n : Nat)) (fD t) = .ok (.bool true) := i1
      have a2 := at_dI hy
      have n1 := neD_ed x y
      show _ = Out.nx [_, _, _, _, some (.int (dueI (if (!decide (x = y)) = true then some n else none))), _, _, _, _]
      by_cases z : x = y
      · rw [decide_eq_true z] at n1 ⊢
        rw [if_neg (by simp)]
        generalize fD s = DS at *
        generalize fD t = DT at *
        generalize dueI none = DU at *
        generalize ((n : Nat) : Int) = N at *
        generalize edD x = EX at *
        generalize edD y = EY at *
        simp -implicitDefEqProofs [hg, i1, a1, a2, n1]
      · rw [decide_eq_false z] at n1 ⊢
        rw [if_pos (by simp)]
        have hd : dueI (some n) = ((n : Nat) : Int) := rfl
        rw [hd]
        generalize fD s = DS at *
        generalize fD t = DT at *
        generalize dueI none = DU at *
        generalize ((n : Nat) : Int) = N at *
        generalize edD x = EX at *
        generalize edD y = EY at *
        simp -implicitDefEqProofs [hg, i1, a1, a2, n1]
theorem due_loop (NS : D) (s t : Ft) : ∀ (L : List Nat) (d : Option Nat) (x3 : Option D), (∀ n ∈ L, n ∈ s.map (·.1)) → ∃ y3, forL (gSet 3) lb_law_1 (L.map intN) [some NS, some (fD s), some (fD t), x3, some (.int (dueI d)), none, none, none, none] = .nx [some NS, some (fD s), some (fD t), y3, some (.int (dueI (orN d (L.find? (conf s t))))), none, none, none, none]
  | [], d, x3, _ => ⟨x3, by cases d <;> rfl⟩
  | n :: L, d, x3, hL => by
    have tn := due_turn NS s t n (hL n (by simp)) d
    obtain ⟨y3, go⟩ := due_loop NS s t L (orN d (if conf s t n = true then some n else none)) (some (.int (n : Nat))) fun m hm => hL m (by simp [hm])
    refine ⟨y3, ?_⟩
    have e : orN (orN d (if conf s t n = true then some n else none)) (L.find? (conf s t)) = orN d ((n :: L).find? (conf s t)) := by
      cases d with
      | some m => rfl
      | none =>
        show orN (if conf s t n = true then some n else none) (L.find? (conf s t)) = (n :: L).find? (conf s t)
        rw [List.find?_cons]
        cases conf s t n <;> rfl
    rw [e] at go
    rw [← go, List.map_cons]
    exact forL_go (ρ1 := [some NS, some (fD s), some (fD t), some (.int (n : Nat)), some (.int (dueI d)), none, none, none, none]) rfl tn
def orO (a b : Option Ed) : D := match a with
  | some x => edD x
  | none => match b with
    | some y => edD y
    | none => .none
theorem orO_plain (a b : Option Ed) : plainD deep (orO a b) = true := by
  unfold orO
  cases a with
  | some x => exact plain_ed 38 x
  | none => cases b with
    | some y => exact plain_ed 38 y
    | none => exact plain_none _
theorem get_turn (NS D4 D5 D7 : D) (s t R : Ft) (n : Nat) (hR : ∀ n, orO (li R n) none = orO (li s n) (li t n)) (x8 : Option D) : lb_law_2 [some NS, some (fD s), some (fD t), some (.int (n : Nat)), some D4, some D5, some (fD R), some D7, x8] = .nx [some NS, some (fD s), some (fD t), some (.int (n : Nat)), some D4, some D5, some (fD R), some D7, some (orO (li s n) (li t n))] := by
  have vs := valD_dI edD s n
  have vt := valD_dI edD t n
  have vR := valD_dI edD R n
  have kk : keyOf (.int (n : Nat)) = some (.inl (n : Int)) := rfl
  have e1 : ((li s n).map edD).getD (((li t n).map edD).getD .none) = orO (li s n) (li t n) := by unfold orO; cases li s n <;> cases li t n <;> rfl
  have e2 : ((li R n).map edD).getD .none = orO (li s n) (li t n) := by rw [← hR n]; unfold orO; cases li R n <;> rfl
  have nn : neD (orO (li s n) (li t n)) (orO (li s n) (li t n)) = .ok (.bool false) := neD_self (orO_plain _ _)
  unfold lb_law_2
  show (mSeq _ _) [some NS, some (.dict (dI edD s)), some (.dict (dI edD t)), some (.int (n : Nat)), some D4, some D5, some (.dict (dI edD R)), some D7, x8] = .nx [some NS, some (.dict (dI edD s)), some (.dict (dI edD t)), some (.int (n : Nat)), some D4, some D5, some (.dict (dI edD R)), some D7, _]
  rw [← vs] at e1
  rw [← vt] at e1
  rw [← vR] at e2
  generalize orO (li s n) (li t n) = OO at *
  generalize dI edD s = DS at *
  generalize dI edD t = DT at *
  generalize dI edD R = DR at *
  clear vs vt vR
  generalize ((n : Nat) : Int) = N at *
  refine seq_nx (ρ' := [some NS, some (.dict DS), some (.dict DT), some (.int N), some D4, some D5, some (.dict DR), some D7, some OO]) (by simp -implicitDefEqProofs [kk, e1]) ?_
  simp -implicitDefEqProofs [kk, e2, nn]
theorem get_loop (NS D4 D5 D7 : D) (s t R : Ft) (hR : ∀ n, orO (li R n) none = orO (li s n) (li t n)) : ∀ (m k : Nat) (x3 x8 : Option D), ∃ y3 y8, forL (gSet 3) lb_law_2 (rngD (k : Nat) m) [some NS, some (fD s), some (fD t), x3, some D4, some D5, some (fD R), some D7, x8] = .nx [some NS, some (fD s), some (fD t), y3, some D4, some D5, some (fD R), some D7, y8]
  | 0, k, x3, x8 => ⟨x3, x8, rfl⟩
  | m + 1, k, x3, x8 => by
    have tn := get_turn NS D4 D5 D7 s t R k hR x8
    obtain ⟨y3, y8, go⟩ := get_loop NS D4 D5 D7 s t R hR m (k + 1) (some (.int (k : Nat))) (some (orO (li s k) (li t k)))
    refine ⟨y3, y8, ?_⟩
    have ej : ((k : Nat) : Int) + 1 = ((k + 1 : Nat) : Int) := by omega
    rw [← go, rngD_cons, ej]
    exact forL_go (ρ1 := [some NS, some (fD s), some (fD t), some (.int (k : Nat)), some D4, some D5, some (fD R), some D7, x8]) rfl tn
theorem eqLd_is (f : Bool) {s t : Ft} (hs : FtOk s) (ht : FtOk t) : eqLd f (.list [fD s, fD t]) (.list [fD s, fD t]) = .ok (.bool f) := by
  have h1 := sameL_refl [fD s, fD t]
  have h2 : [fD s, fD t].all dctOk = true := by
    rw [List.all_cons, List.all_cons, dctOk_dI hs, dctOk_dI ht]; rfl
  show (if sameL [fD s, fD t] [fD s, fD t] = true ∧ [fD s, fD t].all dctOk = true then _ else _) = _
  rw [if_pos ⟨h1, h2⟩]
theorem neX_is {R R' : Ft} (hl : R.length = R'.length) (h : ∀ p ∈ R, li R' p.1 = some p.2) : neX (fD R) (fD R') = .ok (.bool false) := by
  show (if plainK (dI edD R) = true ∧ plainK (dI edD R') = true then Res.ok (PyData.bool (!eqKL (dI edD R) (dI edD R'))) else .stk) = _
  rw [if_pos ⟨plainK_dI R, plainK_dI R'⟩, eqKL_dI hl h]
  rfl

theorem li_vals {s t R : Ft} (ht : FtOk t) (hR : MrgOk s t R) (n : Nat) : li R n = orE (li t n) (li s n) := by
  rw [hR.2.2, li_mrg t s n ht.1]
theorem agree {s t : Ft} (hc : ∀ n, conf s t n = false) {n : Nat} {x y : Ed} (hx : li s n = some x) (hy : li t n = some y) : x = y := by
  have := hc n
  unfold conf at this
  rw [hx, hy] at this
  simpa using this
theorem mrg_same {s t R R' : Ft} (hs : FtOk s) (ht : FtOk t) (hc : ∀ n, conf s t n = false) (h1 : MrgOk s t R) (h2 : MrgOk t s R') : ∀ n, li R n = li R' n := fun n => by
  rw [li_vals ht h1 n, li_vals hs h2 n]
  cases hx : li s n with
  | none => cases hy : li t n <;> rfl
  | some x =>
    cases hy : li t n with
    | none => rfl
    | some y => rw [agree hc hx hy]
theorem keys_same {R R' : Ft} (h : ∀ n, li R n = li R' n) (hR : FtOk R) (hR' : FtOk R') : R.length = R'.length := by
  have a : ∀ m, m ∈ R.map (·.1) ↔ m ∈ R'.map (·.1) := fun m => by rw [li_mem, li_mem, h m]
  have h1 := len_subG (R.map (·.1)) (R'.map (·.1)) hR.1 fun b hb => (a b).mp hb
  have h2 := len_subG (R'.map (·.1)) (R.map (·.1)) hR'.1 fun b hb => (a b).mpr hb
  rw [List.length_map, List.length_map] at h1 h2
  omega
theorem law_true (ns : List Int) (h : ns.length ≤ 63) : m_law [.list (ns.map PyData.int)] = .ok (.bool true) := by
  have c0 : m__law_cell [.list (ns.map PyData.int), .int 0] = .ok (.int ((ns[0]?).getD 0)) := law_cell ns 0
  generalize ((ns[0]?).getD 0) = z0 at *
  obtain ⟨s, hs, es⟩ := law_fates_is ns 1
  obtain ⟨t0, ht0, et⟩ := law_fates_is ns 14
  have es : m__law_fates [.list (ns.map PyData.int), .int 1] = .ok (fD s) := es
  have et : m__law_fates [.list (ns.map PyData.int), .int 14] = .ok (fD t0) := et
  obtain ⟨L, sL1, sL2, sL3, sL4, sL5⟩ := sort_is hs
  have hLm : ∀ n ∈ L, n ∈ s.map (·.1) := fun n hn => (sL3 n).mp hn
  have hLd : (L.map fun n : Nat => PyData.int (n : Int)) = L.map intN := rfl
  generalize hNS : (PyData.list (ns.map PyData.int)) = NS at *
  obtain ⟨t, y3, ht, st3⟩ : ∃ (t : Ft) (y3 : Option D), FtOk t ∧ mIfS (mTru (mBin eqD (mBin modD (mCall m__law_cell (mCons (mVar 0) (mCons (mC (.int 0)) mNil))) (mC (.int 2))) (mC (.int 0)))) (mFor (mIt (mList (mSortD (mVar 1)))) (gSet 3) lb_law_0) mNext [some NS, some (fD s), some (fD t0), none, none, none, none, none, none] = .nx [some NS, some (fD s), some (fD t), y3, none, none, none, none, none] := by
    obtain ⟨t, y3, h1, go⟩ := set_loop NS s hs L t0 none ht0 hLm
    have e0 := sL5 (mVar 1) [some NS, some (fD s), some (fD t0), none, none, none, none, none, none] rfl
    rw [hLd] at e0
    by_cases hz : z0 % 2 = 0
    · refine ⟨t, y3, h1, ?_⟩
      generalize fD s = DS at *
      generalize fD t0 = DT0 at *
      generalize fD t = DT at *
      generalize L.map intN = LD at *
      simp -implicitDefEqProofs [c0, modD_int, hz, e0, go]
    · refine ⟨t0, none, ht0, ?_⟩
      generalize fD s = DS at *
      generalize fD t0 = DT0 at *
      simp -implicitDefEqProofs [c0, modD_int, hz]
  obtain ⟨y3', go5⟩ := due_loop NS s t L none y3 hLm
  have go5 : forL (gSet 3) lb_law_1 (L.map intN) [some NS, some (fD s), some (fD t), y3, some (.int (-1)), none, none, none, none] = .nx [some NS, some (fD s), some (fD t), y3', some (.int (dueI (L.find? (conf s t)))), none, none, none, none] := go5
  have e5 := sL5 (mVar 1) [some NS, some (fD s), some (fD t), y3, some (.int (-1)), none, none, none, none] rfl
  rw [hLd] at e5
  obtain ⟨L1, m1, m2, m3, m4⟩ := merge_is s t hs ht
  obtain ⟨L2, p1, p2, p3, p4⟩ := merge_is t s ht hs
  have f1 : L1.find? (conf s t) = L.find? (conf s t) := find_same _ m1 sL1 (fun n hn => (m2 n).mpr (conf_mem hn)) fun n hn => (sL3 n).mpr (conf_mem hn)
  have cc : conf t s = conf s t := by funext n; exact conf_comm t s n
  have f2 : L2.find? (conf t s) = L.find? (conf s t) := by
    rw [cc]
    exact find_same _ p1 sL1 (fun n hn => (p2 n).mpr (conf_mem (by rw [conf_comm]; exact hn))) fun n hn => (sL3 n).mpr (conf_mem hn)
  have pa0 : atD (.list [fD s, fD t]) (.int 0) = .ok (fD s) := atD_list (k := 0) rfl
  have pa1 : atD (.list [fD s, fD t]) (.int 1) = .ok (fD t) := atD_list (k := 1) rfl
  have s2 : 2 ≤ sizeLine := sl5 2 (by omega)
  have s1 : 1 ≤ sizeLine := sl5 1 (by omega)
  have s0 : 0 ≤ sizeLine := Nat.zero_le _
  have s3 : 3 ≤ sizeLine := sl5 3 (by omega)
  have q1 := eqLd_is false hs ht
  have q2 := eqLd_is true hs ht
  have hcopy : ∀ v4 : Option D, mAsg 5 (mList (mLst (mCons (mDict (mDcp (mVar 1))) (mCons (mDict (mDcp (mVar 2))) mNil)))) [some NS, some (fD s), some (fD t), y3', v4, none, none, none, none] = .nx [some NS, some (fD s), some (fD t), y3', v4, some (.list [fD s, fD t]), none, none, none] := fun v4 => by
    show mAsg 5 _ [some NS, some (.dict (dI edD s)), some (.dict (dI edD t)), y3', v4, none, none, none, none] = .nx [some NS, some (.dict (dI edD s)), some (.dict (dI edD t)), y3', v4, some (.list [.dict (dI edD s), .dict (dI edD t)]), none, none, none]
    generalize dI edD s = DS at *
    generalize dI edD t = DT at *
    simp -implicitDefEqProofs [s2]
  have st1 : (mAsgO 1 (mCall m__law_fates (mCons (mVar 0) (mCons (mC (.int 1)) mNil)))) [some NS, none, none, none, none, none, none, none, none] = .nx [some NS, some (fD s), none, none, none, none, none, none, none] := by
    have lt : litD (fD s) = false := rfl
    generalize fD s = DS at *
    simp -implicitDefEqProofs [es, lt]
  have st2 : (mAsgO 2 (mCall m__law_fates (mCons (mVar 0) (mCons (mC (.int 14)) mNil)))) [some NS, some (fD s), none, none, none, none, none, none, none] = .nx [some NS, some (fD s), some (fD t0), none, none, none, none, none, none] := by
    have lt : litD (fD t0) = false := rfl
    generalize fD s = DS at *
    generalize fD t0 = DT at *
    simp -implicitDefEqProofs [et, lt]
  have st5 : (mFor (mIt (mList (mSortD (mVar 1)))) (gSet 3) lb_law_1) [some NS, some (fD s), some (fD t), y3, some (.int (-1)), none, none, none, none] = .nx [some NS, some (fD s), some (fD t), y3', some (.int (dueI (L.find? (conf s t)))), none, none, none, none] := by
    generalize fD s = DS at *
    generalize fD t = DT at *
    generalize L.map intN = LD at *
    simp -implicitDefEqProofs [e5, go5]
  have st4 : (mAsg 4 (mUn negD (mC (.int 1)))) [some NS, some (fD s), some (fD t), y3, none, none, none, none, none] = .nx [some NS, some (fD s), some (fD t), y3, some (.int (-1)), none, none, none, none] := by
    generalize fD s = DS at *
    generalize fD t = DT at *
    simp -implicitDefEqProofs
  unfold m_law mkFn b_law
  refine congrArg fnOut (a₂ := Out.rt (.bool true)) ?_
  refine seq_nx st1 ?_
  refine seq_nx st2 ?_
  refine seq_nx st3 ?_
  refine seq_nx st4 ?_
  refine seq_nx st5 ?_
  refine seq_nx (hcopy _) ?_
  cases hf : L.find? (conf s t) with
  | some n =>
    have t1 := (told_is s t (m3 n (f1.trans hf))).2 n rfl
    have t2 := (told_is t s (p3 n (f2.trans hf))).2 n rfl
    have hd : dueI (some n) = ((n : Nat) : Int) := rfl
    rw [hd]
    have hg : geI (n : Int) 0 = true := by unfold geI; exact decide_eq_true (by omega)
    have hq : eqX (.int (n : Nat)) (.int (n : Nat)) = .ok (.bool true) := eqD_self (plain_int _ _)
    generalize hP : PyData.list [fD s, fD t] = PD at *
    generalize fD s = DS at *
    generalize fD t = DT at *
    generalize ((n : Nat) : Int) = N at *
    refine seq_nx (ρ' := [some NS, some DS, some DT, y3', some (.int N), some PD, some (.int N), none, none]) (by simp -implicitDefEqProofs [pa0, pa1, t1]) ?_
    refine seq_nx (ρ' := [some NS, some DS, some DT, y3', some (.int N), some PD, some (.int N), some (.int N), none]) (by simp -implicitDefEqProofs [pa0, pa1, t2]) ?_
    refine seq_nx (ρ' := [some NS, some DS, some DT, y3', some (.int N), some PD, some (.int N), some (.int N), none]) (by simp -implicitDefEqProofs [s2, hP, q1]) ?_
    simp -implicitDefEqProofs [hg, hq]
  | none =>
    obtain ⟨R, hR, e1⟩ := m4 (f1.trans hf)
    obtain ⟨R', hR', e2⟩ := p4 (f2.trans hf)
    have hcf : ∀ n, conf s t n = false := fun n => by
      cases z : conf s t n with
      | false => rfl
      | true => exact absurd z (List.find?_eq_none.mp hf n ((sL3 n).mpr (conf_mem z)))
    have same := mrg_same hs ht hcf hR hR'
    have ll := keys_same same hR.1 hR'.1
    have t1 := (told_is s t e1).1 R rfl
    have t2 := (told_is t s e2).1 R' rfl
    have hd : dueI none = -1 := rfl
    rw [hd]
    have hg : geI (-1) 0 = false := by decide
    have nx := neX_is ll fun p hp => (same p.1).symm.trans (li_of_mem hR.1.1 hp)
    have iR : isiD "dict" (fD R) = .ok (.bool true) := rfl
    have iR' : isiD "dict" (fD R') = .ok (.bool true) := rfl
    have hor : ∀ n, orO (li R n) none = orO (li s n) (li t n) := fun n => by
      rw [li_vals ht hR n]
      cases hx : li s n with
      | none => cases hy : li t n <;> rfl
      | some x =>
        cases hy : li t n with
        | none => rfl
        | some y => rw [agree hcf hx hy]; rfl
    obtain ⟨z3, z8, g40⟩ := get_loop NS (.int (-1)) (.list [fD s, fD t]) (fD R') s t R hor 40 0 y3' none
    have g40 : forL (gSet 3) lb_law_2 (rngD 0 40) _ = _ := g40
    have hr : rng1D [.int 40] = .ok (rngD 0 40) := rng1D_int (by omega) (by omega)
    have hput := putD_dI edD R 99 ⟨[], .drop, []⟩
    have hput : putD (dI edD R) (.inl 99) (.tuple [.tuple [], .tuple [S [100, 114, 111, 112]], .tuple []]) = dI edD (pi R 99 ⟨[], .drop, []⟩) := hput
    have hno : li R 99 = none := by
      cases z : li R 99 with
      | none => rfl
      | some x => exact absurd (hR.1.2 99 (li_mem.mpr (by rw [z]; simp))) (by omega)
    have hlen : (pi R 99 ⟨[], .drop, []⟩).length = R.length + 1 := by
      have := congrArg List.length (keys_pi R 99 ⟨[], .drop, []⟩)
      rw [if_pos hno] at this
      simpa using this
    have lR := hR.1.len
    have sl : (dI edD R).length < sizeLine := by unfold dI; rw [List.length_map]; exact sl5' _ (by omega)
    have l1 : (dI edD (pi R 99 ⟨[], .drop, []⟩)).length = (dI edD R').length + 1 := by unfold dI; rw [List.length_map, List.length_map, hlen, ll]
    have kk : keyOf (.int 99) = some (.inl 99) := rfl
    have stp : (mDPut 6 (mC (.int 99)) (mTup (mCons (mTup mNil) (mCons (mTup (mCons (mC (S [100, 114, 111, 112])) mNil)) (mCons (mTup mNil) mNil))))) [some NS, some (fD s), some (fD t), z3, some (.int (-1)), some (.list [fD s, fD t]), some (fD R), some (fD R'), z8] = .nx [some NS, some (fD s), some (fD t), z3, some (.int (-1)), some (.list [fD s, fD t]), some (fD (pi R 99 ⟨[], .drop, []⟩)), some (fD R'), z8] := by
      show mDPut 6 _ _ [some NS, some (fD s), some (fD t), z3, some (.int (-1)), some (.list [fD s, fD t]), some (.dict (dI edD R)), some (fD R'), z8] = .nx [some NS, some (fD s), some (fD t), z3, some (.int (-1)), some (.list [fD s, fD t]), some (.dict (dI edD (pi R 99 ⟨[], .drop, []⟩))), some (fD R'), z8]
      generalize hP : PyData.list [fD s, fD t] = PD at *
      generalize fD s = DS at *
      generalize fD t = DT at *
      generalize fD R' = DR' at *
      generalize dI edD (pi R 99 ⟨[], .drop, []⟩) = DP at *
      generalize dI edD R = DR at *
      simp -implicitDefEqProofs [s0, s1, s3, kk, sl, hput]
    have lenP : lenD (fD (pi R 99 ⟨[], .drop, []⟩)) = .ok (.int (((dI edD R').length : Nat) + 1)) := by
      show lenD (.dict (dI edD (pi R 99 ⟨[], .drop, []⟩))) = _
      rw [lenD_dict, l1]; rfl
    have lenR : lenD (fD R') = .ok (.int ((dI edD R').length : Nat)) := rfl
    clear hput hno hlen lR sl l1 hor
    generalize fD (pi R 99 ⟨[], .drop, []⟩) = DP at *
    generalize (((dI edD R').length : Nat) : Int) = LN at *
    generalize hP : PyData.list [fD s, fD t] = PD at *
    generalize fD s = DS at *
    generalize fD t = DT at *
    generalize fD R = DR at *
    generalize fD R' = DR' at *
    generalize rngD 0 40 = RG at *
    refine seq_nx (ρ' := [some NS, some DS, some DT, y3', some (.int (-1)), some PD, some DR, none, none]) (by simp -implicitDefEqProofs [pa0, pa1, t1]) ?_
    refine seq_nx (ρ' := [some NS, some DS, some DT, y3', some (.int (-1)), some PD, some DR, some DR', none]) (by simp -implicitDefEqProofs [pa0, pa1, t2]) ?_
    refine seq_nx (ρ' := [some NS, some DS, some DT, y3', some (.int (-1)), some PD, some DR, some DR', none]) (by simp -implicitDefEqProofs [s2, hP, q1]) ?_
    refine seq_nx (ρ' := [some NS, some DS, some DT, y3', some (.int (-1)), some PD, some DR, some DR', none]) (by simp -implicitDefEqProofs [hg]) ?_
    refine seq_nx (ρ' := [some NS, some DS, some DT, y3', some (.int (-1)), some PD, some DR, some DR', none]) (by simp -implicitDefEqProofs [iR, iR', nx]) ?_
    refine seq_nx (ρ' := [some NS, some DS, some DT, z3, some (.int (-1)), some PD, some DR, some DR', z8]) (by simp -implicitDefEqProofs [hr, g40]) ?_
    refine seq_nx stp ?_
    simp -implicitDefEqProofs [s2, hP, q2, lenP, lenR]
theorem law_sp {K : PySem.W.Frag} {mg : Mg} {vs : List V} {H : Hp} {Q : VK} {E : XK} (h : spLaw K vs H Q E) : spM mg K 1 m_law vs H Q E := law_spM law_true h

theorem all_mk {l : PySem.W.OpenLaw} {w : World} {K : PySem.W.Frag} {h : Heap} {mg : Str → Option Value} {fa : Addr} (X : K.In h) (G : h.Ns mainGlobals mg) (hfa : mg "law" = some (.ref fa))
    {f1 f2 f3 f4 f5 f6 : Addr} {od1 an1 od2 an2 od3 an3 od4 an4 od5 an5 od6 an6 : Option Addr} {sl1 sl2 sl3 sl4 sl5 sl6 : Array (Option Value)} {oc1 kV1 dc1 pm1 cd1 ct1 oc2 kV2 dc2 pm2 cd2 ct2 oc3 kV3 dc3 pm3 cd3 ct3 oc4 kV4 dc4 pm4 cd4 ct4 oc5 kV5 dc5 pm5 cd5 ct5 oc6 kV6 dc6 pm6 cd6 ct6 : Value}
    (a1 : PySem.W.nsIn K mainGlobals "_law_cell" = some (some (.ref f1))) (l1 : K.lookup f1 = some ⟨oc1, od1, .func (PySem.W.fnOf "_law_cell" "_law_cell" (defArgs s__law_cell) (defBody s__law_cell) (defScope s__law_cell) .none kV1 dc1 pm1 an1 cd1 ct1), sl1⟩) (q1 : PySem.W.codeIn K cd1 "_law_cell" = true) (k1 : PySem.W.keepIn K (.ref f1) = true)
    (a2 : PySem.W.nsIn K mainGlobals "_law_draws" = some (some (.ref f2))) (l2 : K.lookup f2 = some ⟨oc2, od2, .func (PySem.W.fnOf "_law_draws" "_law_draws" (defArgs s__law_draws) (defBody s__law_draws) (defScope s__law_draws) .none kV2 dc2 pm2 an2 cd2 ct2), sl2⟩) (q2 : PySem.W.codeIn K cd2 "_law_draws" = true) (k2 : PySem.W.keepIn K (.ref f2) = true)
    (a3 : PySem.W.nsIn K mainGlobals "_law_fates" = some (some (.ref f3))) (l3 : K.lookup f3 = some ⟨oc3, od3, .func (PySem.W.fnOf "_law_fates" "_law_fates" (defArgs s__law_fates) (defBody s__law_fates) (defScope s__law_fates) .none kV3 dc3 pm3 an3 cd3 ct3), sl3⟩) (q3 : PySem.W.codeIn K cd3 "_law_fates" = true) (k3 : PySem.W.keepIn K (.ref f3) = true)
    (a4 : PySem.W.nsIn K mainGlobals "merge" = some (some (.ref f4))) (l4 : K.lookup f4 = some ⟨oc4, od4, .func (PySem.W.fnOf "merge" "merge" (defArgs s_merge) (defBody s_merge) (defScope s_merge) .none kV4 dc4 pm4 an4 cd4 ct4), sl4⟩) (q4 : PySem.W.codeIn K cd4 "merge" = true) (k4 : PySem.W.keepIn K (.ref f4) = true)
    (a5 : PySem.W.nsIn K mainGlobals "_law_told" = some (some (.ref f5))) (l5 : K.lookup f5 = some ⟨oc5, od5, .func (PySem.W.fnOf "_law_told" "_law_told" (defArgs s__law_told) (defBody s__law_told) (defScope s__law_told) .none kV5 dc5 pm5 an5 cd5 ct5), sl5⟩) (q5 : PySem.W.codeIn K cd5 "_law_told" = true) (k5 : PySem.W.keepIn K (.ref f5) = true)
    (a6 : PySem.W.nsIn K mainGlobals "law" = some (some (.ref f6))) (l6 : K.lookup f6 = some ⟨oc6, od6, .func (PySem.W.fnOf "law" "law" (defArgs s_law) (defBody s_law) (defScope s_law) .none kV6 dc6 pm6 an6 cd6 ct6), sl6⟩) (q6 : PySem.W.codeIn K cd6 "law" = true) (k6 : PySem.W.keepIn K (.ref f6) = true)
    (z1 : PySem.W.nsIn K mainGlobals "dict" = some none)
    (z2 : PySem.W.nsIn K mainGlobals "int" = some none)
    (z3 : PySem.W.nsIn K mainGlobals "isinstance" = some none)
    (z4 : PySem.W.nsIn K mainGlobals "len" = some none)
    (z5 : PySem.W.nsIn K mainGlobals "range" = some none)
    (z6 : PySem.W.nsIn K mainGlobals "sorted" = some none)
    {C_WeftError : Addr} (aC_WeftError : PySem.W.nsIn K mainGlobals "WeftError" = some (some (.ref C_WeftError)))
    {C_Both : Addr} (aC_Both : PySem.W.nsIn K mainGlobals "Both" = some (some (.ref C_Both)))
    (kC_WeftError : PySem.W.keepIn K (.ref C_WeftError) = true)
    (eC_WeftError : PySem.W.subIn K (.ref C_WeftError) (.type "BaseException") = some true)
    (tC_WeftError : PySem.W.typeIn K (.ref C_WeftError) = some (.type "type"))
    (hC_WeftError : PySem.W.hasDictIn K C_WeftError = true)
    (kC_Both : PySem.W.keepIn K (.ref C_Both) = true)
    (eC_Both : PySem.W.subIn K (.ref C_Both) (.type "BaseException") = some true)
    (tC_Both : PySem.W.typeIn K (.ref C_Both) = some (.type "type"))
    (hC_Both : PySem.W.hasDictIn K C_Both = true)
    (ga_Both : PySem.W.findIn K (.ref C_Both) "__getattribute__" = some (some (.builtin "BaseException.__getattribute__")))
    (gg_Both : PySem.W.findIn K (.ref C_Both) "__getattr__" = some none)
    (nf_Both_line : PySem.W.findIn K (.ref C_Both) "line" = some none)
    {nm_Both q_Both : Str} {N_Both : Addr} {bs_Both : List Value} {sn_Both : List Str} {sub_Both : List Value} {ab_Both : Bool} {col_Both : Option Bool} {dd_Both : Option Addr} {m0_Both m1_Both m2_Both m3_Both m5_Both : Option Value} (xL_Both : K.lookup C_Both = some (excClassObj nm_Both q_Both C_Both N_Both bs_Both [.ref C_WeftError, .type "ValueError", .type "Exception", .type "BaseException", .type "object"] true sn_Both sub_Both ab_Both col_Both dd_Both m0_Both m1_Both m2_Both m3_Both m5_Both "ValueError.__new__"))
    (sa_Both : PySem.W.findIn K (.ref C_Both) "__setattr__" = some (some (.builtin "object.__setattr__")))
    {fi_Both : Addr} (iC_Both : PySem.W.findIn K (.ref C_Both) "__init__" = some (some (.ref fi_Both)))
    (tI_Both : PySem.W.typeIn K (.ref fi_Both) = some (.type "function"))
    {iod_Both ian_Both : Option Addr} {isl_Both : Array (Option Value)} {ioc_Both ikV_Both idc_Both ipm_Both icd_Both ict_Both : Value} (li_Both : K.lookup fi_Both = some ⟨ioc_Both, iod_Both, .func (PySem.W.fnOf "__init__" "Both.__init__" (defArgs si_Both) (defBody si_Both) (defScope si_Both) .none ikV_Both idc_Both ipm_Both ian_Both icd_Both ict_Both), isl_Both⟩)
    (ci_Both : PySem.W.codeIn K icd_Both "Both.__init__" = true)
    (ki_Both : PySem.W.keepIn K (.ref fi_Both) = true)
    (sub_Both_Both : PySem.W.subIn K (.ref C_Both) (.ref C_Both) = some true)
    (hn_x : PySem.W.specialIn K (.builtin "object.__class__") "__get__" = some (some (.builtin "getset_descriptor.__get__")))
    (ht_x : PySem.W.takesIn K (.builtin "object.__class__") = some true)
    (ha_Both : PySem.W.findIn K (.ref C_Both) "__class__" = some (some (.builtin "object.__class__")))
    (hm_Both : PySem.W.mroIn K C_Both (.type "object") = some true)
    (zT_ValueError : PySem.W.nsIn K mainGlobals "ValueError" = some none)
    (kt_Both_WeftError : PySem.W.kitOne K (.ref C_Both) (.ref C_WeftError) = some true)
    (kt_Both_ValueError : PySem.W.kitOne K (.ref C_Both) (.type "ValueError") = some true)
    : ∃ fd : FuncData, (∀ (s : Shared) (v : Value), BindsTo s fd ⟨[v], []⟩ [("script", v)]) ∧ ∀ base : Heap, K.In base → base.Ns mainGlobals mg → FnOk l.prog w K mg base (L2N.CX l.prog w) 5 fa fd ["script"] (spLaw K) := by
  have e := hfa.symm.trans (PySem.W.mg_of X G a6)
  cases e
  have T : Txt K mg := ⟨PySem.W.mg_none_of X G z1, PySem.W.mg_none_of X G z2, PySem.W.mg_none_of X G z3, PySem.W.mg_none_of X G z4, PySem.W.mg_none_of X G z5, PySem.W.mg_none_of X G z6⟩
  have F1 := fun_mk (st := s__law_cell) l1 q1 k1
  have F2 := fun_mk (st := s__law_draws) l2 q2 k2
  have F3 := fun_mk (st := s__law_fates) l3 q3 k3
  have F4 := fun_mk (st := s_merge) l4 q4 k4
  have F5 := fun_mk (st := s__law_told) l5 q5 k5
  have F6 := fun_mk (st := s_law) l6 q6 k6
  refine ⟨PySem.W.fnOf "law" "law" (defArgs s_law) (defBody s_law) (defScope s_law) .none kV6 dc6 pm6 an6 cd6 ct6, fun s v => .of_eq rfl, fun base _ _ => ?_⟩
  have TC : TxC l.prog w K mg base := ⟨⟨⟨C_Both, fi_Both, _, PySem.W.mg_of X G aC_Both, ⟨⟨_, _, _, _, _, _, _, _, _, _, _, _, _, _, _, xL_Both, by rfl⟩, sa_Both, eC_Both, tC_Both, kC_Both⟩, (all_cons nf_Both_line all_nil), iC_Both, tI_Both, (fun_mk (st := si_Both) li_Both ci_Both ki_Both).binds (ps := ["self", "line"]) (fun _ _ _ _ _ _ us hl => match us, hl with | [_, _], _ => rfl), ini_Both (fun_mk (st := si_Both) li_Both ci_Both ki_Both)⟩⟩, ⟨_, PySem.W.mg_of X G aC_Both⟩, tbl_ok (tbl_cons (PySem.W.mg_of X G aC_Both) (PySem.W.mg_of X G aC_Both) (PySem.W.exm_ref eC_Both hC_Both tC_Both sub_Both_Both) tbl_nil), is_ok (is_cons ⟨ga_Both, gg_Both, eC_Both, hC_Both, ha_Both, hn_x, ht_x, hm_Both⟩ (PySem.W.mg_of X G aC_Both) (PySem.W.mg_of X G aC_WeftError) kt_Both_WeftError (is_consB (T' := "ValueError") ⟨ga_Both, gg_Both, eC_Both, hC_Both, ha_Both, hn_x, ht_x, hm_Both⟩ (PySem.W.mg_of X G aC_Both) (PySem.W.mg_none_of X G zT_ValueError) (by decide +kernel) (by decide) kt_Both_ValueError tbl_nil)), (xf_cons (PySem.W.mg_of X G aC_Both) ⟨ga_Both, gg_Both, eC_Both, hC_Both⟩ (all_cons nf_Both_line all_nil) xf_nil)⟩
  have G__law_cell : Fn l.prog w K mg base 1 "_law_cell" ["script", "k"] m__law_cell := ⟨⟨f1, _, PySem.W.mg_of X G a1, k1, F1.binds (ps := ["script", "k"]) (fun _ _ _ _ _ _ us hl => match us, hl with | [_, _], _ => rfl), ok__law_cell F1 T TC ⟩⟩
  have G__law_draws : Fn l.prog w K mg base 1 "_law_draws" ["cell", "count"] m__law_draws := ⟨⟨f2, _, PySem.W.mg_of X G a2, k2, F2.binds (ps := ["cell", "count"]) (fun _ _ _ _ _ _ us hl => match us, hl with | [_, _], _ => rfl), ok__law_draws F2 T TC ⟩⟩
  have G__law_fates : FnX l.prog w K mg base 2 "_law_fates" ["script", "start"] m__law_fates := ⟨⟨f3, _, PySem.W.mg_of X G a3, k3, F3.binds (ps := ["script", "start"]) (fun _ _ _ _ _ _ us hl => match us, hl with | [_, _], _ => rfl), ok__law_fates F3 T TC G__law_draws G__law_cell⟩⟩
  have G_merge : FnX l.prog w K mg base 3 "merge" ["one", "other"] m_merge := ⟨⟨f4, _, PySem.W.mg_of X G a4, k4, F4.binds (ps := ["one", "other"]) (fun _ _ _ _ _ _ us hl => match us, hl with | [_, _], _ => rfl), ok_merge F4 T TC ⟩⟩
  have G__law_told : FnX l.prog w K mg base 4 "_law_told" ["one", "other"] m__law_told := ⟨⟨f5, _, PySem.W.mg_of X G a5, k5, F5.binds (ps := ["one", "other"]) (fun _ _ _ _ _ _ us hl => match us, hl with | [_, _], _ => rfl), ok__law_told F5 T TC G_merge⟩⟩
  exact (ok_law F6 T TC G__law_fates G__law_told G__law_cell).imp fun vs H Q E hs => law_sp hs
end WK
open PySem PySem.W PyProof.Rows
set_option maxHeartbeats 0 in
theorem PySem.Challenge.cw_weft_k41_merge_holds : PySem.Challenge.rw_weft_k41_merge.Holds := by
  w_on; o_law; k_head; (case hw => w_witness2)
  k_fill
  refine L2.walk_of (l := PySem.Challenge.rw_weft_k41_merge) (n := 63) (k := 5) (x := "script") (CX := fun w => L2N.CX (PySem.Challenge.rw_weft_k41_merge).prog w) (sp := fun w => WD.spLaw _) rfl (by decide) rfl ⟨rfl, by decide, by decide⟩ (fun w h Y => PySem.W.kIn_of Y) ?F (fun _ _ a ns hl _ hS => ⟨a, ns, rfl, hS, hl, fun _ => rfl⟩) (fun _ _ _ _ _ h => WD.no_cx h)
  case F =>
    intro w mg fa h KX G hmg
    refine' WK.all_mk KX G hmg ?a1 ?l1 ?q1 ?k1 ?a2 ?l2 ?q2 ?k2 ?a3 ?l3 ?q3 ?k3 ?a4 ?l4 ?q4 ?k4 ?a5 ?l5 ?q5 ?k5 ?a6 ?l6 ?q6 ?k6 ?z1 ?z2 ?z3 ?z4 ?z5 ?z6 ?aC_WeftError ?aC_Both ?kC_WeftError ?eC_WeftError ?tC_WeftError ?hC_WeftError ?kC_Both ?eC_Both ?tC_Both ?hC_Both ?ga_Both ?gg_Both ?nf_Both_line ?xL_Both ?sa_Both ?iC_Both ?tI_Both ?li_Both ?ci_Both ?ki_Both ?sub_Both_Both ?hn_x ?ht_x ?ha_Both ?hm_Both ?zT_ValueError ?kt_Both_WeftError ?kt_Both_ValueError
    (case aC_WeftError => k_is)
    (case aC_Both => k_is)
    (case kC_WeftError => k_is)
    (case eC_WeftError => k_is)
    (case tC_WeftError => k_is)
    (case hC_WeftError => k_is)
    (case kC_Both => k_is)
    (case eC_Both => k_is)
    (case tC_Both => k_is)
    (case hC_Both => k_is)
    (case ga_Both => k_is)
    (case gg_Both => k_is)
    (case nf_Both_line => k_is)
    (case xL_Both => k_is)
    (case sa_Both => k_is)
    (case iC_Both => k_is)
    (case tI_Both => k_is)
    (case li_Both => k_is)
    (case ci_Both => k_is)
    (case ki_Both => k_is)
    (case sub_Both_Both => first | rfl | k_is)
    (case hn_x => k_is)
    (case ht_x => k_is)
    (case ha_Both => k_is)
    (case hm_Both => k_is)
    (case zT_ValueError => k_is)
    (case kt_Both_WeftError => first | rfl | k_is)
    (case kt_Both_ValueError => first | rfl | k_is)
    (case a1 => k_is); (case l1 => k_is); (case q1 => k_is); (case k1 => k_is); (case a2 => k_is); (case l2 => k_is); (case q2 => k_is); (case k2 => k_is)
    (case a3 => k_is); (case l3 => k_is); (case q3 => k_is); (case k3 => k_is); (case a4 => k_is); (case l4 => k_is); (case q4 => k_is); (case k4 => k_is)
    (case a5 => k_is); (case l5 => k_is); (case q5 => k_is); (case k5 => k_is); (case a6 => k_is); (case l6 => k_is); (case q6 => k_is); (case k6 => k_is)
    (case z1 => k_is); (case z2 => k_is); (case z3 => k_is); (case z4 => k_is); (case z5 => k_is); (case z6 => k_is)
namespace WK
/-! levels: _law_cell=1 _law_draws=1 _law_fates=2 merge=3 _law_told=4 law=5 -/
end WK
