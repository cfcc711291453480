import PyProof.Rows.All
import Wide.All
import OpenK.AllK
import Wide.FinOn
import HandS.ForMost
import HandS.ForExc
import HandS.IsInst
import HandS.Flow
import HandS.Wide
import HandS.Style
import KE.KIntText
import HandS.Replace
import HandS.ExcInit
import HandS.ExcValue
import HandS.ExcField
import HandS.ExcIs
import HandS.ExcOwn
import HandS.WordsExc
import HandS.FStr
import KE.KExcIs
import KE.KExcPX
import KE.GoesEnumKw
import HandS.RaiseMore
import HandS.Zip0
import HandS.Star
import KE.KDictZip
import KE.GoesRaise
import PySem.Challenge.RW_foldpress_k03_schemes_as_texts
set_option Elab.async false
set_option linter.all false
set_option maxRecDepth 100000
namespace FP
open PySem PySem.Spec PyProof.Rows L2

/-! ### data: a tree of values; a container bears whether it is owned (changed by its holder alone) -/
/-- an instance: shared, owned, owned and known by its address -/
inductive Fl where
  | sh
  | ow
  | at (a : Addr)
def Fl.isSh : Fl → Bool
  | .sh => true
  | _ => false
inductive D where
  | sc (x : V)
  | lst (o : Bool) (ds : List D)
  | tup (o : Bool) (ds : List D)
  | ins (o : Fl) (C : Addr) (fs : List Str) (ds : List D)
  | dK (o : Bool) (ks : List Key) (ds : List D)
  | dT (o : Bool) (ks : List (List Key)) (ds : List D)
  | exc (C : Addr) (fs : List (Str × V))
namespace D
mutual
def frz : D → D
  | .sc x => .sc x
  | .lst _ ds => .lst false (frzs ds)
  | .tup _ ds => .tup false (frzs ds)
  | .ins _ C fs ds => .ins .sh C fs (frzs ds)
  | .dK _ ks ds => .dK false ks (frzs ds)
  | .dT _ ks ds => .dT false ks (frzs ds)
  | .exc C fs => .exc C fs
def frzs : List D → List D
  | [] => []
  | d :: ds => frz d :: frzs ds
end
/-- nothing that is owned: the outermost tells it, what is shared holds shared things alone -/
def shd : D → Bool
  | .sc _ => true
  | .lst o _ => !o
  | .tup o _ => !o
  | .ins o _ _ _ => o.isSh
  | .dK o _ _ => !o
  | .dT o _ _ => !o
  | .exc _ _ => true
mutual
/-- no container that is shared -/
def closed : D → Bool
  | .sc _ => true
  | .lst o ds => o && closeds ds
  | .tup o ds => o && closeds ds
  | .ins o _ _ ds => !o.isSh && closeds ds
  | .dK o _ ds => o && closeds ds
  | .dT o _ ds => o && closeds ds
  | .exc _ _ => false
def closeds : List D → Bool
  | [] => true
  | d :: ds => closed d && closeds ds
end
@[simp] theorem frz_sc (x : V) : frz (.sc x) = .sc x := by simp [frz]
theorem frzs_map : ∀ ds : List D, frzs ds = ds.map frz
  | [] => by simp [frzs]
  | d :: ds => by simp [frzs, frzs_map ds]
abbrev int (i : Int) : D := .sc (.int i)
abbrev str (s : Str) : D := .sc (.str s)
abbrev bl (b : Bool) : D := .sc (.bl b)
abbrev non : D := .sc .non
end D

/-! ### what stands for what -/
abbrev Own := Addr → Prop
def Own.no : Own := fun _ => False
def Own.and (A : Own) (C : List Addr) : Own := fun a => A a ∨ a ∈ C
theorem Own.and_nil (A : Own) : A.and [] = A := by
  funext a
  simp [Own.and]
/-- a list, a tuple of the written part -/
def KL (K : PySem.W.Frag) (a : Addr) (xs : List V) : Prop :=
  ∃ (o : Obj) (its : Array Value) (n : Nat), K.lookup a = some o ∧ o.cls = .type "list" ∧ o.dict = none ∧ o.data = .seq its n ∧ its.size ≤ sizeLine ∧ Vals xs its.toList
def KT (K : PySem.W.Frag) (a : Addr) (xs : List V) : Prop :=
  ∃ (o : Obj) (its : Array Value) (n : Nat), K.lookup a = some o ∧ o.cls = .type "tuple" ∧ o.data = .seq its n ∧ its.size ≤ sizeLine ∧ Vals xs its.toList
def Sh (A : Own) (H : Hp) (a : Addr) (u : HO) : Prop := Rd H a u ∧ ¬ A a
def Sh1 (A : Own) (H : Hp) (a : Addr) (u : HO) : Prop := H a = some u ∧ ¬ A a
/-- an own exception of the class at C, held as a value: the object at a, its dict at d -/
def EX (a C : Addr) (d : Option Addr) : HO := .ext fun h => ∃ oe vs, h.get? a = some oe ∧ Zc (.ref C) d oe ∧ oe.data = .fields vs

mutual
inductive Rp (K : PySem.W.Frag) (A : Own) (H : Hp) : V → D → List Addr → Prop
  | sc (x : V) : Rp K A H x (.sc x) []
  | lstS {a : Addr} {xs : List V} {ds : List D} : (Sh A H a (.lst xs) ∨ KL K a xs) → RpAll K A H xs ds [] → Rp K A H (.ref a) (.lst false ds) []
  | lstO {a : Addr} {xs : List V} {ds : List D} {B : List Addr} : H a = some (.lst xs) → A a → a ∉ B → RpAll K A H xs ds B → Rp K A H (.ref a) (.lst true ds) (a :: B)
  | tupS {a : Addr} {xs : List V} {ds : List D} : (Sh A H a (.tup xs) ∨ KT K a xs) → RpAll K A H xs ds [] → Rp K A H (.ref a) (.tup false ds) []
  | tupO {a : Addr} {xs : List V} {ds : List D} {B : List Addr} : H a = some (.tup xs) → A a → a ∉ B → RpAll K A H xs ds B → Rp K A H (.ref a) (.tup true ds) (a :: B)
  | insS {a C dx : Addr} {fs : List Str} {xs : List V} {ds : List D} : Sh1 A H a (.ins C dx (fs.zip xs)) → fs.length = xs.length → RpAll K A H xs ds [] → Rp K A H (.ref a) (.ins .sh C fs ds) []
  | insO {a C dx : Addr} {fs : List Str} {xs : List V} {ds : List D} {B : List Addr} : H a = some (.ins C dx (fs.zip xs)) → A a → a ∉ B → fs.length = xs.length → RpAll K A H xs ds B → Rp K A H (.ref a) (.ins .ow C fs ds) (a :: B)
  | insA {a C dx : Addr} {fs : List Str} {xs : List V} {ds : List D} {B : List Addr} : H a = some (.ins C dx (fs.zip xs)) → A a → a ∉ B → fs.length = xs.length → RpAll K A H xs ds B → Rp K A H (.ref a) (.ins (.at a) C fs ds) (a :: B)
  | dKS {a : Addr} {ks : List Key} {xs : List V} {ds : List D} : Sh A H a (.dK (ks.zip xs)) → ks.length = xs.length → RpAll K A H xs ds [] → Rp K A H (.ref a) (.dK false ks ds) []
  | dKO {a : Addr} {ks : List Key} {xs : List V} {ds : List D} {B : List Addr} : H a = some (.dK (ks.zip xs)) → A a → a ∉ B → ks.length = xs.length → RpAll K A H xs ds B → Rp K A H (.ref a) (.dK true ks ds) (a :: B)
  | dTS {a : Addr} {ks : List (List Key)} {xs : List V} {ds : List D} : Sh A H a (.dT (ks.zip xs)) → ks.length = xs.length → RpAll K A H xs ds [] → Rp K A H (.ref a) (.dT false ks ds) []
  | dTO {a : Addr} {ks : List (List Key)} {xs : List V} {ds : List D} {B : List Addr} : H a = some (.dT (ks.zip xs)) → A a → a ∉ B → ks.length = xs.length → RpAll K A H xs ds B → Rp K A H (.ref a) (.dT true ks ds) (a :: B)
  | exc0 {a C : Addr} : Sh1 A H a (EX a C none) → Rp K A H (.ref a) (.exc C []) []
  | exc1 {a C dd : Addr} {fs : List (Str × V)} : Sh1 A H a (EX a C (some dd)) → Sh1 A H dd (.xd fs) → Rp K A H (.ref a) (.exc C fs) []
inductive RpAll (K : PySem.W.Frag) (A : Own) (H : Hp) : List V → List D → List Addr → Prop
  | nil : RpAll K A H [] [] []
  | cons {v : V} {vs : List V} {d : D} {ds : List D} {B C : List Addr} : Rp K A H v d B → RpAll K A H vs ds C → (∀ a ∈ B, a ∉ C) → RpAll K A H (v :: vs) (d :: ds) (B ++ C)
end

/-- what a representation with the owned objects B leans on is there behind too -/
structure Keep (A : Own) (H : Hp) (B : List Addr) (A' : Own) (H' : Hp) : Prop where
  shd : ∀ a o, H a = some o → ¬ A a → H' a = some o ∧ ¬ A' a
  own : ∀ a o, a ∈ B → H a = some o → H' a = some o ∧ A' a
theorem Keep.sub {A A' : Own} {H H' : Hp} {B C : List Addr} (k : Keep A H B A' H') (h : ∀ a ∈ C, a ∈ B) : Keep A H C A' H' := ⟨k.shd, fun a o hc e => k.own a o (h a hc) e⟩
theorem Sh.keep {A A' : Own} {H H' : Hp} {B : List Addr} {a : Addr} {u : HO} (k : Keep A H B A' H') (h : Sh A H a u) : Sh A' H' a u := by
  obtain ⟨h | ⟨o, h⟩, n⟩ := h
  · obtain ⟨h1, h2⟩ := k.shd a _ h n
    exact ⟨.inl h1, h2⟩
  · obtain ⟨h1, h2⟩ := k.shd a _ h n
    exact ⟨.inr ⟨o, h1⟩, h2⟩
theorem Sh1.keep {A A' : Own} {H H' : Hp} {B : List Addr} {a : Addr} {u : HO} (k : Keep A H B A' H') (h : Sh1 A H a u) : Sh1 A' H' a u := k.shd a _ h.1 h.2
section
variable {K : PySem.W.Frag} {A A' : Own} {H H' : Hp}
mutual
theorem Rp.keep : ∀ (d : D) {v : V} {B : List Addr}, Rp K A H v d B → Keep A H B A' H' → Rp K A' H' v d B
  | .sc x, _, _, .sc _, _ => .sc x
  | .lst _ ds, _, _, .lstS h r, k => .lstS (h.imp (fun h => h.keep k) id) (RpAll.keep ds r k)
  | .lst _ ds, _, _, .lstO h a n r, k => let q := k.own _ _ List.mem_cons_self h; .lstO q.1 q.2 n (RpAll.keep ds r (k.sub fun _ m => List.mem_cons_of_mem _ m))
  | .tup _ ds, _, _, .tupS h r, k => .tupS (h.imp (fun h => h.keep k) id) (RpAll.keep ds r k)
  | .tup _ ds, _, _, .tupO h a n r, k => let q := k.own _ _ List.mem_cons_self h; .tupO q.1 q.2 n (RpAll.keep ds r (k.sub fun _ m => List.mem_cons_of_mem _ m))
  | .ins _ _ _ ds, _, _, .insS h l r, k => .insS (h.keep k) l (RpAll.keep ds r k)
  | .ins _ _ _ ds, _, _, .insO h a n l r, k => let q := k.own _ _ List.mem_cons_self h; .insO q.1 q.2 n l (RpAll.keep ds r (k.sub fun _ m => List.mem_cons_of_mem _ m))
  | .ins _ _ _ ds, _, _, .insA h a n l r, k => let q := k.own _ _ List.mem_cons_self h; .insA q.1 q.2 n l (RpAll.keep ds r (k.sub fun _ m => List.mem_cons_of_mem _ m))
  | .dK _ _ ds, _, _, .dKS h l r, k => .dKS (h.keep k) l (RpAll.keep ds r k)
  | .dK _ _ ds, _, _, .dKO h a n l r, k => let q := k.own _ _ List.mem_cons_self h; .dKO q.1 q.2 n l (RpAll.keep ds r (k.sub fun _ m => List.mem_cons_of_mem _ m))
  | .dT _ _ ds, _, _, .dTS h l r, k => .dTS (h.keep k) l (RpAll.keep ds r k)
  | .dT _ _ ds, _, _, .dTO h a n l r, k => let q := k.own _ _ List.mem_cons_self h; .dTO q.1 q.2 n l (RpAll.keep ds r (k.sub fun _ m => List.mem_cons_of_mem _ m))
  | .exc _ _, _, _, .exc0 h, k => .exc0 (h.keep k)
  | .exc _ _, _, _, .exc1 h g, k => .exc1 (h.keep k) (g.keep k)
theorem RpAll.keep : ∀ (ds : List D) {vs : List V} {B : List Addr}, RpAll K A H vs ds B → Keep A H B A' H' → RpAll K A' H' vs ds B
  | [], _, _, .nil, _ => .nil
  | d :: ds, _, _, .cons r t n, k => .cons (Rp.keep d r (k.sub fun _ m => List.mem_append_left _ m)) (RpAll.keep ds t (k.sub fun _ m => List.mem_append_right _ m)) n
end
mutual
/-- the owned are tracked, and owned -/
theorem Rp.tracked : ∀ (d : D) {v : V} {B : List Addr}, Rp K A H v d B → ∀ a ∈ B, H a ≠ none ∧ A a
  | .sc x, _, _, .sc _ => fun _ h => nomatch h
  | .lst _ ds, _, _, .lstS h r => fun _ h => nomatch h
  | .lst _ ds, _, _, .lstO h a n r => fun b hb => (List.mem_cons.mp hb).elim (fun e => e ▸ ⟨by rw [h]; simp, a⟩) (RpAll.tracked ds r b)
  | .tup _ ds, _, _, .tupS h r => fun _ h => nomatch h
  | .tup _ ds, _, _, .tupO h a n r => fun b hb => (List.mem_cons.mp hb).elim (fun e => e ▸ ⟨by rw [h]; simp, a⟩) (RpAll.tracked ds r b)
  | .ins _ _ _ ds, _, _, .insS h l r => fun _ h => nomatch h
  | .ins _ _ _ ds, _, _, .insO h a n l r => fun b hb => (List.mem_cons.mp hb).elim (fun e => e ▸ ⟨by rw [h]; simp, a⟩) (RpAll.tracked ds r b)
  | .ins _ _ _ ds, _, _, .insA h a n l r => fun b hb => (List.mem_cons.mp hb).elim (fun e => e ▸ ⟨by rw [h]; simp, a⟩) (RpAll.tracked ds r b)
  | .dK _ _ ds, _, _, .dKS h l r => fun _ h => nomatch h
  | .dK _ _ ds, _, _, .dKO h a n l r => fun b hb => (List.mem_cons.mp hb).elim (fun e => e ▸ ⟨by rw [h]; simp, a⟩) (RpAll.tracked ds r b)
  | .dT _ _ ds, _, _, .dTS h l r => fun _ h => nomatch h
  | .dT _ _ ds, _, _, .dTO h a n l r => fun b hb => (List.mem_cons.mp hb).elim (fun e => e ▸ ⟨by rw [h]; simp, a⟩) (RpAll.tracked ds r b)
  | .exc _ _, _, _, .exc0 h => fun _ h => nomatch h
  | .exc _ _, _, _, .exc1 h g => fun _ h => nomatch h
theorem RpAll.tracked : ∀ (ds : List D) {vs : List V} {B : List Addr}, RpAll K A H vs ds B → ∀ a ∈ B, H a ≠ none ∧ A a
  | [], _, _, .nil => fun _ h => nomatch h
  | d :: ds, _, _, .cons r t n => fun b hb => (List.mem_append.mp hb).elim (Rp.tracked d r b) (RpAll.tracked ds t b)
end
/-- giving up what is owned: A' owns none of B -/
structure Loose (A : Own) (H : Hp) (B : List Addr) (A' : Own) (H' : Hp) : Prop where
  shd : ∀ a o, H a = some o → ¬ A a → H' a = some o ∧ ¬ A' a
  own : ∀ a o, a ∈ B → H a = some o → H' a = some o ∧ ¬ A' a
theorem Loose.sub {B C : List Addr} (k : Loose A H B A' H') (h : ∀ a ∈ C, a ∈ B) : Loose A H C A' H' := ⟨k.shd, fun a o hc e => k.own a o (h a hc) e⟩
theorem Loose.k0 {B : List Addr} (k : Loose A H B A' H') : Keep A H [] A' H' := ⟨k.shd, fun _ _ h => nomatch h⟩
mutual
theorem Rp.loose : ∀ (d : D) {v : V} {B : List Addr}, Rp K A H v d B → Loose A H B A' H' → Rp K A' H' v d.frz []
  | .sc x, _, _, .sc _, _ => by rw [D.frz]; exact .sc x
  | .lst _ ds, _, _, .lstS h r, k => by rw [D.frz]; exact .lstS (h.imp (fun h => h.keep k.k0) id) (RpAll.loose ds r k)
  | .lst _ ds, _, _, .lstO h a n r, k => by rw [D.frz]; exact let q := k.own _ _ List.mem_cons_self h; .lstS (.inl ⟨.inl q.1, q.2⟩) (RpAll.loose ds r (k.sub fun _ m => List.mem_cons_of_mem _ m))
  | .tup _ ds, _, _, .tupS h r, k => by rw [D.frz]; exact .tupS (h.imp (fun h => h.keep k.k0) id) (RpAll.loose ds r k)
  | .tup _ ds, _, _, .tupO h a n r, k => by rw [D.frz]; exact let q := k.own _ _ List.mem_cons_self h; .tupS (.inl ⟨.inl q.1, q.2⟩) (RpAll.loose ds r (k.sub fun _ m => List.mem_cons_of_mem _ m))
  | .ins _ _ _ ds, _, _, .insS h l r, k => by rw [D.frz]; exact .insS (h.keep k.k0) l (RpAll.loose ds r k)
  | .ins _ _ _ ds, _, _, .insO h a n l r, k => by rw [D.frz]; exact let q := k.own _ _ List.mem_cons_self h; .insS ⟨q.1, q.2⟩ l (RpAll.loose ds r (k.sub fun _ m => List.mem_cons_of_mem _ m))
  | .ins _ _ _ ds, _, _, .insA h a n l r, k => by rw [D.frz]; exact let q := k.own _ _ List.mem_cons_self h; .insS ⟨q.1, q.2⟩ l (RpAll.loose ds r (k.sub fun _ m => List.mem_cons_of_mem _ m))
  | .dK _ _ ds, _, _, .dKS h l r, k => by rw [D.frz]; exact .dKS (h.keep k.k0) l (RpAll.loose ds r k)
  | .dK _ _ ds, _, _, .dKO h a n l r, k => by rw [D.frz]; exact let q := k.own _ _ List.mem_cons_self h; .dKS ⟨.inl q.1, q.2⟩ l (RpAll.loose ds r (k.sub fun _ m => List.mem_cons_of_mem _ m))
  | .dT _ _ ds, _, _, .dTS h l r, k => by rw [D.frz]; exact .dTS (h.keep k.k0) l (RpAll.loose ds r k)
  | .dT _ _ ds, _, _, .dTO h a n l r, k => by rw [D.frz]; exact let q := k.own _ _ List.mem_cons_self h; .dTS ⟨.inl q.1, q.2⟩ l (RpAll.loose ds r (k.sub fun _ m => List.mem_cons_of_mem _ m))
  | .exc _ _, _, _, .exc0 h, k => by rw [D.frz]; exact .exc0 (h.keep k.k0)
  | .exc _ _, _, _, .exc1 h g, k => by rw [D.frz]; exact .exc1 (h.keep k.k0) (g.keep k.k0)
theorem RpAll.loose : ∀ (ds : List D) {vs : List V} {B : List Addr}, RpAll K A H vs ds B → Loose A H B A' H' → RpAll K A' H' vs (D.frzs ds) []
  | [], _, _, .nil, _ => by rw [D.frzs]; exact .nil
  | d :: ds, _, _, .cons r t n, k => by
    rw [D.frzs]
    exact RpAll.cons (B := []) (C := []) (Rp.loose d r (k.sub fun _ m => List.mem_append_left _ m)) (RpAll.loose ds t (k.sub fun _ m => List.mem_append_right _ m)) (fun _ h => nomatch h)
end
mutual
theorem Rp.shd : ∀ (d : D) {v : V} {B : List Addr}, Rp K A H v d B → d.shd = true → B = []
  | .sc x, _, _, .sc _, _ => rfl
  | .lst _ ds, _, _, .lstS _ _, _ => rfl
  | .tup _ ds, _, _, .tupS _ _, _ => rfl
  | .ins _ _ _ ds, _, _, .insS _ _ _, _ => rfl
  | .dK _ _ ds, _, _, .dKS _ _ _, _ => rfl
  | .dT _ _ ds, _, _, .dTS _ _ _, _ => rfl
  | .exc _ _, _, _, .exc0 _, _ => rfl
  | .exc _ _, _, _, .exc1 _ _, _ => rfl
  | .lst _ ds, _, _, .lstO _ _ _ _, e => by simp [D.shd, Fl.isSh] at e
  | .tup _ ds, _, _, .tupO _ _ _ _, e => by simp [D.shd, Fl.isSh] at e
  | .ins _ _ _ ds, _, _, .insO _ _ _ _ _, e => by simp [D.shd, Fl.isSh] at e
  | .ins _ _ _ ds, _, _, .insA _ _ _ _ _, e => by simp [D.shd, Fl.isSh] at e
  | .dK _ _ ds, _, _, .dKO _ _ _ _ _, e => by simp [D.shd, Fl.isSh] at e
  | .dT _ _ ds, _, _, .dTO _ _ _ _ _, e => by simp [D.shd, Fl.isSh] at e
end
theorem RpAll.len : ∀ {ds : List D} {vs : List V} {B : List Addr}, RpAll K A H vs ds B → vs.length = ds.length
  | _, _, _, .nil => rfl
  | _, _, _, .cons _ t _ => by simp [RpAll.len t]
mutual
/-- what is closed leans on its own objects alone -/
theorem Rp.closed : ∀ (d : D) {v : V} {B : List Addr}, Rp K A H v d B → d.closed = true → (∀ a ∈ B, A' a) → Rp K A' H v d B
  | .sc x, _, _, .sc _, _, _ => .sc x
  | .lst _ ds, _, _, .lstS h r, e, _ => by simp [D.closed, Fl.isSh] at e
  | .lst _ ds, _, _, .lstO h a n r, e, k => .lstO h (k _ List.mem_cons_self) n (RpAll.closed ds r (by simpa [D.closed, Fl.isSh] using e) fun b hb => k b (List.mem_cons_of_mem _ hb))
  | .tup _ ds, _, _, .tupS h r, e, _ => by simp [D.closed, Fl.isSh] at e
  | .tup _ ds, _, _, .tupO h a n r, e, k => .tupO h (k _ List.mem_cons_self) n (RpAll.closed ds r (by simpa [D.closed, Fl.isSh] using e) fun b hb => k b (List.mem_cons_of_mem _ hb))
  | .ins _ _ _ ds, _, _, .insS h l r, e, _ => by simp [D.closed, Fl.isSh] at e
  | .ins _ _ _ ds, _, _, .insO h a n l r, e, k => .insO h (k _ List.mem_cons_self) n l (RpAll.closed ds r (by simpa [D.closed, Fl.isSh] using e) fun b hb => k b (List.mem_cons_of_mem _ hb))
  | .ins _ _ _ ds, _, _, .insA h a n l r, e, k => .insA h (k _ List.mem_cons_self) n l (RpAll.closed ds r (by simpa [D.closed, Fl.isSh] using e) fun b hb => k b (List.mem_cons_of_mem _ hb))
  | .dK _ _ ds, _, _, .dKS h l r, e, _ => by simp [D.closed, Fl.isSh] at e
  | .dK _ _ ds, _, _, .dKO h a n l r, e, k => .dKO h (k _ List.mem_cons_self) n l (RpAll.closed ds r (by simpa [D.closed, Fl.isSh] using e) fun b hb => k b (List.mem_cons_of_mem _ hb))
  | .dT _ _ ds, _, _, .dTS h l r, e, _ => by simp [D.closed, Fl.isSh] at e
  | .dT _ _ ds, _, _, .dTO h a n l r, e, k => .dTO h (k _ List.mem_cons_self) n l (RpAll.closed ds r (by simpa [D.closed, Fl.isSh] using e) fun b hb => k b (List.mem_cons_of_mem _ hb))
  | .exc _ _, _, _, .exc0 h, e, _ => by simp [D.closed, Fl.isSh] at e
  | .exc _ _, _, _, .exc1 h g, e, _ => by simp [D.closed, Fl.isSh] at e
theorem RpAll.closed : ∀ (ds : List D) {vs : List V} {B : List Addr}, RpAll K A H vs ds B → D.closeds ds = true → (∀ a ∈ B, A' a) → RpAll K A' H vs ds B
  | [], _, _, .nil, _, _ => .nil
  | d :: ds, _, _, .cons r t n, e, k => by
    have e' : d.closed = true ∧ D.closeds ds = true := by simpa [D.closeds] using e
    exact .cons (Rp.closed d r e'.1 fun b hb => k b (List.mem_append_left _ hb)) (RpAll.closed ds t e'.2 fun b hb => k b (List.mem_append_right _ hb)) n
end
end

/-! ### the names' values -/
abbrev Env := List (Option D)
inductive EnvR (K : PySem.W.Frag) (A : Own) (H : Hp) : L2.St → Env → List Addr → Prop
  | nil : EnvR K A H [] [] []
  | any {x : Option V} {σ : L2.St} {ρ : Env} {B : List Addr} : EnvR K A H σ ρ B → EnvR K A H (x :: σ) (none :: ρ) B
  | val {v : V} {d : D} {σ : L2.St} {ρ : Env} {B C : List Addr} : Rp K A H v d B → EnvR K A H σ ρ C → (∀ a ∈ B, a ∉ C) → EnvR K A H (some v :: σ) (some d :: ρ) (B ++ C)
/-- every owned object is tracked -/
def WA (A : Own) (H : Hp) : Prop := ∀ a, A a → H a ≠ none
def Fresh (H : Hp) (C : List Addr) : Prop := ∀ a ∈ C, H a = none
abbrev Ex (H H' : Hp) : Prop := ∀ a o, H a = some o → H' a = some o
section
variable {K : PySem.W.Frag} {A A' : Own} {H H' H2 : Hp} {σ : L2.St} {ρ : Env} {B C : List Addr} {v : V} {d : D}
theorem Ex.rfl' : Ex H H := fun _ _ h => h
theorem Ex.tr (a : Ex H H') (b : Ex H' H2) : Ex H H2 := fun x o h => b x o (a x o h)
theorem Ex.new {p : Addr} {o : HO} (h : H p = none) : Ex H (upd H p o) := fun a u e => by
  rw [upd_ne (ne_of_none e h)]
  exact e
theorem Ex.back (e : Ex H H') {p : Addr} (h : H' p = none) : H p = none := by
  cases h1 : H p with
  | none => rfl
  | some o => rw [e p o h1] at h; cases h
theorem Ex.ne (e : Ex H H') {p : Addr} (h : H p ≠ none) : H' p ≠ none := fun z => h (e.back z)
theorem Fresh.back (f : Fresh H' C) (e : Ex H H') : Fresh H C := fun a h => e.back (f a h)
theorem EnvR.keep (r : EnvR K A H σ ρ B) : Keep A H B A' H' → EnvR K A' H' σ ρ B := by
  induction r with
  | nil => exact fun _ => .nil
  | any _ ih => exact fun k => .any (ih k)
  | val r _ n ih => exact fun k => .val (r.keep _ (k.sub fun _ m => List.mem_append_left _ m)) (ih (k.sub fun _ m => List.mem_append_right _ m)) n
theorem EnvR.tracked (r : EnvR K A H σ ρ B) : ∀ a ∈ B, H a ≠ none ∧ A a := by
  induction r with
  | nil => exact fun _ h => nomatch h
  | any _ ih => exact ih
  | val r _ n ih => exact fun a h => (List.mem_append.mp h).elim (r.tracked _ a) (ih a)
def frzE (ρ : Env) : Env := ρ.map (·.map D.frz)
theorem EnvR.loose (r : EnvR K A H σ ρ B) : Loose A H B A' H' → EnvR K A' H' σ (frzE ρ) [] := by
  induction r with
  | nil => exact fun _ => .nil
  | any _ ih => exact fun k => .any (ih k)
  | val r _ n ih => exact fun k => .val (B := []) (C := []) (r.loose _ (k.sub fun _ m => List.mem_append_left _ m)) (ih (k.sub fun _ m => List.mem_append_right _ m)) (fun _ h => nomatch h)
theorem EnvR.get (r : EnvR K A H σ ρ B) : ∀ {i : Nat} {d : D}, ρ[i]? = some (some d) → ∃ v C, σ[i]? = some (some v) ∧ Rp K A H v d C ∧ ∀ a ∈ C, a ∈ B := by
  induction r with
  | nil => intro i d h; simp at h
  | any _ ih =>
    intro i d h
    cases i with
    | zero => simp at h
    | succ i => exact ih (i := i) (by simpa using h)
  | @val v d0 σ ρ B C r _ n ih =>
    intro i d h
    cases i with
    | zero =>
      have e : d0 = d := by simpa using h
      subst e
      exact ⟨v, B, by simp, r, fun _ m => List.mem_append_left _ m⟩
    | succ i =>
      obtain ⟨v', C', h1, h2, h3⟩ := ih (i := i) (by simpa using h)
      exact ⟨v', C', by simpa using h1, h2, fun a m => List.mem_append_right _ (h3 a m)⟩
/-- a name is given a new value -/
theorem EnvR.set (r : EnvR K A H σ ρ B) (q : Rp K A H v d C) (n : ∀ a ∈ C, a ∉ B) : ∀ i, ∃ B', EnvR K A H (σ.set i (some v)) (ρ.set i (some d)) B' ∧ ∀ a ∈ B', a ∈ C ∨ a ∈ B := by
  induction r with
  | nil => exact fun i => ⟨[], .nil, fun _ h => nomatch h⟩
  | @any x σ ρ B r ih =>
    intro i
    cases i with
    | zero => exact ⟨C ++ B, .val q r n, fun a h => List.mem_append.mp h⟩
    | succ i =>
      obtain ⟨B', e, s⟩ := ih n i
      exact ⟨B', .any e, s⟩
  | @val v' d' σ ρ B1 B2 r1 r2 n2 ih =>
    intro i
    cases i with
    | zero => exact ⟨C ++ B2, .val q r2 fun a h z => n a h (List.mem_append_right _ z), fun a h => (List.mem_append.mp h).imp id fun z => List.mem_append_right _ z⟩
    | succ i =>
      obtain ⟨B', e, s⟩ := ih (fun a h z => n a h (List.mem_append_right _ z)) i
      refine ⟨B1 ++ B', .val r1 e fun a h z => ?_, fun a h => ?_⟩
      · rcases s a z with z | z
        · exact n a z (List.mem_append_left _ h)
        · exact n2 a h z
      · rcases List.mem_append.mp h with h | h
        · exact .inr (List.mem_append_left _ h)
        · exact (s a h).imp id fun z => List.mem_append_right _ z
theorem EnvR.len (r : EnvR K A H σ ρ B) : σ.length = ρ.length := by
  induction r with
  | nil => rfl
  | any _ ih => simp [ih]
  | val _ _ _ ih => simp [ih]
/-- some names forgotten -/
inductive Weak : Env → Env → Prop
  | nil : Weak [] []
  | drop {x : Option D} {ρ ρ' : Env} : Weak ρ ρ' → Weak (x :: ρ) (none :: ρ')
  | same {x : Option D} {ρ ρ' : Env} : Weak ρ ρ' → Weak (x :: ρ) (x :: ρ')
theorem Weak.refl : ∀ ρ : Env, Weak ρ ρ
  | [] => .nil
  | _ :: ρ => .same (Weak.refl ρ)
theorem EnvR.weak {ρ' : Env} (w : Weak ρ ρ') : ∀ {σ : L2.St} {B : List Addr}, EnvR K A H σ ρ B → ∃ B', EnvR K A H σ ρ' B' ∧ ∀ a ∈ B', a ∈ B := by
  induction w with
  | nil =>
    intro σ B r
    cases r
    exact ⟨[], .nil, fun _ h => h⟩
  | drop _ ih =>
    intro σ B r
    cases r with
    | any r =>
      obtain ⟨B', e, s⟩ := ih r
      exact ⟨B', .any e, s⟩
    | val r1 r2 n =>
      obtain ⟨B', e, s⟩ := ih r2
      exact ⟨B', .any e, fun a h => List.mem_append_right _ (s a h)⟩
  | same _ ih =>
    intro σ B r
    cases r with
    | any r =>
      obtain ⟨B', e, s⟩ := ih r
      exact ⟨B', .any e, s⟩
    | val r1 r2 n =>
      obtain ⟨B', e, s⟩ := ih r2
      refine ⟨_, .val r1 e fun a h z => n a h (s a z), fun a h => ?_⟩
      exact (List.mem_append.mp h).elim (List.mem_append_left _) fun z => List.mem_append_right _ (s a z)

/-! worlds -/
theorem Keep.ex (e : Ex H H') (f : Fresh H C) : Keep A H B (A.and C) H' → Keep A H B (A.and C) H' := id
theorem keep_and (w : WA A H) (e : Ex H H') (f : Fresh H C) (hB : ∀ a ∈ B, A a) : Keep A H B (A.and C) H' :=
  ⟨fun a o h n => ⟨e a o h, fun z => z.elim n fun m => by rw [f a m] at h; cases h⟩, fun a o m h => ⟨e a o h, .inl (hB a m)⟩⟩
theorem WA.and (w : WA A H) (e : Ex H H') (t : ∀ a ∈ C, H' a ≠ none) : WA (A.and C) H' := fun a h => h.elim (fun h => e.ne (w a h)) (t a)
/-- owning less -/
theorem keep_less (h : ∀ a, A' a → A a) (hB : ∀ a ∈ B, A' a) : Keep A H B A' H := ⟨fun _ _ e n => ⟨e, fun z => n (h _ z)⟩, fun a _ m e => ⟨e, hB a m⟩⟩
end

/-! ### what an expression evaluates to -/
def EvS (K : PySem.W.Frag) (te : TE) (ρ : Env) (d : D) : Prop := ∀ (A : Own) (H : Hp) (σ : L2.St) (B : List Addr), WA A H → EnvR K A H σ ρ B → ∀ Q : VK,
  (∀ v H' C, Ex H H' → Fresh H C → Rp K (A.and C) H' v d C → Q v H') → te σ H Q
def EvA (K : PySem.W.Frag) (ta : TA) (ρ : Env) (ds : List D) : Prop := ∀ (A : Own) (H : Hp) (σ : L2.St) (B : List Addr), WA A H → EnvR K A H σ ρ B → ∀ Q : List V → Hp → Prop,
  (∀ vs H' C, Ex H H' → Fresh H C → RpAll K (A.and C) H' vs ds C → Q vs H') → ta σ H Q
def EvT (K : PySem.W.Frag) (tt : TT) (ρ : Env) (b : Bool) : Prop := ∀ (A : Own) (H : Hp) (σ : L2.St) (B : List Addr), WA A H → EnvR K A H σ ρ B → ∀ Q : Bool → Hp → Prop,
  (∀ H', Ex H H' → Q b H') → tt σ H Q
/-- a two-place operation upon data: the answer may take over what the operands own -/
def Op2 (K : PySem.W.Frag) (r : R2) (d e z : D) : Prop := ∀ (A : Own) (H : Hp) (x y : V) (B C : List Addr), WA A H → Rp K A H x d B → Rp K A H y e C → (∀ a ∈ B, a ∉ C) → ∀ Q : VK,
  (∀ v H' E, Ex H H' → (∀ a ∈ E, H a = none ∨ a ∈ B ∨ a ∈ C) → Rp K (A.and E) H' v z E → Q v H') → r x y H Q
def Op1 (K : PySem.W.Frag) (r : V → Hp → VK → Prop) (d z : D) : Prop := ∀ (A : Own) (H : Hp) (x : V) (B : List Addr), WA A H → Rp K A H x d B → ∀ Q : VK,
  (∀ v H' E, Ex H H' → (∀ a ∈ E, H a = none ∨ a ∈ B) → Rp K (A.and E) H' v z E → Q v H') → r x H Q
/-- a call upon data -/
def OpC (K : PySem.W.Frag) (r : List V → Hp → VK → Prop) (ds : List D) (z : D) : Prop := ∀ (A : Own) (H : Hp) (xs : List V) (B : List Addr), WA A H → RpAll K A H xs ds B → ∀ Q : VK,
  (∀ v H' E, Ex H H' → (∀ a ∈ E, H a = none ∨ a ∈ B) → Rp K (A.and E) H' v z E → Q v H') → r xs H Q

section
variable {K : PySem.W.Frag} {ρ : Env} {ta tb te : TE} {t u : TT} {x y z d e : D} {r : R2}
theorem ev_c {v : V} : EvS K (tC v) ρ (.sc v) := fun _ H _ _ _ _ Q q => q v H [] Ex.rfl' (fun _ h => nomatch h) (.sc v)
theorem ev_var {i : Nat} (h : ρ[i]? = some (some d)) (hd : d.shd = true) : EvS K (tVar i) ρ d := fun A H σ B w r Q q => by
  obtain ⟨v, C, h1, h2, h3⟩ := r.get h
  obtain rfl := h2.shd _ hd
  refine ⟨v, h1, q v H [] Ex.rfl' (fun _ h => nomatch h) ?_⟩
  rw [Own.and_nil]
  exact h2
theorem ev_op (ha : EvS K ta ρ x) (hb : EvS K tb ρ y) (hr : Op2 K r x y z) : EvS K (tOp r ta tb) ρ z := fun A H σ B w rr Q q =>
  ha A H σ B w rr _ fun v1 H1 C1 e1 f1 p1 => by
    have w1 : WA (A.and C1) H1 := w.and e1 fun a h => (p1.tracked _ a h).1
    refine hb (A.and C1) H1 σ B w1 (rr.keep (keep_and w e1 f1 fun a h => (rr.tracked a h).2)) _ fun v2 H2 C2 e2 f2 p2 => ?_
    have w2 : WA ((A.and C1).and C2) H2 := w1.and e2 fun a h => (p2.tracked _ a h).1
    refine hr _ H2 v1 v2 C1 C2 w2 (p1.keep _ (keep_and w1 e2 f2 fun a h => (p1.tracked _ a h).2)) p2 (fun a h z => (p1.tracked _ a h).1 (f2 a z)) Q fun v H3 E e3 f3 p3 => ?_
    refine q v H3 E ((e1.tr e2).tr e3) (fun a h => ?_) (p3.keep _ (keep_less (fun a h => h.imp (fun h => .inl (.inl h)) id) fun a h => .inr h))
    rcases f3 a h with h | h | h
    · exact e1.back (e2.back h)
    · exact f1 a h
    · exact e1.back (f2 a h)
theorem ev_un {r : V → Hp → VK → Prop} (ha : EvS K ta ρ x) (hr : Op1 K r x z) : EvS K (tUn r ta) ρ z := fun A H σ B w rr Q q =>
  ha A H σ B w rr _ fun v1 H1 C1 e1 f1 p1 => by
    have w1 : WA (A.and C1) H1 := w.and e1 fun a h => (p1.tracked _ a h).1
    refine hr _ H1 v1 C1 w1 p1 Q fun v H3 E e3 f3 p3 => ?_
    refine q v H3 E (e1.tr e3) (fun a h => (f3 a h).elim e1.back (f1 a)) (p3.keep _ (keep_less (fun a h => h.imp (fun h => .inl h) id) fun a h => .inr h))
theorem ea_nil : EvA K tNil ρ [] := fun _ H _ _ _ _ Q q => q [] H [] Ex.rfl' (fun _ h => nomatch h) .nil
theorem ea_cons {tr : TA} {ds : List D} (ha : EvS K ta ρ x) (hr : EvA K tr ρ ds) : EvA K (tCons ta tr) ρ (x :: ds) := fun A H σ B w rr Q q =>
  ha A H σ B w rr _ fun v1 H1 C1 e1 f1 p1 => by
    have w1 : WA (A.and C1) H1 := w.and e1 fun a h => (p1.tracked _ a h).1
    refine hr (A.and C1) H1 σ B w1 (rr.keep (keep_and w e1 f1 fun a h => (rr.tracked a h).2)) _ fun vs H2 C2 e2 f2 p2 => ?_
    refine q (v1 :: vs) H2 (C1 ++ C2) (e1.tr e2) (fun a h => (List.mem_append.mp h).elim (f1 a) fun h => e1.back (f2 a h)) ?_
    have k : ∀ a, (A.and (C1 ++ C2)) a ↔ ((A.and C1).and C2) a := fun a => by simp [Own.and, or_assoc]
    refine .cons ((p1.keep _ (keep_and w1 e2 f2 fun a h => (p1.tracked _ a h).2)).keep _ ⟨fun a o e n => ⟨e, fun z => n ((k a).mp z)⟩, fun a o h e => ⟨e, .inr (List.mem_append_left _ h)⟩⟩)
      (p2.keep _ ⟨fun a o e n => ⟨e, fun z => n ((k a).mp z)⟩, fun a o h e => ⟨e, .inr (List.mem_append_right _ h)⟩⟩) fun a h z => (p1.tracked _ a h).1 (f2 a z)
theorem ev_call {ds : List D} {t : TA} {r : List V → Hp → VK → Prop} (ha : EvA K t ρ ds) (hr : OpC K r ds z) : EvS K (tCB r t) ρ z := fun A H σ B w rr Q q =>
  ha A H σ B w rr _ fun v1 H1 C1 e1 f1 p1 => by
    have w1 : WA (A.and C1) H1 := w.and e1 fun a h => (p1.tracked _ a h).1
    refine hr _ H1 v1 C1 w1 p1 Q fun v H3 E e3 f3 p3 => ?_
    refine q v H3 E (e1.tr e3) (fun a h => (f3 a h).elim e1.back (f1 a)) (p3.keep _ (keep_less (fun a h => h.imp (fun h => .inl h) id) fun a h => .inr h))
/-- a new object -/
theorem keep_new {A : Own} {H : Hp} {B : List Addr} {p : Addr} {o : HO} (hp : H p = none) (hB : ∀ a ∈ B, A a) (C : List Addr) : Keep A H B (A.and (p :: C)) (upd H p o) → True := fun _ => trivial
theorem ev_tup {ds : List D} {t : TA} (ha : EvA K t ρ ds) (hl : ds.length ≤ 1000000) : EvS K (tTup t) ρ (.tup true ds) := fun A H σ B w rr Q q =>
  ha A H σ B w rr _ fun vs H1 C1 e1 f1 p1 => by
    refine ⟨?_, fun p hp => ?_⟩
    · rw [p1.len]
      exact Nat.le_trans hl (by decide)
    have e2 : Ex H1 (upd H1 p (.tup vs)) := Ex.new hp
    have np : p ∉ C1 := fun z => (p1.tracked _ p z).1 hp
    refine q (.ref p) _ (p :: C1) (e1.tr e2) (fun a h => (List.mem_cons.mp h).elim (fun z => by rw [z]; exact e1.back hp) (f1 a)) ?_
    refine .tupO upd_same (.inr List.mem_cons_self) np (p1.keep _ ⟨fun a o e n => ⟨e2 a o e, fun z => ?_⟩, fun a o h e => ⟨e2 a o e, .inr (List.mem_cons_of_mem _ h)⟩⟩)
    rcases z with z | z
    · exact n (.inl z)
    · rcases List.mem_cons.mp z with z | z
      · rw [z, hp] at e; cases e
      · exact n (.inr z)
theorem ev_lst {ds : List D} {t : TA} (ha : EvA K t ρ ds) (hl : ds.length ≤ 1000000) : EvS K (tLst t) ρ (.lst true ds) := fun A H σ B w rr Q q =>
  ha A H σ B w rr _ fun vs H1 C1 e1 f1 p1 => by
    refine ⟨?_, fun p hp => ?_⟩
    · rw [p1.len]
      exact Nat.le_trans hl (by decide)
    have e2 : Ex H1 (upd H1 p (.lst vs)) := Ex.new hp
    have np : p ∉ C1 := fun z => (p1.tracked _ p z).1 hp
    refine q (.ref p) _ (p :: C1) (e1.tr e2) (fun a h => (List.mem_cons.mp h).elim (fun z => by rw [z]; exact e1.back hp) (f1 a)) ?_
    refine .lstO upd_same (.inr List.mem_cons_self) np (p1.keep _ ⟨fun a o e n => ⟨e2 a o e, fun z => ?_⟩, fun a o h e => ⟨e2 a o e, .inr (List.mem_cons_of_mem _ h)⟩⟩)
    rcases z with z | z
    · exact n (.inl z)
    · rcases List.mem_cons.mp z with z | z
      · rw [z, hp] at e; cases e
      · exact n (.inr z)
/-- the fresh is given up: shared from now on -/
theorem ev_frz (h : EvS K te ρ d) : EvS K te ρ d.frz := fun A H σ B w rr Q q => h A H σ B w rr Q fun v H1 C e f p => by
  refine q v H1 [] e (fun _ h => nomatch h) ?_
  rw [Own.and_nil]
  refine p.loose _ ⟨fun a o e' n => ⟨e', fun z => n (.inl z)⟩, fun a o hc e' => ⟨e', fun z => w a z (f a hc)⟩⟩
/-- what leans on nothing may be reckoned with the names given up -/
theorem ev_of (h : EvS K te (frzE ρ) d) (hd : d.closed = true) : EvS K te ρ d := fun A H σ B w rr Q q =>
  h Own.no H σ [] (fun _ h => h.elim) (rr.loose ⟨fun a o e n => ⟨e, fun z => z⟩, fun a o hb e => ⟨e, fun z => z⟩⟩) Q fun v H1 C e f p =>
    q v H1 C e f (p.closed _ hd fun a h => .inr h)
theorem et_of {b : Bool} (h : EvT K t (frzE ρ) b) : EvT K t ρ b := fun A H σ B w rr Q q =>
  h Own.no H σ [] (fun _ h => h.elim) (rr.loose ⟨fun a o e n => ⟨e, fun z => z⟩, fun a o hb e => ⟨e, fun z => z⟩⟩) Q q

/-! tests -/
theorem et_test {b : Bool} (h : EvS K te ρ (.bl b)) : EvT K (tTest te) ρ b := fun A H σ B w rr Q q => h A H σ B w rr _ fun v H1 C e f p => by
  cases p
  exact ⟨b, rfl, q H1 e⟩
theorem et_B {b : Bool} (h : EvS K te ρ (.bl b)) : EvT K (tB te) ρ b := et_test h
theorem et_step {A : Own} {H H1 : Hp} {σ : L2.St} {B : List Addr} (w : WA A H) (rr : EnvR K A H σ ρ B) (e : Ex H H1) : WA A H1 ∧ EnvR K A H1 σ ρ B :=
  ⟨fun a h => e.ne (w a h), rr.keep ⟨fun a o h n => ⟨e a o h, n⟩, fun a o m h => ⟨e a o h, (rr.tracked a m).2⟩⟩⟩
theorem et_and {a b : Bool} (h1 : EvT K t ρ a) (h2 : a = true → EvT K u ρ b) : EvT K (tAnd t u) ρ (a && b) := fun A H σ B w rr Q q => h1 A H σ B w rr _ fun H1 e => by
  obtain ⟨w1, r1⟩ := et_step w rr e
  cases a with
  | true => exact h2 rfl A H1 σ B w1 r1 Q fun H2 e2 => q H2 (e.tr e2)
  | false => exact q H1 e
theorem et_or {a b : Bool} (h1 : EvT K t ρ a) (h2 : a = false → EvT K u ρ b) : EvT K (tOr t u) ρ (a || b) := fun A H σ B w rr Q q => h1 A H σ B w rr _ fun H1 e => by
  obtain ⟨w1, r1⟩ := et_step w rr e
  cases a with
  | false => exact h2 rfl A H1 σ B w1 r1 Q fun H2 e2 => q H2 (e.tr e2)
  | true => exact q H1 e
theorem et_not {a : Bool} (h1 : EvT K t ρ a) : EvT K (tNot t) ρ (!a) := fun A H σ B w rr Q q => h1 A H σ B w rr _ q
theorem ev_if {b : Bool} (h : EvT K t ρ b) (h1 : b = true → EvS K ta ρ d) (h2 : b = false → EvS K tb ρ d) : EvS K (tIf t ta tb) ρ d := fun A H σ B w rr Q q => h A H σ B w rr _ fun H1 e => by
  obtain ⟨w1, r1⟩ := et_step w rr e
  have go : ∀ {te}, EvS K te ρ d → te σ H1 Q := fun h => h A H1 σ B w1 r1 Q fun v H2 C e2 f2 p => q v H2 C (e.tr e2) (f2.back e) p
  cases b with
  | true => exact go (h1 rfl)
  | false => exact go (h2 rfl)
theorem ev_andV {a : Bool} {b : D} (h1 : EvS K ta ρ (.bl a)) (h2 : a = true → EvS K tb ρ b) (h3 : a = false → b = .bl false) : EvS K (tAndV ta tb) ρ b := fun A H σ B w rr Q q => h1 A H σ B w rr _ fun v H1 C e f p => by
  cases p
  obtain ⟨w1, r1⟩ := et_step w rr e
  refine ⟨a, rfl, ?_⟩
  cases a with
  | true => exact h2 rfl A H1 σ B w1 r1 Q fun v H2 C e2 f2 p => q v H2 C (e.tr e2) (f2.back e) p
  | false =>
    rw [h3 rfl] at q
    exact q _ H1 [] e (fun _ h => nomatch h) (.sc _)
theorem ev_orV {a : Bool} {b : D} (h1 : EvS K ta ρ (.bl a)) (h2 : a = false → EvS K tb ρ b) (h3 : a = true → b = .bl true) : EvS K (tOrV ta tb) ρ b := fun A H σ B w rr Q q => h1 A H σ B w rr _ fun v H1 C e f p => by
  cases p
  obtain ⟨w1, r1⟩ := et_step w rr e
  refine ⟨a, rfl, ?_⟩
  cases a with
  | false => exact h2 rfl A H1 σ B w1 r1 Q fun v H2 C e2 f2 p => q v H2 C (e.tr e2) (f2.back e) p
  | true =>
    rw [h3 rfl] at q
    exact q _ H1 [] e (fun _ h => nomatch h) (.sc _)
theorem ev_notV {a : Bool} (h1 : EvS K ta ρ (.bl a)) : EvS K (tNotV ta) ρ (.bl !a) := fun A H σ B w rr Q q => h1 A H σ B w rr _ fun v H1 C e f p => by
  cases p
  exact ⟨a, rfl, q _ H1 [] e (fun _ h => nomatch h) (.sc _)⟩
theorem ev_chain {r r' : R2} {tc : TE} {a : Bool} (ha : EvS K ta ρ (.sc x')) (hb : EvS K tb ρ (.sc y')) (h1 : ∀ H (Q : VK), Q (.bl a) H → r x' y' H Q) (hc : a = true → EvS K tc ρ (.sc z')) (h2 : a = true → ∀ H (Q : VK), Q (.bl b') H → r' y' z' H Q) :
    EvS K (tChain r r' ta tb tc) ρ (.bl (a && b')) := fun A H σ B w rr Q q => ha A H σ B w rr _ fun v1 H1 C1 e1 f1 p1 => by
  cases p1
  obtain ⟨w1, r1⟩ := et_step w rr e1
  refine hb A H1 σ B w1 r1 _ fun v2 H2 C2 e2 f2 p2 => ?_
  cases p2
  obtain ⟨w2, r2⟩ := et_step w1 r1 e2
  refine h1 H2 _ ⟨a, rfl, ?_⟩
  cases a with
  | false => exact q _ H2 [] (e1.tr e2) (fun _ h => nomatch h) (.sc _)
  | true =>
    refine hc rfl A H2 σ B w2 r2 _ fun v3 H3 C3 e3 f3 p3 => ?_
    cases p3
    exact h2 rfl H3 _ (q _ H3 [] ((e1.tr e2).tr e3) (fun _ h => nomatch h) (.sc _))
end
end FP

namespace FP
open PySem PySem.Spec PyProof.Rows L2

/-! ### operators upon values: rules that serve several kinds -/
theorem CallR.or {X : Cx} {f : Value} {r r' : List V → Hp → VK → Prop} (h : CallR X f r) (h' : CallR X f r') : CallR X f (fun xs H Q => r xs H Q ∨ r' xs H Q) := by
  intro pins s σ H xs us Q I rx q
  rcases q with q | q
  · exact h pins s σ H xs us Q I rx q
  · exact h' pins s σ H xs us Q I rx q
def rAddS : R2 := fun x y H Q => ∃ i j, x = V.str i ∧ y = V.str j ∧ i.length + j.length ≤ sizeLine ∧ Q (V.str (i ++ j)) H
/-- lists -/
def rCatS (K : PySem.W.Frag) : R2 := fun x y H Q => ∃ l b xs zs, x = .ref l ∧ y = .ref b ∧ SqL K H l xs ∧ SqL K H b zs ∧ xs.length + zs.length ≤ sizeLine ∧ ∀ p, H p = none → Q (.ref p) (upd H p (.lst (xs ++ zs)))
section
variable {X : Cx}
theorem op_catS : OpR X (binaryOp .Add) (rCatS X.K) := by
  intro pins s σ H x y v u Q I rx ry h
  obtain ⟨l, b, xs, zs, rfl, rfl, hH, hB, hz, q⟩ := h
  cases rx
  cases ry
  obtain ⟨its, r, ⟨⟨cls, dd, data, sl⟩, n, ho, hc, _, hd⟩, z⟩ := I.list hH
  obtain ⟨its2, r2, ⟨⟨cls2, dd2, data2, sl2⟩, n2, ho2, hc2, _, hd2⟩, z2⟩ := I.list hB
  simp only at hc hd hc2 hd2
  subst hc hd hc2 hd2
  have l1 := r.length
  have l2 := r2.length
  have ea : its.toArray ++ its2.toArray = (its ++ its2).toArray := by simp
  refine concat_meets ⟨_, ho, rfl⟩ ⟨_, ho2, rfl⟩ noFill_list_add seq_list_add PySem.F.slot_list_add PySem.F.entry_list_add (PySem.F.args_list_add_2 _ _) (list_addW l b its.toArray its2.toArray n n2 dd dd2 sl sl2 (by rw [List.size_toArray, List.size_toArray]; omega)) ⟨ho, ho2, ?_⟩
  rw [ea]
  exact ⟨.ref _, _, I.lnew (t' := s.toks) (r.append r2) (by rw [List.length_append]; omega), rfl, q _ I.fresh⟩
def rPlus (K : PySem.W.Frag) : R2 := fun x y H Q => rI0 (fun i j => .int (i + j)) x y H Q ∨ rAddS x y H Q ∨ rCatS K x y H Q ∨ rCatT K x y H Q
theorem op_plus : OpR X (binaryOp .Add) (rPlus X.K) := op_add.or (op_add_str.or (op_catS.or op_catT))
def rTimes : R2 := fun x y H Q => rI CMul (fun i j => .int (i * j)) x y H Q ∨ rI CMulW (fun i j => .int (i * j)) x y H Q ∨ rRep x y H Q
theorem op_times : OpR X (binaryOp .Mult) rTimes := op_mul.or (op_mulW.or op_rep)
def rFd : R2 := fun x y H Q => rI CDiv (fun i j => .int (i / j)) x y H Q ∨ rI CDivW (fun i j => .int (i / j)) x y H Q
theorem op_fd : OpR X (binaryOp .FloorDiv) rFd := op_fdiv.or op_fdivW
def rMd : R2 := rI (fun _ j => 0 < j) fun i j => .int (i % j)
theorem op_md : OpR X (binaryOp .Mod) rMd := op_mod
def rSb : R2 := rI0 fun i j => .int (i - j)
theorem op_sb : OpR X (binaryOp .Sub) rSb := op_sub
def rPw : R2 := rI CPow fun i j => .int (i ^ j.toNat)
theorem op_pw : OpR X (binaryOp .Pow) rPw := op_pow
def rNg : V → Hp → VK → Prop := rU fun i => .int (-i)
theorem un_ng : UnR X (unaryOp .USub) rNg := un_neg
/-! comparisons -/
def rEqq (K : PySem.W.Frag) : R2 := fun x y H Q => rEq x y H Q ∨ rEqD K x y H Q
theorem op_eqq (hu : X.A.units + 64 < cLine) : OpR X (compareOp .Eq) (rEqq X.K) := op_eq.or (op_eqD hu)
def rNee (K : PySem.W.Frag) : R2 := fun x y H Q => rNe x y H Q ∨ rNeD K x y H Q
theorem op_nee (hu : X.A.units + 64 < cLine) : OpR X (compareOp .NotEq) (rNee X.K) := op_ne.or (op_neD hu)
def rLtS : R2 := fun x y H Q => ∃ i j, x = V.str i ∧ y = V.str j ∧ Q (V.bl (decide (i.cps.toList < j.cps.toList))) H
def rLeS : R2 := fun x y H Q => ∃ i j, x = V.str i ∧ y = V.str j ∧ Q (V.bl !decide (j.cps.toList < i.cps.toList)) H
def rGtS : R2 := fun x y H Q => ∃ i j, x = V.str i ∧ y = V.str j ∧ Q (V.bl (decide (j.cps.toList < i.cps.toList))) H
def rGeS : R2 := fun x y H Q => ∃ i j, x = V.str i ∧ y = V.str j ∧ Q (V.bl !decide (i.cps.toList < j.cps.toList)) H
def rLtt (K : PySem.W.Frag) : R2 := fun x y H Q => rI0 (fun i j => .bl (decide (i < j))) x y H Q ∨ rLtS x y H Q ∨ rLtT K x y H Q
theorem op_ltt (hu : X.A.units < cLine) : OpR X (compareOp .Lt) (rLtt X.K) := op_lt.or (op_lt_str.or (op_ltT hu))
def rLee : R2 := fun x y H Q => rI0 (fun i j => .bl (decide (i ≤ j))) x y H Q ∨ rLeS x y H Q
theorem op_lee : OpR X (compareOp .LtE) rLee := op_le.or op_le_str
def rGtt : R2 := fun x y H Q => rI0 (fun i j => .bl (decide (j < i))) x y H Q ∨ rGtS x y H Q
theorem op_gtt : OpR X (compareOp .Gt) rGtt := op_gt.or op_gt_str
def rGee : R2 := fun x y H Q => rI0 (fun i j => .bl (decide (j ≤ i))) x y H Q ∨ rGeS x y H Q
theorem op_gee : OpR X (compareOp .GtE) rGee := op_ge.or op_ge_str
def rInSg : R2 := fun x y H Q => ∃ c z, x = V.str { cps := #[c] } ∧ y = V.str z ∧ Q (V.bl (decide (c ∈ z.cps.toList))) H
def rNiSg : R2 := fun x y H Q => ∃ c z, x = V.str { cps := #[c] } ∧ y = V.str z ∧ Q (V.bl !decide (c ∈ z.cps.toList)) H
def rInn (K : PySem.W.Frag) : R2 := fun x y H Q => rIn K false x y H Q ∨ rInSg x y H Q
theorem op_inn : OpR X (compareOp .In) (rInn X.K) := op_in_seq.or op_in_sign
def rNii (K : PySem.W.Frag) : R2 := fun x y H Q => rIn K true x y H Q ∨ rNiSg x y H Q
theorem op_nii : OpR X (compareOp .NotIn) (rNii X.K) := op_notIn_seq.or op_notIn_sign
def rIsNo : R2 := fun x y H Q => y = .non ∧ Q (.bl (decide (x = .non))) H
def rNotNo : R2 := fun x y H Q => y = .non ∧ Q (.bl (!decide (x = .non))) H
def rIss : R2 := fun x y H Q => rIsNo x y H Q ∨ rIsB x y H Q
theorem op_iss : OpR X (compareOp .Is) rIss := op_isN.or op_isBl
def rIsn : R2 := fun x y H Q => rNotNo x y H Q ∨ rNotB x y H Q
theorem op_isn : OpR X (compareOp .IsNot) rIsn := op_notN.or op_notBl
/-! calls -/
def rInt1 : List V → Hp → VK → Prop := fun xs H Q => (∃ i, xs = [V.int i] ∧ Q (V.int i) H) ∨ ∃ k, xs = [V.bl k] ∧ Q (V.int (if k = true then 1 else 0)) H
def rIntS : List V → Hp → VK → Prop := fun xs H Q => ∃ a n, xs = [V.str a] ∧ intText? a = some n ∧ a.length ≤ 640 ∧ Q (V.int n) H
def rIntt : List V → Hp → VK → Prop := fun xs H Q => rInt1 xs H Q ∨ rIntS xs H Q
theorem call_intt : CallR X (.type "int") rIntt := CallR.or call_int1 call_int_str
def rStrI : List V → Hp → VK → Prop := fun xs H Q => ∃ i, xs = [V.int i] ∧ i.natAbs.log2 < 1920 ∧ Q (V.str (Str.ofString (toString i))) H
theorem call_strI : CallR X (.type "str") rStrI := call_str_int
def rLen (K : PySem.W.Frag) : List V → Hp → VK → Prop := fun xs H Q => ∃ x n, xs = [x] ∧ LenV K x H n ∧ Q (V.int ↑n) H
theorem call_lenn : CallR X (.builtin "len") (rLen X.K) := call_len
def rListOf (K : PySem.W.Frag) : List V → Hp → VK → Prop := fun xs H Q => ∃ p ys, xs = [V.ref p] ∧ (SqL K H p ys ∨ SqT K H p ys) ∧ ∀ (l : Addr), H l = none → Q (V.ref l) (upd H l (HO.lst ys))
theorem call_listOf : CallR X (.type "list") (rListOf X.K) := call_list_of
def rTupOf (K : PySem.W.Frag) : List V → Hp → VK → Prop := fun xs H Q => ∃ p ys, xs = [V.ref p] ∧ ((SqL K H p ys ∧ ∀ (l : Addr), H l = none → Q (V.ref l) (upd H l (HO.tup ys))) ∨ SqT K H p ys ∧ Q (V.ref p) H)
theorem call_tupOf : CallR X (.type "tuple") (rTupOf X.K) := call_tuple_of
def rIsis (K : PySem.W.Frag) : List V → Hp → VK → Prop := fun xs H Q => rIsi K xs H Q ∨ rIsiT K xs H Q
theorem call_isis : CallR X (.builtin "isinstance") (rIsis X.K) := CallR.or call_isi call_isiT
def rMax2 : List V → Hp → VK → Prop := fun xs H Q => ∃ i j, xs = [V.int i, V.int j] ∧ Q (V.int (if j > i then j else i)) H
def rMin2 : List V → Hp → VK → Prop := fun xs H Q => ∃ i j, xs = [V.int i, V.int j] ∧ Q (V.int (if j < i then j else i)) H
def rMaxx (K : PySem.W.Frag) : List V → Hp → VK → Prop := fun xs H Q => rMax2 xs H Q ∨ rMax K xs H Q
theorem call_maxx (hc : X.calm = true) : CallR X (.builtin "max") (rMaxx X.K) := CallR.or (call_max2 hc) (cr_max hc)
def rMinn (K : PySem.W.Frag) : List V → Hp → VK → Prop := fun xs H Q => rMin2 xs H Q ∨ rMin K xs H Q
theorem call_minn (hc : X.calm = true) : CallR X (.builtin "min") (rMinn X.K) := CallR.or (call_min2 hc) (cr_min hc)
def rAbs : List V → Hp → VK → Prop := fun xs H Q => ∃ i, xs = [V.int i] ∧ Q (V.int (if i < 0 then -i else i)) H
theorem call_abss : CallR X (.builtin "abs") rAbs := call_abs
end

/-! ### the same upon data -/
section
variable {K : PySem.W.Frag} {A : Own} {H : Hp} {v : V} {d e z : D} {ds es : List D} {B C : List Addr} {i j : Int} {a b : Str}
theorem nofresh {H : Hp} {B C : List Addr} : ∀ a ∈ ([] : List Addr), H a = none ∨ a ∈ B ∨ a ∈ C := fun _ h => nomatch h
theorem nofresh1 {H : Hp} {B : List Addr} : ∀ a ∈ ([] : List Addr), H a = none ∨ a ∈ B := fun _ h => nomatch h
theorem op2_sc {r : R2} {x y z : V} (h : ∀ H (Q : VK), Q z H → r x y H Q) : Op2 K r (.sc x) (.sc y) (.sc z) := fun A H _ _ B C w p1 p2 n Q q => by
  cases p1
  cases p2
  exact h H Q (q z H [] Ex.rfl' nofresh (.sc z))
theorem op2_bl {r : R2} {k : Bool} (h : ∀ A H x y B C, Rp K A H x d B → Rp K A H y e C → ∀ Q : VK, Q (.bl k) H → r x y H Q) : Op2 K r d e (.bl k) := fun A H x y B C w p1 p2 n Q q =>
  h A H x y B C p1 p2 Q (q (.bl k) H [] Ex.rfl' nofresh (.sc _))
theorem op1_sc {r : V → Hp → VK → Prop} {x z : V} (h : ∀ H (Q : VK), Q z H → r x H Q) : Op1 K r (.sc x) (.sc z) := fun A H _ B w p1 Q q => by
  cases p1
  exact h H Q (q z H [] Ex.rfl' nofresh1 (.sc z))
theorem opc_sc {r : List V → Hp → VK → Prop} {z : V} (h : ∀ A H xs B, RpAll K A H xs ds B → ∀ Q : VK, Q z H → r xs H Q) : OpC K r ds (.sc z) := fun A H xs B w p Q q =>
  h A H xs B p Q (q z H [] Ex.rfl' nofresh1 (.sc z))
theorem RpAll.one {xs : List V} (h : RpAll K A H xs [d] B) : ∃ x, xs = [x] ∧ Rp K A H x d B := by
  cases h with
  | cons r t n =>
    cases t
    rw [List.append_nil]
    exact ⟨_, rfl, r⟩
theorem RpAll.two {xs : List V} (h : RpAll K A H xs [d, e] B) : ∃ x y B1 B2, xs = [x, y] ∧ Rp K A H x d B1 ∧ Rp K A H y e B2 ∧ B = B1 ++ B2 ∧ ∀ a ∈ B1, a ∉ B2 := by
  cases h with
  | cons r t n =>
    obtain ⟨y, rfl, t1⟩ := t.one
    exact ⟨_, _, _, _, rfl, r, t1, rfl, n⟩
theorem plus_int : Op2 K (rPlus K) (.int i) (.int j) (.int (i + j)) := op2_sc fun H Q q => .inl ⟨i, j, rfl, rfl, q⟩
theorem plus_str (h : a.length + b.length ≤ sizeLine) : Op2 K (rPlus K) (.str a) (.str b) (.str (a ++ b)) := op2_sc fun H Q q => .inr (.inl ⟨a, b, rfl, rfl, h, q⟩)
theorem sub_int' : Op2 K rSb (.int i) (.int j) (.int (i - j)) := op2_sc fun H Q q => ⟨i, j, rfl, rfl, q⟩
theorem times_int (h : CMul i j) : Op2 K rTimes (.int i) (.int j) (.int (i * j)) := op2_sc fun H Q q => .inl ⟨i, j, rfl, rfl, h, q⟩
theorem times_wide (h : CMulW i j) : Op2 K rTimes (.int i) (.int j) (.int (i * j)) := op2_sc fun H Q q => .inr (.inl ⟨i, j, rfl, rfl, h, q⟩)
theorem fd_int (h : CDiv i j) : Op2 K rFd (.int i) (.int j) (.int (i / j)) := op2_sc fun H Q q => .inl ⟨i, j, rfl, rfl, h, q⟩
theorem md_int (h : 0 < j) : Op2 K rMd (.int i) (.int j) (.int (i % j)) := op2_sc fun H Q q => ⟨i, j, rfl, rfl, h, q⟩
theorem pw_int (h : CPow i j) : Op2 K rPw (.int i) (.int j) (.int (i ^ j.toNat)) := op2_sc fun H Q q => ⟨i, j, rfl, rfl, h, q⟩
theorem ng_int : Op1 K rNg (.int i) (.int (-i)) := op1_sc fun H Q q => ⟨i, rfl, q⟩
theorem eq_sc {x y : V} (h : scal x y = true) : Op2 K (rEqq K) (.sc x) (.sc y) (.bl (decide (x = y))) := op2_sc fun H Q q => .inl ⟨h, q⟩
theorem ne_sc {x y : V} (h : scal x y = true) : Op2 K (rNee K) (.sc x) (.sc y) (.bl (!decide (x = y))) := op2_sc fun H Q q => .inl ⟨h, q⟩
theorem decV_int : decide (V.int i = V.int j) = decide (i = j) := by simp
theorem decV_str : decide (V.str a = V.str b) = decide (a = b) := by simp
theorem eq_int' : Op2 K (rEqq K) (.int i) (.int j) (.bl (decide (i = j))) := by rw [← decV_int]; exact eq_sc rfl
theorem ne_int' : Op2 K (rNee K) (.int i) (.int j) (.bl (!decide (i = j))) := by rw [← decV_int]; exact ne_sc rfl
theorem eq_str' : Op2 K (rEqq K) (.str a) (.str b) (.bl (decide (a = b))) := by rw [← decV_str]; exact eq_sc rfl
theorem ne_str' : Op2 K (rNee K) (.str a) (.str b) (.bl (!decide (a = b))) := by rw [← decV_str]; exact ne_sc rfl
theorem eq_bl' {p q : Bool} : Op2 K (rEqq K) (.bl p) (.bl q) (.bl (decide (p = q))) := by
  have : decide (V.bl p = V.bl q) = decide (p = q) := by simp
  rw [← this]; exact eq_sc rfl
theorem ne_bl' {p q : Bool} : Op2 K (rNee K) (.bl p) (.bl q) (.bl (!decide (p = q))) := by
  have : decide (V.bl p = V.bl q) = decide (p = q) := by simp
  rw [← this]; exact ne_sc rfl
theorem lt_int' : Op2 K (rLtt K) (.int i) (.int j) (.bl (decide (i < j))) := op2_sc fun H Q q => .inl ⟨i, j, rfl, rfl, q⟩
theorem le_int' : Op2 K rLee (.int i) (.int j) (.bl (decide (i ≤ j))) := op2_sc fun H Q q => .inl ⟨i, j, rfl, rfl, q⟩
theorem gt_int' : Op2 K rGtt (.int i) (.int j) (.bl (decide (j < i))) := op2_sc fun H Q q => .inl ⟨i, j, rfl, rfl, q⟩
theorem ge_int' : Op2 K rGee (.int i) (.int j) (.bl (decide (j ≤ i))) := op2_sc fun H Q q => .inl ⟨i, j, rfl, rfl, q⟩
theorem lt_str' : Op2 K (rLtt K) (.str a) (.str b) (.bl (decide (a.cps.toList < b.cps.toList))) := op2_sc fun H Q q => .inr (.inl ⟨a, b, rfl, rfl, q⟩)
theorem le_str' : Op2 K rLee (.str a) (.str b) (.bl !decide (b.cps.toList < a.cps.toList)) := op2_sc fun H Q q => .inr ⟨a, b, rfl, rfl, q⟩
theorem in_sign' {c : Nat} : Op2 K (rInn K) (.str ⟨#[c]⟩) (.str b) (.bl (decide (c ∈ b.cps.toList))) := op2_sc fun H Q q => .inr ⟨c, b, rfl, rfl, q⟩
theorem ni_sign' {c : Nat} : Op2 K (rNii K) (.str ⟨#[c]⟩) (.str b) (.bl !decide (c ∈ b.cps.toList)) := op2_sc fun H Q q => .inr ⟨c, b, rfl, rfl, q⟩
/-! is None -/
def isNo : D → Bool
  | .sc .non => true
  | _ => false
theorem Rp.isNo (h : Rp K A H v d B) : decide (v = .non) = isNo d := by
  cases h with
  | sc => cases v <;> rfl
  | _ => rfl
theorem is_no : Op2 K rIss d .non (.bl (isNo d)) := op2_bl fun A H x y B C p1 p2 Q q => by
  cases p2
  exact .inl ⟨rfl, by rw [p1.isNo]; exact q⟩
theorem isn_no : Op2 K rIsn d .non (.bl !isNo d) := op2_bl fun A H x y B C p1 p2 Q q => by
  cases p2
  exact .inl ⟨rfl, by rw [p1.isNo]; exact q⟩
theorem is_bl {p q : Bool} : Op2 K rIss (.bl p) (.bl q) (.bl (decide (p = q))) := op2_sc fun H Q h => .inr ⟨p, q, rfl, rfl, h⟩
theorem isn_bl {p q : Bool} : Op2 K rIsn (.bl p) (.bl q) (.bl !decide (p = q)) := op2_sc fun H Q h => .inr ⟨p, q, rfl, rfl, h⟩

/-! lists and tuples -/
theorem RpAll.app : ∀ {ds es : List D} {xs ys : List V} {B C : List Addr}, RpAll K A H xs ds B → RpAll K A H ys es C → (∀ a ∈ B, a ∉ C) → RpAll K A H (xs ++ ys) (ds ++ es) (B ++ C)
  | _, _, _, _, _, _, .nil, t, _ => t
  | _, _, _, _, _, _, .cons r t n, u, m => by
    rw [List.append_assoc]
    refine .cons r (RpAll.app t u fun a h => m a (List.mem_append_right _ h)) fun a h z => ?_
    rcases List.mem_append.mp z with z | z
    · exact n a h z
    · exact m a (List.mem_append_left _ h) z
/-- a list's address, items, what it owns -/
theorem Rp.lst {o : Bool} (h : Rp K A H v (.lst o ds) B) : ∃ a xs C, v = .ref a ∧ SqL K H a xs ∧ RpAll K A H xs ds C ∧ (∀ b ∈ C, b ∈ B) ∧ (o = false → C = []) := by
  cases h with
  | lstS h r => exact ⟨_, _, _, rfl, h.imp (fun h => h.1) id, r, (fun _ h => nomatch h), fun _ => rfl⟩
  | lstO h a n r => exact ⟨_, _, _, rfl, .inl (.inl h), r, fun _ h => List.mem_cons_of_mem _ h, (fun e => nomatch e)⟩
theorem Rp.tup {o : Bool} (h : Rp K A H v (.tup o ds) B) : ∃ a xs C, v = .ref a ∧ SqT K H a xs ∧ RpAll K A H xs ds C ∧ (∀ b ∈ C, b ∈ B) ∧ (o = false → C = []) := by
  cases h with
  | tupS h r => exact ⟨_, _, _, rfl, h.imp (fun h => h.1) id, r, (fun _ h => nomatch h), fun _ => rfl⟩
  | tupO h a n r => exact ⟨_, _, _, rfl, .inl (.inl h), r, fun _ h => List.mem_cons_of_mem _ h, (fun e => nomatch e)⟩
/-- what a new object holds is held behind it too -/
theorem keep_laid {p : Addr} {o : HO} {C : List Addr} (hp : H p = none) (hC : ∀ a ∈ C, A a) : Keep A H C (A.and (p :: C)) (upd H p o) :=
  ⟨fun a u e n => ⟨Ex.new hp a u e, fun z => z.elim n fun z => (List.mem_cons.mp z).elim (fun z => by rw [z, hp] at e; cases e) fun z => n (hC a z)⟩, fun a u h e => ⟨Ex.new hp a u e, .inr (List.mem_cons_of_mem _ h)⟩⟩
theorem Rp.newL {p : Addr} {xs : List V} (hp : H p = none) (r : RpAll K A H xs ds C) : Rp K (A.and (p :: C)) (upd H p (.lst xs)) (.ref p) (.lst true ds) (p :: C) :=
  .lstO upd_same (.inr List.mem_cons_self) (fun z => (r.tracked _ p z).1 hp) (r.keep _ (keep_laid hp fun a h => (r.tracked _ a h).2))
theorem Rp.newT {p : Addr} {xs : List V} (hp : H p = none) (r : RpAll K A H xs ds C) : Rp K (A.and (p :: C)) (upd H p (.tup xs)) (.ref p) (.tup true ds) (p :: C) :=
  .tupO upd_same (.inr List.mem_cons_self) (fun z => (r.tracked _ p z).1 hp) (r.keep _ (keep_laid hp fun a h => (r.tracked _ a h).2))
theorem plus_lst {o o' : Bool} (h : ds.length + es.length ≤ sizeLine) : Op2 K (rPlus K) (.lst o ds) (.lst o' es) (.lst true (ds ++ es)) := fun A H x y B C w p1 p2 n Q q => by
  obtain ⟨a, xs, B1, rfl, h1, r1, s1, _⟩ := p1.lst
  obtain ⟨b, ys, C1, rfl, h2, r2, s2, _⟩ := p2.lst
  refine .inr (.inr (.inl ⟨a, b, xs, ys, rfl, rfl, h1, h2, by rw [r1.len, r2.len]; exact h, fun p hp => ?_⟩))
  refine q _ _ _ (Ex.new hp) (fun c hc => ?_) (Rp.newL hp (r1.app r2 fun c h z => n c (s1 c h) (s2 c z)))
  rcases List.mem_cons.mp hc with rfl | hc
  · exact .inl hp
  · exact .inr ((List.mem_append.mp hc).imp (s1 c) (s2 c))
theorem RpAll.get : ∀ {ds : List D} {xs : List V} {B : List Addr} {j : Nat} {d : D}, RpAll K A H xs ds B → ds[j]? = some d → ∃ v C, xs[j]? = some v ∧ Rp K A H v d C ∧ ∀ a ∈ C, a ∈ B
  | _, _, _, j, _, .nil, e => by simp at e
  | _, _, _, 0, _, .cons r _ _, e => by
    simp at e
    subst e
    exact ⟨_, _, by simp, r, fun _ h => List.mem_append_left _ h⟩
  | _, _, _, j + 1, _, .cons _ t _, e => by
    obtain ⟨v, C, h1, h2, h3⟩ := RpAll.get t (by simpa using e)
    exact ⟨v, C, by simpa using h1, h2, fun a h => List.mem_append_right _ (h3 a h)⟩
theorem RpAll.at {xs : List V} (r : RpAll K A H xs ds B) (h : atI ds i = some d) : ∃ v C, atI xs i = some v ∧ Rp K A H v d C ∧ ∀ a ∈ C, a ∈ B := by
  unfold atI at h ⊢
  rw [r.len]
  cases e : ixN ds.length i with
  | none => rw [e] at h; cases h
  | some j =>
    rw [e] at h
    exact r.get h
theorem Rp.and (r : Rp K A H v d C) (hC : ∀ a ∈ C, A a) : Rp K (A.and C) H v d C :=
  r.keep _ ⟨fun a o e n => ⟨e, fun z => z.elim n fun z => n (hC a z)⟩, fun a o h e => ⟨e, .inr h⟩⟩
theorem ix_lst {o : Bool} (h : atI ds i = some d) : Op2 K (rIx K) (.lst o ds) (.int i) d := fun A H x y B C w p1 p2 n Q q => by
  obtain ⟨a, xs, B1, rfl, h1, r1, s1, _⟩ := p1.lst
  cases p2
  obtain ⟨v, E, e1, e2, e3⟩ := r1.at h
  exact .inl ⟨a, xs, i, v, rfl, rfl, h1, e1, q v H E Ex.rfl' (fun a h => .inr (.inl (s1 a (e3 a h)))) (e2.and fun a h => (e2.tracked _ a h).2)⟩
theorem ix_tp {o : Bool} (h : atI ds i = some d) : Op2 K (rIx K) (.tup o ds) (.int i) d := fun A H x y B C w p1 p2 n Q q => by
  obtain ⟨a, xs, B1, rfl, h1, r1, s1, _⟩ := p1.tup
  cases p2
  obtain ⟨v, E, e1, e2, e3⟩ := r1.at h
  exact .inr (.inl ⟨a, xs, i, v, rfl, rfl, h1, e1, q v H E Ex.rfl' (fun a h => .inr (.inl (s1 a (e3 a h)))) (e2.and fun a h => (e2.tracked _ a h).2)⟩)
theorem ix_st {c : Nat} (hl : a.length ≤ sizeLine) (h : atI a.cps.toList i = some c) : Op2 K (rIx K) (.str a) (.int i) (.str ⟨#[c]⟩) := op2_sc fun H Q q => .inr (.inr ⟨a, i, c, rfl, rfl, hl, h, q⟩)
theorem len_lst {o : Bool} : OpC K (rLen K) [.lst o ds] (.int (ds.length : Int)) := opc_sc fun A H xs B p Q q => by
  obtain ⟨x, rfl, p1⟩ := p.one
  obtain ⟨a, xs, B1, rfl, h1, r1, _⟩ := p1.lst
  exact ⟨.ref a, _, rfl, .inl ⟨xs, h1, rfl⟩, by rw [r1.len]; exact q⟩
theorem len_tp {o : Bool} : OpC K (rLen K) [.tup o ds] (.int (ds.length : Int)) := opc_sc fun A H xs B p Q q => by
  obtain ⟨x, rfl, p1⟩ := p.one
  obtain ⟨a, xs, B1, rfl, h1, r1, _⟩ := p1.tup
  exact ⟨.ref a, _, rfl, .inr ⟨xs, h1, rfl⟩, by rw [r1.len]; exact q⟩
theorem len_st (hl : a.length ≤ sizeLine) : OpC K (rLen K) [.str a] (.int (a.length : Int)) := opc_sc fun A H xs B p Q q => by
  obtain ⟨x, rfl, p1⟩ := p.one
  cases p1
  exact ⟨.str a, _, rfl, ⟨hl, rfl⟩, q⟩
theorem int_int : OpC K rIntt [.int i] (.int i) := opc_sc fun A H xs B p Q q => by
  obtain ⟨x, rfl, p1⟩ := p.one
  cases p1
  exact .inl (.inl ⟨i, rfl, q⟩)
theorem int_bl {k : Bool} : OpC K rIntt [.bl k] (.int (if k = true then 1 else 0)) := opc_sc fun A H xs B p Q q => by
  obtain ⟨x, rfl, p1⟩ := p.one
  cases p1
  exact .inl (.inr ⟨k, rfl, q⟩)
theorem int_st {n : Int} (h : intText? a = some n) (hl : a.length ≤ 640) : OpC K rIntt [.str a] (.int n) := opc_sc fun A H xs B p Q q => by
  obtain ⟨x, rfl, p1⟩ := p.one
  cases p1
  exact .inr ⟨a, n, rfl, h, hl, q⟩
theorem str_int (h : i.natAbs.log2 < 1920) : OpC K rStrI [.int i] (.str (Str.ofString (toString i))) := opc_sc fun A H xs B p Q q => by
  obtain ⟨x, rfl, p1⟩ := p.one
  cases p1
  exact ⟨i, rfl, h, q⟩
theorem max_int : OpC K (rMaxx K) [.int i, .int j] (.int (if j > i then j else i)) := opc_sc fun A H xs B p Q q => by
  obtain ⟨x, y, _, _, rfl, p1, p2, _⟩ := p.two
  cases p1
  cases p2
  exact .inl ⟨i, j, rfl, q⟩
theorem min_int : OpC K (rMinn K) [.int i, .int j] (.int (if j < i then j else i)) := opc_sc fun A H xs B p Q q => by
  obtain ⟨x, y, _, _, rfl, p1, p2, _⟩ := p.two
  cases p1
  cases p2
  exact .inl ⟨i, j, rfl, q⟩
theorem RpAll.ints : ∀ {ns : List Int} {xs : List V} {B : List Addr}, RpAll K A H xs (ns.map D.int) B → xs = ns.map V.int
  | [], _, _, .nil => rfl
  | n :: ns, _, _, .cons r t _ => by
    cases r
    rw [RpAll.ints t]
    rfl
theorem RpAll.bls : ∀ {ns : List Bool} {xs : List V} {B : List Addr}, RpAll K A H xs (ns.map D.bl) B → xs = ns.map V.bl
  | [], _, _, .nil => rfl
  | n :: ns, _, _, .cons r t _ => by
    cases r
    rw [RpAll.bls t]
    rfl
theorem RpAll.strs : ∀ {ns : List Str} {xs : List V} {B : List Addr}, RpAll K A H xs (ns.map D.str) B → xs = ns.map V.str
  | [], _, _, .nil => rfl
  | n :: ns, _, _, .cons r t _ => by
    cases r
    rw [RpAll.strs t]
    rfl
theorem RpAll.ofStrs : ∀ ns : List Str, RpAll K A H (ns.map V.str) (ns.map D.str) []
  | [] => .nil
  | n :: ns => RpAll.cons (B := []) (C := []) (.sc _) (RpAll.ofStrs ns) fun _ h => nomatch h
theorem sum_ints {o : Bool} {ns : List Int} : OpC K (rSum K) [.lst o (ns.map D.int)] (.int ns.sum) := opc_sc fun A H xs B p Q q => by
  obtain ⟨x, rfl, p1⟩ := p.one
  obtain ⟨a, xs, B1, rfl, h1, r1, _⟩ := p1.lst
  rw [r1.ints] at h1
  exact ⟨a, ns, rfl, h1, q⟩
theorem all_bls {o : Bool} {bs : List Bool} : OpC K (rAll K) [.lst o (bs.map D.bl)] (.bl (bs.all id)) := opc_sc fun A H xs B p Q q => by
  obtain ⟨x, rfl, p1⟩ := p.one
  obtain ⟨a, xs, B1, rfl, h1, r1, _⟩ := p1.lst
  rw [r1.bls] at h1
  exact ⟨a, bs, rfl, h1, q⟩
theorem any_bls {o : Bool} {bs : List Bool} : OpC K (rAny K) [.lst o (bs.map D.bl)] (.bl (bs.any id)) := opc_sc fun A H xs B p Q q => by
  obtain ⟨x, rfl, p1⟩ := p.one
  obtain ⟨a, xs, B1, rfl, h1, r1, _⟩ := p1.lst
  rw [r1.bls] at h1
  exact ⟨a, bs, rfl, h1, q⟩
theorem list_lst {o : Bool} : OpC K (rListOf K) [.lst o ds] (.lst true ds) := fun A H xs B w p Q q => by
  obtain ⟨x, rfl, p1⟩ := p.one
  obtain ⟨a, xs, B1, rfl, h1, r1, s1, _⟩ := p1.lst
  refine ⟨a, xs, rfl, .inl h1, fun p hp => q _ _ _ (Ex.new hp) (fun c hc => ?_) (Rp.newL hp r1)⟩
  exact (List.mem_cons.mp hc).imp (fun z => by rw [z]; exact hp) (s1 c)
theorem list_tp {o : Bool} : OpC K (rListOf K) [.tup o ds] (.lst true ds) := fun A H xs B w p Q q => by
  obtain ⟨x, rfl, p1⟩ := p.one
  obtain ⟨a, xs, B1, rfl, h1, r1, s1, _⟩ := p1.tup
  refine ⟨a, xs, rfl, .inr h1, fun p hp => q _ _ _ (Ex.new hp) (fun c hc => ?_) (Rp.newL hp r1)⟩
  exact (List.mem_cons.mp hc).imp (fun z => by rw [z]; exact hp) (s1 c)
theorem tup_lst {o : Bool} : OpC K (rTupOf K) [.lst o ds] (.tup true ds) := fun A H xs B w p Q q => by
  obtain ⟨x, rfl, p1⟩ := p.one
  obtain ⟨a, xs, B1, rfl, h1, r1, s1, _⟩ := p1.lst
  refine ⟨a, xs, rfl, .inl ⟨h1, fun p hp => q _ _ _ (Ex.new hp) (fun c hc => ?_) (Rp.newT hp r1)⟩⟩
  exact (List.mem_cons.mp hc).imp (fun z => by rw [z]; exact hp) (s1 c)

/-! isinstance of a built-in class -/
def tyN : D → String
  | .sc .non => "NoneType"
  | .sc (.bl _) => "bool"
  | .sc (.int _) => "int"
  | .sc (.str _) => "str"
  | .sc (.byt _) => "bytes"
  | .lst _ _ => "list"
  | .tup _ _ => "tuple"
  | .dK _ _ _ => "dict"
  | .dT true _ _ => "dict"
  | _ => ""
theorem Rp.tyX (h : Rp K A H v d B) (hn : tyN d ≠ "") : TyX K H v (.type (tyN d)) := by
  cases h with
  | sc =>
    cases v with
    | non => exact .base .non
    | bl b => exact .base (.bl b)
    | int i => exact .base (.int i)
    | str s => exact .base (.str s)
    | byt b => exact .byt b
    | _ => exact absurd rfl hn
  | lstS h r =>
    rcases h with ⟨h | ⟨o, h⟩, _⟩ | ⟨o, its, n, hk, hc, _⟩
    · exact .base (.lst h)
    · exact .base (.frz h)
    · exact .kList hk hc
  | lstO h a n r => exact .base (.lst h)
  | tupS h r =>
    rcases h with ⟨h | ⟨o, h⟩, _⟩ | ⟨o, its, n, hk, hc, _⟩
    · exact .base (.tup h)
    · exact .fTuple h
    · exact .kTuple hk hc
  | tupO h a n r => exact .base (.tup h)
  | insS => exact absurd rfl hn
  | insO => exact absurd rfl hn
  | insA => exact absurd rfl hn
  | dKS h l r => rcases h with ⟨h | ⟨o, h⟩, _⟩; exact .base (.dK h); exact .fDict h
  | dKO h a n l r => exact .base (.dK h)
  | dTS h l r => exact absurd rfl hn
  | dTO h a n l r => exact .base (.dT h)
  | exc0 => exact absurd rfl hn
  | exc1 => exact absurd rfl hn
end
end FP

namespace FP
open PySem PySem.Spec PyProof.Rows L2

/-! ### statements -/
/-- what a block comes to -/
inductive Out where
  | nx (ρ : Env)
  | rt (d : D)
  | bk (ρ : Env)
  | ct (ρ : Env)
  | er (C : Addr) (fs : List (Str × V)) (ρ : Env)
  | rv (d : D) (ρ : Env)
/-- an exception's dict -/
def XdOk (A : Own) (H : Hp) (d : Option Addr) (fs : List (Str × V)) : Prop := (d = none ∧ fs = []) ∨ ∃ dd, d = some dd ∧ Sh1 A H dd (.xd fs)
/-- between two places of a run: B is owned at first, B' behind -/
structure Step (B : List Addr) (H : Hp) (B' : List Addr) (H' : Hp) : Prop where
  keep : ∀ a o, H a = some o → a ∉ B → H' a = some o
  live : ∀ a, H a ≠ none → H' a ≠ none
  fresh : ∀ a ∈ B', a ∈ B ∨ H a = none
theorem Step.refl {B : List Addr} {H : Hp} : Step B H B H := ⟨fun _ _ h _ => h, fun _ h => h, fun _ h => .inl h⟩
theorem Step.trans {B B1 B2 : List Addr} {H H1 H2 : Hp} (s : Step B H B1 H1) (t : Step B1 H1 B2 H2) : Step B H B2 H2 where
  keep := fun a o h n => t.keep a o (s.keep a o h n) fun z => (s.fresh a z).elim n fun z => by rw [z] at h; cases h
  live := fun a h => t.live a (s.live a h)
  fresh := fun a h => by
    rcases t.fresh a h with h | h
    · exact s.fresh a h
    · refine .inr ?_
      cases e : H a with
      | none => rfl
      | some o => exact absurd h (s.live a (by rw [e]; simp))
theorem Step.ex {B B' : List Addr} {H H' : Hp} (e : Ex H H') (h : ∀ a ∈ B', a ∈ B ∨ H a = none) : Step B H B' H' := ⟨fun a o h _ => e a o h, fun a h => e.ne h, h⟩
/-- A0: what the callers own; B: what is owned here -/
structure W0 (A0 : Own) (B : List Addr) (H : Hp) : Prop where
  live : ∀ a, A0 a → H a ≠ none
  apart : ∀ a, A0 a → a ∉ B
theorem W0.step {A0 : Own} {B B' : List Addr} {H H' : Hp} (w : W0 A0 B H) (s : Step B H B' H') : W0 A0 B' H' :=
  ⟨fun a h => s.live a (w.live a h), fun a h z => (s.fresh a z).elim (w.apart a h) (w.live a h)⟩
theorem W0.wa {K : PySem.W.Frag} {A0 : Own} {B : List Addr} {H : Hp} {σ : L2.St} {ρ : Env} (w : W0 A0 B H) (r : EnvR K (A0.and B) H σ ρ B) : WA (A0.and B) H := fun a h => h.elim (w.live a) fun h => (r.tracked a h).1
def Post (K : PySem.W.Frag) (W : WX) (A0 : Own) (H : Hp) (B : List Addr) (E : Ends) : Out → Prop
  | .nx ρ => ∀ H' σ' B', Step B H B' H' → EnvR K (A0.and B') H' σ' ρ B' → E.nx σ' H'
  | .bk ρ => ∀ H' σ' B', Step B H B' H' → EnvR K (A0.and B') H' σ' ρ B' → E.bk σ' H'
  | .ct ρ => ∀ H' σ' B', Step B H B' H' → EnvR K (A0.and B') H' σ' ρ B' → E.ct σ' H'
  | .rt d => ∀ v H' B', Step B H B' H' → Rp K (A0.and B') H' v d B' → E.rt v H'
  | .er C fs ρ => ∀ d H' σ' B', Step B H B' H' → EnvR K (A0.and B') H' σ' ρ B' → XdOk (A0.and B') H' d fs → W (.ref C) d σ' H'
  | .rv d ρ => ∀ v H' σ' B' C, Step B H (C ++ B') H' → EnvR K (A0.and (C ++ B')) H' σ' ρ B' → Rp K (A0.and (C ++ B')) H' v d C → (∀ a ∈ C, a ∉ B') → E.rt v H'
def Run (K : PySem.W.Frag) (W : WX) (t : TS) (ρ : Env) (o : Out) : Prop := ∀ (A0 : Own) (H : Hp) (σ : L2.St) (B : List Addr) (E : Ends), W0 A0 B H → EnvR K (A0.and B) H σ ρ B → Post K W A0 H B E o → t E σ H
theorem Post.step {K : PySem.W.Frag} {W : WX} {A0 : Own} {H H' : Hp} {B B' : List Addr} {E : Ends} {o : Out} (s : Step B H B' H') (p : Post K W A0 H B E o) : Post K W A0 H' B' E o := by
  cases o with
  | nx ρ => exact fun H2 σ2 B2 s2 r => p H2 σ2 B2 (s.trans s2) r
  | bk ρ => exact fun H2 σ2 B2 s2 r => p H2 σ2 B2 (s.trans s2) r
  | ct ρ => exact fun H2 σ2 B2 s2 r => p H2 σ2 B2 (s.trans s2) r
  | rt d => exact fun v H2 B2 s2 r => p v H2 B2 (s.trans s2) r
  | er C fs ρ => exact fun d H2 σ2 B2 s2 r => p d H2 σ2 B2 (s.trans s2) r
  | rv d ρ => exact fun v H2 σ2 B2 C2 s2 r => p v H2 σ2 B2 C2 (s.trans s2) r

section
variable {K : PySem.W.Frag} {W : WX} {ρ ρ' ρ2 : Env} {t u ts : TS} {o : Out} {te : TE} {tt : TT} {d x : D} {i : Nat}
theorem run_next : Run K W tNext ρ (.nx ρ) := fun A0 H σ B E w r p => p H σ B .refl r
theorem run_brk : Run K W tBreak ρ (.bk ρ) := fun A0 H σ B E w r p => p H σ B .refl r
theorem run_cont : Run K W tCont ρ (.ct ρ) := fun A0 H σ B E w r p => p H σ B .refl r
theorem run_seq (h1 : Run K W t ρ (.nx ρ')) (h2 : Run K W u ρ' o) : Run K W (tSeq t u) ρ o := fun A0 H σ B E w r p =>
  h1 A0 H σ B { E with nx := u E } w r fun H1 σ1 B1 s1 r1 => h2 A0 H1 σ1 B1 E (w.step s1) r1 (p.step s1)
/-- the first one leaves -/
theorem run_seq_rt (h1 : Run K W t ρ (.rt d)) : Run K W (tSeq t u) ρ (.rt d) := fun A0 H σ B E w r p => h1 A0 H σ B { E with nx := u E } w r p
theorem run_seq_bk (h1 : Run K W t ρ (.bk ρ')) : Run K W (tSeq t u) ρ (.bk ρ') := fun A0 H σ B E w r p => h1 A0 H σ B { E with nx := u E } w r p
theorem run_seq_er {C : Addr} {fs : List (Str × V)} (h1 : Run K W t ρ (.er C fs ρ')) : Run K W (tSeq t u) ρ (.er C fs ρ') := fun A0 H σ B E w r p => h1 A0 H σ B { E with nx := u E } w r p
theorem run_seq_rv (h1 : Run K W t ρ (.rv d ρ')) : Run K W (tSeq t u) ρ (.rv d ρ') := fun A0 H σ B E w r p => h1 A0 H σ B { E with nx := u E } w r p
theorem run_seq_ct (h1 : Run K W t ρ (.ct ρ')) : Run K W (tSeq t u) ρ (.ct ρ') := fun A0 H σ B E w r p => h1 A0 H σ B { E with nx := u E } w r p
/-- the whole world behind an expression -/
theorem and_and {A : Own} {B C : List Addr} {a : Addr} : ((A.and B).and C) a ↔ (A.and (C ++ B)) a := by
  simp only [Own.and, List.mem_append]
  constructor
  · rintro ((h | h) | h)
    · exact .inl h
    · exact .inr (.inr h)
    · exact .inr (.inl h)
  · rintro (h | h | h)
    · exact .inl (.inl h)
    · exact .inr h
    · exact .inl (.inr h)
/-- an expression within a run -/
theorem EvS.run (h : EvS K te ρ d) {A0 : Own} {H : Hp} {σ : L2.St} {B : List Addr} (w : W0 A0 B H) (r : EnvR K (A0.and B) H σ ρ B) {Q : VK}
    (q : ∀ v H' C, Ex H H' → Fresh H C → EnvR K (A0.and (C ++ B)) H' σ ρ B → Rp K (A0.and (C ++ B)) H' v d C → (∀ a ∈ C, a ∉ B) → Q v H') : te σ H Q :=
  h (A0.and B) H σ B (w.wa r) r Q fun v H1 C e f p => by
    refine q v H1 C e f ?_ ?_ fun a h z => (r.tracked a z).1 (f a h)
    · exact (r.keep (keep_and (w.wa r) e f fun a h => .inr h)).keep ⟨fun a o h n => ⟨h, fun z => n (and_and.mpr z)⟩, fun a o m h => ⟨h, .inr (List.mem_append_right _ m)⟩⟩
    · exact p.keep _ ⟨fun a o h n => ⟨h, fun z => n (and_and.mpr z)⟩, fun a o m h => ⟨h, .inr (List.mem_append_left _ m)⟩⟩
theorem run_asg (h : EvS K te ρ d) : Run K W (tAsg te (gName i)) ρ (.nx (ρ.set i (some d))) := fun A0 H σ B E w r p =>
  h.run w r fun v H1 C e f r1 p1 n => by
    obtain ⟨B', r2, s⟩ := r1.set p1 n i
    refine p H1 _ B' (.ex e fun a h => (s a h).elim (fun z => .inr (f a z)) .inl) (r2.keep (keep_less (fun a z => z.imp id fun z => ?_) fun a h => .inr h))
    exact List.mem_append.mpr (s a z)
theorem run_drop (h : EvS K te ρ d) : Run K W (tDrop te) ρ (.nx ρ) := fun A0 H σ B E w r p =>
  h.run w r fun v H1 C e f r1 p1 n => p H1 σ B (.ex e fun a h => .inl h) (r1.keep (keep_less (fun a z => z.imp id fun z => List.mem_append_right _ z) fun a h => .inr h))
theorem run_ret (h : EvS K te ρ d) : Run K W (tRet te) ρ (.rt d) := fun A0 H σ B E w r p =>
  h.run w r fun v H1 C e f r1 p1 n => p v H1 C (.ex e fun a h => .inr (f a h)) (p1.keep _ (keep_less (fun a z => z.imp id fun z => List.mem_append_left _ z) fun a h => .inr h))
/-- .. and the names are kept (a method that changes its object) -/
theorem run_ret_rv (h : EvS K te ρ d) : Run K W (tRet te) ρ (.rv d ρ) := fun A0 H σ B E w r p =>
  h.run w r fun v H1 C e f r1 p1 n => p v H1 σ B C (.ex e fun a h => (List.mem_append.mp h).elim (fun z => .inr (f a z)) .inl) r1 p1 n
theorem run_retN_rv : Run K W tRetN ρ (.rv .non ρ) := fun A0 H σ B E w r p => p .non H σ B [] (.ex Ex.rfl' fun _ h => .inl h) r (.sc _) fun _ h => nomatch h
theorem run_retN : Run K W tRetN ρ (.rt .non) := fun A0 H σ B E w r p => p .non H [] (.ex Ex.rfl' fun _ h => nomatch h) (.sc _)
/-- what a name owns is handed back -/
theorem run_ret_own {d : D} (h : ρ[i]? = some (some d)) : Run K W (tRet (tVar i)) ρ (.rt d) := fun A0 H σ B E w r p => by
  obtain ⟨v, C, h1, h2, h3⟩ := r.get h
  refine ⟨v, h1, p v H C (.ex Ex.rfl' fun a h => .inl (h3 a h)) (h2.keep _ (keep_less (fun a z => z.imp id (h3 a)) fun a h => .inr h))⟩
theorem EvT.run {b : Bool} (h : EvT K tt ρ b) {A0 : Own} {H : Hp} {σ : L2.St} {B : List Addr} (w : W0 A0 B H) (r : EnvR K (A0.and B) H σ ρ B) {Q : Bool → Hp → Prop}
    (q : ∀ H', Step B H B H' → EnvR K (A0.and B) H' σ ρ B → Q b H') : tt σ H Q :=
  h (A0.and B) H σ B (w.wa r) r Q fun H1 e => q H1 (.ex e fun _ h => .inl h) (et_step (w.wa r) r e).2
theorem run_if {b : Bool} (h : EvT K tt ρ b) (h1 : b = true → Run K W t ρ o) (h2 : b = false → Run K W u ρ o) : Run K W (tIfS tt t u) ρ o := fun A0 H σ B E w r p =>
  h.run w r fun H1 s r1 => by
    cases b with
    | true => exact h1 rfl A0 H1 σ B E (w.step s) r1 (p.step s)
    | false => exact h2 rfl A0 H1 σ B E (w.step s) r1 (p.step s)
theorem run_seq_if {v : TS} {b : Bool} (h : EvT K tt ρ b) (h1 : b = true → Run K W (tSeq t v) ρ o) (h2 : b = false → Run K W (tSeq u v) ρ o) : Run K W (tSeq (tIfS tt t u) v) ρ o := fun A0 H σ B E w r p =>
  h.run w r fun H1 s r1 => by
    cases b with
    | true => exact h1 rfl A0 H1 σ B E (w.step s) r1 (p.step s)
    | false => exact h2 rfl A0 H1 σ B E (w.step s) r1 (p.step s)
theorem run_skip (h : Run K W t ρ o) : Run K W (tSeq tNext t) ρ o := run_seq run_next h
theorem run_weak (h : Run K W t ρ (.nx ρ')) (k : Weak ρ' ρ2) : Run K W t ρ (.nx ρ2) := fun A0 H σ B E w r p =>
  h A0 H σ B E w r fun H1 σ1 B1 s r1 => by
    obtain ⟨B2, r2, s2⟩ := r1.weak k
    refine p H1 σ1 B2 (s.trans (.ex Ex.rfl' fun a h => .inl (s2 a h))) (r2.keep (keep_less (fun a z => z.imp id (s2 a)) fun a h => .inr h))
theorem run_weak_ct (h : Run K W t ρ (.ct ρ')) (k : Weak ρ' ρ2) : Run K W t ρ (.ct ρ2) := fun A0 H σ B E w r p =>
  h A0 H σ B E w r fun H1 σ1 B1 s r1 => by
    obtain ⟨B2, r2, s2⟩ := r1.weak k
    refine p H1 σ1 B2 (s.trans (.ex Ex.rfl' fun a h => .inl (s2 a h))) (r2.keep (keep_less (fun a z => z.imp id (s2 a)) fun a h => .inr h))
theorem run_pre (k : Weak ρ ρ') (h : Run K W t ρ' o) : Run K W t ρ o := fun A0 H σ B E w r p => by
  obtain ⟨B2, r2, s2⟩ := r.weak k
  have s : Step B H B2 H := .ex Ex.rfl' fun a h => .inl (s2 a h)
  exact h A0 H σ B2 E (w.step s) (r2.keep (keep_less (fun a z => z.imp id (s2 a)) fun a h => .inr h)) (p.step s)
/-- a name's value is given up: shared from now on -/
theorem EnvR.frzAt {A : Own} {H : Hp} {σ : L2.St} {ρ : Env} {B : List Addr} (r : EnvR K A H σ ρ B) : ∀ {i : Nat} {d : D}, ρ[i]? = some (some d) → ∃ B', (∀ a ∈ B', a ∈ B) ∧ ∀ A' : Own, (∀ a, A' a → A a) → (∀ a ∈ B', A' a) → (∀ a ∈ B, a ∉ B' → ¬ A' a) →
    EnvR K A' H σ (ρ.set i (some d.frz)) B' := by
  induction r with
  | nil => intro i d h; simp at h
  | any r ih =>
    intro i d h
    cases i with
    | zero => simp at h
    | succ i =>
      obtain ⟨B', s, k⟩ := ih (i := i) (by simpa using h)
      exact ⟨B', s, fun A' h1 h2 h3 => .any (k A' h1 h2 h3)⟩
  | @val v d0 σ ρ B1 B2 r1 r2 n ih =>
    intro i d h
    cases i with
    | zero =>
      have e : d0 = d := by simpa using h
      subst e
      refine ⟨B2, fun a h => List.mem_append_right _ h, fun A' h1 h2 h3 => .val (B := []) ?_ (r2.keep (keep_less h1 h2)) (fun _ h => nomatch h)⟩
      refine r1.loose _ ⟨fun a o e n => ⟨e, fun z => n (h1 a z)⟩, fun a o hb e => ⟨e, h3 a (List.mem_append_left _ hb) (n a hb)⟩⟩
    | succ i =>
      obtain ⟨B', s, k⟩ := ih (i := i) (by simpa using h)
      refine ⟨B1 ++ B', fun a h => (List.mem_append.mp h).elim (List.mem_append_left _) fun h => List.mem_append_right _ (s a h), fun A' h1 h2 h3 => .val (r1.keep _ (keep_less h1 fun a h => h2 a (List.mem_append_left _ h))) (k A' h1 (fun a h => h2 a (List.mem_append_right _ h)) fun a h m => h3 a (List.mem_append_right _ h) fun z => ?_) fun a h z => n a h (s a z)⟩
      rcases List.mem_append.mp z with z | z
      · exact n a z h
      · exact m z
theorem run_frz {d : D} (i : Nat) (h : ρ[i]? = some (some d)) (k : Run K W t (ρ.set i (some d.frz)) o) : Run K W t ρ o := fun A0 H σ B E w r p => by
  obtain ⟨B', s, f⟩ := r.frzAt h
  have st : Step B H B' H := .ex Ex.rfl' fun a h => .inl (s a h)
  refine k A0 H σ B' E (w.step st) (f (A0.and B') (fun a z => z.imp id (s a)) (fun a h => .inr h) fun a h m z => z.elim (fun z => w.apart a z h) m) (p.step st)
/-- xs.append(e) of a name's own list -/
theorem RpAll.snoc {A : Own} {H : Hp} {xs : List V} {ds : List D} {B C : List Addr} {v : V} {d : D} (r : RpAll K A H xs ds B) (q : Rp K A H v d C) (n : ∀ a ∈ B, a ∉ C) : RpAll K A H (xs ++ [v]) (ds ++ [d]) (B ++ C) := by
  have := r.app (.cons q .nil fun _ _ h => nomatch h) (C := C ++ []) (by simpa using n)
  rwa [List.append_nil] at this
/-- an owned object's content is changed: what the others lean on stays -/
theorem keep_upd {A : Own} {H : Hp} {B : List Addr} {a : Addr} {o : HO} (ha : A a) (n : a ∉ B) (hB : ∀ b ∈ B, A b) : Keep A H B A (upd H a o) :=
  ⟨fun b u e m => ⟨by rw [upd_ne fun z => m (by rw [z]; exact ha)]; exact e, m⟩, fun b u m e => ⟨by rw [upd_ne fun z => n (by rw [← z]; exact m)]; exact e, hB b m⟩⟩
/-- a name's own object turns: all else that is leant on is kept -/
theorem EnvR.mut {A : Own} {H : Hp} {σ : L2.St} {ρ : Env} {B : List Addr} (r : EnvR K A H σ ρ B) : ∀ {i : Nat} {d : D}, ρ[i]? = some (some d) → ∃ v Bi, σ[i]? = some (some v) ∧ Rp K A H v d Bi ∧ (∀ a ∈ Bi, a ∈ B) ∧
    ∀ (A' : Own) (H' : Hp) (d' : D) (B' : List Addr), (∀ B0, (∀ a ∈ B0, a ∈ B ∧ a ∉ Bi) → Keep A H B0 A' H') → Rp K A' H' v d' B' → (∀ a ∈ B', a ∈ Bi ∨ a ∉ B) →
      ∃ B2, EnvR K A' H' σ (ρ.set i (some d')) B2 ∧ ∀ a ∈ B2, a ∈ B' ∨ a ∈ B := by
  induction r with
  | nil => intro i d h; simp at h
  | any r ih =>
    intro i d h
    cases i with
    | zero => simp at h
    | succ i =>
      obtain ⟨v, Bi, h1, h2, h3, k⟩ := ih (i := i) (by simpa using h)
      refine ⟨v, Bi, by simpa using h1, h2, h3, fun A' H' d' B' kp p s => ?_⟩
      obtain ⟨B2, e, s2⟩ := k A' H' d' B' kp p s
      exact ⟨B2, .any e, s2⟩
  | @val v0 d0 σ ρ B1 B2 r1 r2 n ih =>
    intro i d h
    cases i with
    | zero =>
      have e : d0 = d := by simpa using h
      subst e
      refine ⟨v0, B1, by simp, r1, fun a h => List.mem_append_left _ h, fun A' H' d' B' kp p s => ⟨B' ++ B2, .val p (r2.keep (kp B2 fun a h => ⟨List.mem_append_right _ h, fun z => n a z h⟩)) fun a h z => ?_, fun a h => ?_⟩⟩
      · rcases s a h with q | q
        · exact n a q z
        · exact q (List.mem_append_right _ z)
      · exact (List.mem_append.mp h).imp id fun z => List.mem_append_right _ z
    | succ i =>
      obtain ⟨v, Bi, h1, h2, h3, k⟩ := ih (i := i) (by simpa using h)
      refine ⟨v, Bi, by simpa using h1, h2, fun a h => List.mem_append_right _ (h3 a h), fun A' H' d' B' kp p s => ?_⟩
      obtain ⟨B3, e, s3⟩ := k A' H' d' B' (fun B0 h0 => kp B0 fun a h => ⟨List.mem_append_right _ (h0 a h).1, (h0 a h).2⟩) p (fun a h => (s a h).imp id fun z q => z (List.mem_append_right _ q))
      refine ⟨B1 ++ B3, .val (r1.keep _ (kp B1 fun a h => ⟨List.mem_append_left _ h, fun z => n a h (h3 a z)⟩)) e fun a h z => ?_, fun a h => ?_⟩
      · rcases s3 a z with q | q
        · rcases s a q with q | q
          · exact n a h (h3 a q)
          · exact q (List.mem_append_left _ h)
        · exact n a h q
      · rcases List.mem_append.mp h with h | h
        · exact .inr (List.mem_append_left _ h)
        · exact (s3 a h).imp id fun z => List.mem_append_right _ z
theorem run_append {ds : List D} (hi : ρ[i]? = some (some (.lst true ds))) (he : EvS K te ρ d) (hl : ds.length < sizeLine) :
    Run K W (tDrop (tBM K "list" rAppend (tVar i) (tCons te tNil))) ρ (.nx (ρ.set i (some (.lst true (ds ++ [d]))))) := fun A0 H σ B E w r p => by
  obtain ⟨v, Bi, h1, h2, h3, _⟩ := r.mut hi
  cases h2 with
  | @lstO a xs _ B1 ha hA hn r1 =>
  refine ⟨.ref a, h1, .inl ⟨rfl, _, .inl (.inl ha)⟩, ?_⟩
  refine he.run w r fun v1 H1 C e f r2 q2 n2 => ?_
  obtain ⟨v', Bi', h1', h2', h3', k⟩ := r2.mut hi
  rw [h1] at h1'
  cases h1'
  have ha' := e _ _ ha
  cases h2' with
  | @lstO _ xs' _ B1' ha2 hA' hn' r1' =>
  rw [ha'] at ha2
  cases ha2
  refine ⟨a, xs, v1, rfl, rfl, ha', by rw [r1.len]; exact hl, ?_⟩
  have na : a ∉ C := fun z => n2 a z (h3' a List.mem_cons_self)
  have n1 : ∀ b ∈ B1', b ∉ C := fun b hb z => n2 b z (h3' b (List.mem_cons_of_mem _ hb))
  have q := r1'.snoc q2 n1
  have kk : ∀ B0, a ∉ B0 → (∀ b ∈ B0, (A0.and (C ++ B)) b) → Keep (A0.and (C ++ B)) H1 B0 (A0.and (C ++ B)) (upd H1 a (.lst (xs ++ [v1]))) := fun B0 z hB => keep_upd hA' z hB
  obtain ⟨B2, e2, s2⟩ := k (A0.and (C ++ B)) (upd H1 a (.lst (xs ++ [v1]))) (.lst true (ds ++ [d])) (a :: (B1' ++ C))
    (fun B0 h0 => kk B0 (fun z => (h0 a z).2 List.mem_cons_self) fun b hb => .inr (List.mem_append_right _ (h0 b hb).1))
    (.lstO upd_same hA' (fun z => (List.mem_append.mp z).elim hn' na) (q.keep _ (kk _ (fun z => (List.mem_append.mp z).elim hn' na) fun b hb => (q.tracked _ b hb).2)))
    (fun b hb => (List.mem_cons.mp hb).elim (fun z => .inl (z ▸ List.mem_cons_self)) fun hb => (List.mem_append.mp hb).elim (fun z => .inl (List.mem_cons_of_mem _ z)) fun z => .inr (n2 b z))
  have s2' : ∀ b ∈ B2, b ∈ C ∨ b ∈ B := fun b hb => by
    rcases s2 b hb with z | z
    · rcases List.mem_cons.mp z with z | z
      · rw [z]; exact .inr (h3' a List.mem_cons_self)
      · rcases List.mem_append.mp z with z | z
        · exact .inr (h3' b (List.mem_cons_of_mem _ z))
        · exact .inl z
    · exact .inr z
  refine p _ σ B2 ⟨fun b o hb nb => ?_, fun b hb => ?_, fun b hb => ?_⟩ (e2.keep (keep_less (fun b z => z.imp id fun z => List.mem_append.mpr (s2' b z)) fun b hb => .inr hb))
  · rw [upd_ne fun z => nb (by rw [z]; exact h3 a List.mem_cons_self)]
    exact e _ _ hb
  · by_cases z : b = a
    · rw [z, upd_same]; simp
    · rw [upd_ne z]; exact e.ne hb
  · exact (s2' b hb).elim (fun z => .inr (f b z)) .inl
end

/-! ### loops -/
/-- a target takes an item; of a comprehension's own names vs nothing is left behind -/
def Takes (K : PySem.W.Frag) (g : TG) (own : Option (List Nat)) (x : D) (ρ ρ' : Env) : Prop := ∀ (A : Own) (H : Hp) (σ : L2.St) (B : List Addr) (v : V), WA A H → EnvR K A H σ ρ B → Rp K A H v x [] → ∀ Q : L2.St → Hp → Prop,
  (∀ σ' B', (∀ vs, own = some vs → wipe σ' vs = wipe σ vs) → (∀ a ∈ B', a ∈ B) → EnvR K A H σ' ρ' B' → Q σ' H) → g v σ H Q
theorem wipe_comm (σ : L2.St) (j : Nat) : ∀ vs, wipe (σ.set j none) vs = (wipe σ vs).set j none
  | [] => rfl
  | v :: vs => by
    unfold wipe
    rw [wipe_comm σ j vs]
    by_cases h : j = v
    · rw [h]
    · exact (List.set_comm _ _ h)
theorem wipe_set {j : Nat} {y : Option V} : ∀ {vs : List Nat} {σ : L2.St}, j ∈ vs → wipe (σ.set j y) vs = wipe σ vs
  | v :: vs, σ, h => by
    unfold wipe
    rcases List.mem_cons.mp h with h | h
    · subst h
      rw [← wipe_comm, ← wipe_comm, List.set_set]
    · rw [wipe_set h]
theorem wipe_wipe {σ : L2.St} : ∀ vs, wipe (wipe σ vs) vs = wipe σ vs
  | [] => rfl
  | v :: vs => by
    show (wipe ((wipe σ vs).set v none) vs).set v none = _
    rw [wipe_comm, wipe_wipe vs, List.set_set]
    rfl
def wipeE (ρ : Env) : List Nat → Env
  | [] => ρ
  | v :: vs => (wipeE ρ vs).set v none
section
variable {K : PySem.W.Frag} {W : WX} {A : Own} {H : Hp} {σ : L2.St} {ρ ρ' ρ2 : Env} {B : List Addr} {t u ts tb : TS} {o : Out} {te : TE} {tt : TT} {d x : D} {i : Nat} {g : TG} {ds : List D} {wi : TI} {vs : List Nat}
theorem EnvR.drop (r : EnvR K A H σ ρ B) : ∀ i, ∃ B', EnvR K A H (σ.set i none) (ρ.set i none) B' ∧ ∀ a ∈ B', a ∈ B := by
  induction r with
  | nil => exact fun i => ⟨[], .nil, fun _ h => h⟩
  | any r ih =>
    intro i
    cases i with
    | zero => exact ⟨_, .any r, fun _ h => h⟩
    | succ i =>
      obtain ⟨B', e, s⟩ := ih i
      exact ⟨B', .any e, s⟩
  | val r1 r2 n ih =>
    intro i
    cases i with
    | zero => exact ⟨_, .any r2, fun _ h => List.mem_append_right _ h⟩
    | succ i =>
      obtain ⟨B', e, s⟩ := ih i
      exact ⟨_, .val r1 e fun a h z => n a h (s a z), fun a h => (List.mem_append.mp h).elim (List.mem_append_left _) fun z => List.mem_append_right _ (s a z)⟩
theorem EnvR.wipe (r : EnvR K A H σ ρ B) : ∀ vs, ∃ B', EnvR K A H (L2.wipe σ vs) (wipeE ρ vs) B' ∧ ∀ a ∈ B', a ∈ B
  | [] => ⟨B, r, fun _ h => h⟩
  | v :: vs => by
    obtain ⟨B1, r1, s1⟩ := r.wipe vs
    obtain ⟨B2, r2, s2⟩ := r1.drop v
    exact ⟨B2, r2, fun a h => s1 a (s2 a h)⟩
theorem takes_name {own : Option (List Nat)} {j : Nat} (h : ∀ vs, own = some vs → j ∈ vs) : Takes K (gName j) own x ρ (ρ.set j (some x)) := fun A H σ B v w r q Q k => by
  obtain ⟨B', r', s⟩ := r.set q (fun _ h => nomatch h) j
  exact k _ B' (fun vs e => wipe_set (h vs e)) (fun a h => (s a h).elim (fun z => nomatch z) id) r'
/-- a source of items -/
def Walks (K : PySem.W.Frag) (wi : TI) (ρ : Env) (ds : List D) : Prop := ∀ (A : Own) (H : Hp) (σ : L2.St) (B : List Addr), WA A H → EnvR K A H σ ρ B → ∀ R : It → Hp → Prop,
  (∀ J H1, Ex H H1 → (∀ i A' H', Keep A H1 [] A' H' → WA A' H' → (ds.length ≤ i → J.stop i H') ∧
    (∀ d, ds[i]? = some d → J.go i H' ∧ ∀ x H'', J.yld i H' x H'' → Ex H' H'' ∧ Rp K A' H'' x d [])) → R J H1) → wi σ H R
theorem RpAll.get0 {xs : List V} (r : RpAll K A H xs ds []) {i : Nat} {x : V} {d : D} (h : xs[i]? = some x) (h' : ds[i]? = some d) : Rp K A H x d [] := by
  obtain ⟨x', C, hx, rx, cs⟩ := r.get h'
  rw [h] at hx
  cases hx
  have : C = [] := by
    cases C with
    | nil => rfl
    | cons c _ => exact nomatch cs c List.mem_cons_self
  subst this
  exact rx
theorem RpAll.at0 {xs : List V} (r : RpAll K A H xs ds []) {i : Nat} {d : D} (h' : ds[i]? = some d) : ∃ x, xs[i]? = some x ∧ Rp K A H x d [] := by
  obtain ⟨x, _, hx, _⟩ := r.get h'
  exact ⟨x, hx, r.get0 hx h'⟩
/-- a list, a tuple that nobody changes -/
theorem walks_list (h : EvS K te ρ (.lst false ds)) : Walks K (iList K te) ρ ds := fun A H σ B w r R k =>
  h A H σ B w r _ fun v H1 C e f p1 => by
    obtain rfl := p1.shd _ rfl
    rw [Own.and_nil] at p1
    cases p1 with
    | @lstS a xs _ hs ra =>
    have hq0 : ∀ {A' H'}, Keep A H1 [] A' H' → SqL K H' a xs := fun kp => hs.elim (fun hs => .inl (hs.keep kp).1) .inr
    refine ⟨a, rfl, ⟨xs, hs.imp (fun h => h.1) id⟩, k _ H1 e fun i A' H' kp w' => ?_⟩
    have hq : SqL K H' a xs := hq0 kp
    refine ⟨fun hi => ⟨xs, hq, by rw [ra.len]; exact hi⟩, fun d hd => ?_⟩
    obtain ⟨x, hx, rx⟩ := ra.at0 hd
    refine ⟨⟨xs, x, hq, hx⟩, fun y H'' hy => ?_⟩
    obtain ⟨rfl, fy⟩ := hy
    have ey := fy xs hq
    rw [hx] at ey
    cases ey
    exact ⟨Ex.rfl', rx.keep _ kp⟩
theorem walks_tup (h : EvS K te ρ (.tup false ds)) : Walks K (iTup K te) ρ ds := fun A H σ B w r R k =>
  h A H σ B w r _ fun v H1 C e f p1 => by
    obtain rfl := p1.shd _ rfl
    rw [Own.and_nil] at p1
    cases p1 with
    | @tupS a xs _ hs ra =>
    have hq0 : ∀ {A' H'}, Keep A H1 [] A' H' → SqT K H' a xs := fun kp => hs.elim (fun hs => .inl (hs.keep kp).1) .inr
    refine ⟨a, rfl, ⟨xs, hs.elim (fun h => .inl h.1) .inr⟩, k _ H1 e fun i A' H' kp w' => ?_⟩
    have hq : SqT K H' a xs := hq0 kp
    refine ⟨fun hi => ⟨xs, hq, by rw [ra.len]; exact hi⟩, fun d hd => ?_⟩
    obtain ⟨x, hx, rx⟩ := ra.at0 hd
    refine ⟨⟨xs, x, hq, hx⟩, fun y H'' hy => ?_⟩
    obtain ⟨rfl, fy⟩ := hy
    have ey := fy xs hq
    rw [hx] at ey
    cases ey
    exact ⟨Ex.rfl', rx.keep _ kp⟩
/-- the ints of a range -/
def rng (lo : Int) (n : Nat) : List D := (List.range n).map fun k => .int (lo + (k : Nat))
theorem rng_len (lo : Int) (n : Nat) : (rng lo n).length = n := by simp [rng]
theorem rng_get {lo : Int} {n i : Nat} {d : D} (h : (rng lo n)[i]? = some d) : i < n ∧ d = .int (lo + (i : Nat)) := by
  unfold rng at h
  rw [List.getElem?_map] at h
  by_cases hi : i < n
  · rw [List.getElem?_range hi] at h
    exact ⟨hi, (Option.some.inj h).symm⟩
  · rw [List.getElem?_eq_none (by simpa using hi)] at h
    cases h
theorem walks_itr {lo : Int} {n i : Nat} {A' : Own} {H' : Hp} : ((rng lo n).length ≤ i → (Itr lo n).stop i H') ∧ (∀ d, (rng lo n)[i]? = some d → (Itr lo n).go i H' ∧ ∀ x H'', (Itr lo n).yld i H' x H'' → Ex H' H'' ∧ Rp K A' H'' x d []) := by
  refine ⟨fun h => by rw [rng_len] at h; exact h, fun d hd => ?_⟩
  obtain ⟨h1, rfl⟩ := rng_get hd
  refine ⟨h1, fun x H'' hy => ?_⟩
  obtain ⟨rfl, rfl⟩ := hy
  exact ⟨Ex.rfl', .sc _⟩
theorem walks_rng1 {ta : TA} {j : Int} (h : EvA K ta ρ [.int j]) (h1 : -2 ^ 62 ≤ j) (h2 : j < 2 ^ 62) : Walks K (iRng1 ta) ρ (rng 0 j.toNat) := fun A H σ B w r R k =>
  h A H σ B w r _ fun vs H1 C e f p1 => by
    obtain ⟨x, rfl, p2⟩ := p1.one
    cases p2
    exact ⟨j, rfl, h1, h2, k _ H1 e fun i A' H' kp w' => walks_itr⟩
theorem walks_rng2 {ta : TA} {i j : Int} (h : EvA K ta ρ [.int i, .int j]) (h1 : -2 ^ 62 ≤ i ∧ i < 2 ^ 62 ∧ -2 ^ 62 ≤ j ∧ j < 2 ^ 62) : Walks K (iRng2 ta) ρ (rng i (j - i).toNat) := fun A H σ B w r R k =>
  h A H σ B w r _ fun vs H1 C e f p1 => by
    obtain ⟨x, y, _, _, rfl, p2, p3, _⟩ := p1.two
    cases p2
    cases p3
    exact ⟨i, j, rfl, h1, k _ H1 e fun i A' H' kp w' => walks_itr⟩
/-- a text's sgns -/
def sgns (a : Str) : List D := a.cps.toList.map fun c => .str ⟨#[c]⟩
theorem walks_str {a : Str} (h : EvS K te ρ (.str a)) : Walks K (iStr te) ρ (sgns a) := fun A H σ B w r R k =>
  h A H σ B w r _ fun v H1 C e f p1 => by
    cases p1
    refine ⟨a, rfl, k _ H1 e fun i A' H' kp w' => ⟨fun hi => ?_, fun d hd => ?_⟩⟩
    · show a.cps.size ≤ i
      simpa [sgns] using hi
    · unfold sgns at hd
      rw [List.getElem?_map] at hd
      cases hc : a.cps.toList[i]? with
      | none => rw [hc] at hd; cases hd
      | some c =>
        rw [hc] at hd
        have hd' : D.str ⟨#[c]⟩ = d := Option.some.inj hd
        subst hd'
        refine ⟨?_, fun x H'' hy => ?_⟩
        · show i < a.cps.size
          have := (List.getElem?_eq_some_iff.mp hc).1
          simpa using this
        · obtain ⟨rfl, c', hc', rfl⟩ := hy
          have : c' = c := by
            have h2 : a.cps.toList[i]? = some c' := by simpa using hc'
            rw [hc] at h2
            exact (Option.some.inj h2).symm
          subst this
          exact ⟨Ex.rfl', .sc _⟩
/-- enumerate of a list -/
def enumd (ds : List D) : List D := ds.mapIdx fun i d => .tup false [.int (i : Nat), d]
theorem walks_enum {ta : TA} (h : EvA K ta ρ [.lst false ds]) : Walks K (iEnum K ta) ρ (enumd ds) := fun A H σ B w r R k =>
  h A H σ B w r _ fun vs H1 C e f p1 => by
    obtain ⟨x, rfl, p2⟩ := p1.one
    obtain rfl := p2.shd _ rfl
    rw [Own.and_nil] at p2
    cases p2 with
    | @lstS a xs _ hs ra =>
    have hq0 : ∀ {A' H'}, Keep A H1 [] A' H' → SqL K H' a xs := fun kp => hs.elim (fun hs => .inl (hs.keep kp).1) .inr
    refine ⟨a, xs, rfl, hs.imp (fun h => h.1) id, k _ H1 e fun i A' H' kp w' => ?_⟩
    have hq : SqL K H' a xs := hq0 kp
    refine ⟨fun hi => ⟨xs, hq, by rw [ra.len]; simpa [enumd] using hi⟩, fun d hd => ?_⟩
    unfold enumd at hd
    rw [List.getElem?_mapIdx] at hd
    cases hd0 : ds[i]? with
    | none => rw [hd0] at hd; cases hd
    | some d0 =>
      rw [hd0] at hd
      have hd' : D.tup false [.int (i : Nat), d0] = d := Option.some.inj hd
      subst hd'
      obtain ⟨x, hx, rx⟩ := ra.at0 hd0
      refine ⟨⟨xs, x, hq, hx⟩, fun y H'' hy => ?_⟩
      obtain ⟨T, x', rfl, hT, rfl, fy⟩ := hy
      have ey := fy xs hq
      rw [hx] at ey
      cases ey
      have nT : ¬ A' T := fun z => w' T z hT
      refine ⟨Ex.new hT, .tupS (.inl ⟨.inl upd_same, nT⟩) (RpAll.cons (B := []) (C := []) (.sc _) (RpAll.cons (B := []) (C := []) ((rx.keep _ kp).keep _ ⟨fun b o hb nb => ⟨Ex.new hT b o hb, nb⟩, fun _ _ h => nomatch h⟩) .nil fun _ h => nomatch h) fun _ h => nomatch h)⟩
/-- zip of two lists -/
def zipd (ds es : List D) : List D := List.zipWith (fun d e => .tup false [d, e]) ds es
theorem walks_zip {ta : TA} {es : List D} (h : EvA K ta ρ [.lst false ds, .lst false es]) : Walks K (iZip K ta) ρ (zipd ds es) := fun A H σ B w r R k =>
  h A H σ B w r _ fun vs H1 C e f p1 => by
    obtain ⟨x, y, _, _, rfl, p2, p3, rfl, _⟩ := p1.two
    obtain rfl := p2.shd _ rfl
    obtain rfl := p3.shd _ rfl
    rw [List.append_nil, Own.and_nil] at p2 p3
    cases p2 with
    | @lstS a xs _ hs ra =>
    cases p3 with
    | @lstS b ys _ hs' rb =>
    have hq0 : ∀ {A' H'}, Keep A H1 [] A' H' → SqL K H' a xs := fun kp => hs.elim (fun hs => .inl (hs.keep kp).1) .inr
    have hq1 : ∀ {A' H'}, Keep A H1 [] A' H' → SqL K H' b ys := fun kp => hs'.elim (fun hs => .inl (hs.keep kp).1) .inr
    refine ⟨a, b, xs, ys, rfl, hs.imp (fun h => h.1) id, hs'.imp (fun h => h.1) id, k _ H1 e fun i A' H' kp w' => ?_⟩
    have hq : SqL K H' a xs := hq0 kp
    have hq' : SqL K H' b ys := hq1 kp
    refine ⟨fun hi => ⟨xs, ys, hq, hq', ?_⟩, fun d hd => ?_⟩
    · rw [ra.len, rb.len]
      simp only [zipd, List.length_zipWith] at hi
      omega
    · unfold zipd at hd
      rw [List.getElem?_zipWith] at hd
      cases h1 : ds[i]? with
      | none => simp [h1] at hd
      | some d0 =>
        cases h2 : es[i]? with
        | none => simp [h1, h2] at hd
        | some e0 =>
          simp only [h1, h2] at hd
          have hd' : D.tup false [d0, e0] = d := Option.some.inj hd
          subst hd'
          obtain ⟨x, hx, rx⟩ := ra.at0 h1
          obtain ⟨y, hy, ry⟩ := rb.at0 h2
          refine ⟨⟨xs, ys, x, y, hq, hq', hx, hy⟩, fun z H'' hz => ?_⟩
          obtain ⟨T, x', y', rfl, hT, rfl, fx, fy⟩ := hz
          have ex := fx xs hq
          have ey := fy ys hq'
          rw [hx] at ex
          rw [hy] at ey
          cases ex
          cases ey
          have nT : ¬ A' T := fun z => w' T z hT
          have kT : Keep A' H' [] A' (upd H' T (.tup [x, y])) := ⟨fun b o hb nb => ⟨Ex.new hT b o hb, nb⟩, fun _ _ h => nomatch h⟩
          exact ⟨Ex.new hT, .tupS (.inl ⟨.inl upd_same, nT⟩) (RpAll.cons (B := []) (C := []) ((rx.keep _ kp).keep _ kT) (RpAll.cons (B := []) (C := []) ((ry.keep _ kp).keep _ kT) .nil fun _ h => nomatch h) fun _ h => nomatch h)⟩
/-- reversed of a list -/
theorem walks_rev {ta : TA} (h : EvA K ta ρ [.lst false ds]) : Walks K (iRev K ta) ρ ds.reverse := fun A H σ B w r R k =>
  h A H σ B w r _ fun vs H1 C e f p1 => by
    obtain ⟨x, rfl, p2⟩ := p1.one
    obtain rfl := p2.shd _ rfl
    rw [Own.and_nil] at p2
    cases p2 with
    | @lstS a xs _ hs ra =>
    have hq0 : ∀ {A' H'}, Keep A H1 [] A' H' → SqL K H' a xs := fun kp => hs.elim (fun hs => .inl (hs.keep kp).1) .inr
    refine ⟨a, xs, rfl, hs.imp (fun h => h.1) id, k _ H1 e fun i A' H' kp w' => ?_⟩
    have hq : SqL K H' a xs := hq0 kp
    refine ⟨fun hi => by show xs.length ≤ i; rw [ra.len]; simpa using hi, fun d hd => ?_⟩
    have hi : i < ds.length := by
      have := (List.getElem?_eq_some_iff.mp hd).1
      simpa using this
    have hd0 : ds[xs.length - 1 - i]? = some d := by
      rw [ra.len, ← List.getElem?_reverse hi]
      exact hd
    obtain ⟨x, hx, rx⟩ := ra.at0 hd0
    refine ⟨⟨by rw [ra.len]; exact hi, xs, x, hq, hx⟩, fun y H'' hy => ?_⟩
    obtain ⟨rfl, fy⟩ := hy
    have ey := fy xs hq
    rw [hx] at ey
    cases ey
    exact ⟨Ex.rfl', rx.keep _ kp⟩
theorem keep_step {A0 : Own} {H H' : Hp} {B B' : List Addr} (w : W0 A0 B H) (s : Step B H B' H') : Keep (A0.and B) H [] (A0.and B') H' :=
  ⟨fun a o e n => ⟨s.keep a o e fun z => n (.inr z), fun z => z.elim (fun z => n (.inl z)) fun z => (s.fresh a z).elim (fun z => n (.inr z)) fun z => by rw [z] at e; cases e⟩, fun _ _ h => nomatch h⟩
/-- what follows the turns -/
inductive After (K : PySem.W.Frag) (W : WX) (g : TG) (tb : TS) (ds : List D) (R : Env) (m : Nat) : Out → Prop
  | all : m = ds.length → After K W g tb ds R m (.nx R)
  | ret {x : D} {ρ1 : Env} {d : D} : ds[m]? = some x → Takes K g none x R ρ1 → Run K W tb ρ1 (.rt d) → After K W g tb ds R m (.rt d)
  | rtv {x : D} {ρ1 ρ2 : Env} {d : D} : ds[m]? = some x → Takes K g none x R ρ1 → Run K W tb ρ1 (.rv d ρ2) → After K W g tb ds R m (.rv d ρ2)
  | err {x : D} {ρ1 ρ2 : Env} {C : Addr} {fs : List (Str × V)} : ds[m]? = some x → Takes K g none x R ρ1 → Run K W tb ρ1 (.er C fs ρ2) → After K W g tb ds R m (.er C fs ρ2)
  | brk {x : D} {ρ1 ρ2 : Env} : ds[m]? = some x → Takes K g none x R ρ1 → Run K W tb ρ1 (.bk ρ2) → After K W g tb ds R m (.nx ρ2)
theorem run_for (hw : Walks K wi ρ ds) (R : Nat → Env) (m : Nat) (hm : m ≤ ds.length) (h0 : Weak ρ (R 0))
    (hs : ∀ k x, k < m → ds[k]? = some x → ∃ ρ1, Takes K g none x (R k) ρ1 ∧ (Run K W tb ρ1 (.nx (R (k + 1))) ∨ Run K W tb ρ1 (.ct (R (k + 1)))))
    (he : After K W g tb ds (R m) m o) : Run K W (tFor wi g tb) ρ o := fun A0 H σ B E w r p => by
  refine hw (A0.and B) H σ B (w.wa r) r _ fun J H1 e1 hJ => ?_
  have s1 : Step B H B H1 := .ex e1 fun a h => .inl h
  have w1 := w.step s1
  have r1 : EnvR K (A0.and B) H1 σ ρ B := (et_step (w.wa r) r e1).2
  refine ⟨fun i c σ' H' => i ≤ m ∧ c = m - i ∧ ∃ B', Step B H1 B' H' ∧ EnvR K (A0.and B') H' σ' (R i) B', ⟨m, Nat.zero_le _, rfl, ?_⟩, ?_⟩
  · obtain ⟨B2, r2, s2⟩ := r1.weak h0
    exact ⟨B2, .ex Ex.rfl' fun a h => .inl (s2 a h), r2.keep (keep_less (fun a z => z.imp id (s2 a)) fun a h => .inr h)⟩
  · rintro i c σ' H' ⟨hi, rfl, B', s', r'⟩
    have w' := w1.step s'
    obtain ⟨hstop, hgo⟩ := hJ i (A0.and B') H' (keep_step w1 s') (w'.wa r')
    -- one item of the source: the target takes it
    have turn : ∀ x ρ1, ds[i]? = some x → Takes K g none x (R i) ρ1 → ∀ (E' : Ends) (o' : Out), Run K W tb ρ1 o' → (∀ H2, Ex H' H2 → Post K W A0 H2 B' E' o') →
        J.go i H' ∧ ∀ y H'', J.yld i H' y H'' → g y σ' H'' fun σ2 H2 => tb E' σ2 H2 := fun x ρ1 hx tk E' o' run post => by
      obtain ⟨h1, h2⟩ := hgo x hx
      refine ⟨h1, fun y H'' hy => ?_⟩
      obtain ⟨e2, ry⟩ := h2 y H'' hy
      obtain ⟨w2, r2⟩ := et_step (w'.wa r') r' e2
      refine tk (A0.and B') H'' σ' B' y w2 r2 ry _ fun σ2 B2 _ sb r3 => ?_
      have s2 : Step B' H'' B2 H'' := .ex Ex.rfl' fun a h => .inl (sb a h)
      have w3 : W0 A0 B' H'' := w'.step (.ex e2 fun a h => .inl h)
      exact run A0 H'' σ2 B2 E' (w3.step s2) (r3.keep (keep_less (fun a z => z.imp id (sb a)) fun a h => .inr h)) ((post H'' e2).step s2)
    by_cases hlt : i < m
    · refine .inr ?_
      obtain ⟨x, hx⟩ : ∃ x, ds[i]? = some x := ⟨ds[i], by simp [Nat.lt_of_lt_of_le hlt hm]⟩
      obtain ⟨ρ1, tk, run⟩ := hs i x hlt hx
      let N : L2.St → Hp → Prop := fun σ2 H2 => ∃ B2, Step B H1 B2 H2 ∧ EnvR K (A0.and B2) H2 σ2 (R (i + 1)) B2
      have hN : ∀ σ2 H2, N σ2 H2 → ∃ c', c' < m - i ∧ i + 1 ≤ m ∧ c' = m - (i + 1) ∧ ∃ B', Step B H1 B' H2 ∧ EnvR K (A0.and B') H2 σ2 (R (i + 1)) B' := fun σ2 H2 hn => ⟨m - (i + 1), by omega, hlt, rfl, hn⟩
      have pn : ∀ H2, Ex H' H2 → ∀ H3 σ3 B3, Step B' H2 B3 H3 → EnvR K (A0.and B3) H3 σ3 (R (i + 1)) B3 → N σ3 H3 := fun H2 e2 H3 σ3 B3 s3 r3 => ⟨B3, s'.trans ((Step.ex e2 fun a h => .inl h).trans s3), r3⟩
      rcases run with run | run
      · obtain ⟨h1, h2⟩ := turn x ρ1 hx tk { E with nx := N, ct := N, bk := E.nx } _ run fun H2 e2 => pn H2 e2
        exact ⟨h1, N, hN, h2⟩
      · obtain ⟨h1, h2⟩ := turn x ρ1 hx tk { E with nx := N, ct := N, bk := E.nx } _ run fun H2 e2 => pn H2 e2
        exact ⟨h1, N, hN, h2⟩
    · have : i = m := by omega
      subst this
      cases he with
      | all hl => exact .inl ⟨hstop (by omega), p H' σ' B' (s1.trans s') r'⟩
      | @ret x ρ1 d hx tk run =>
        refine .inr ?_
        obtain ⟨h1, h2⟩ := turn x ρ1 hx tk { E with nx := fun _ _ => False, ct := fun _ _ => False, bk := E.nx } _ run fun H2 e2 => (p.step (s1.trans (s'.trans (Step.ex e2 fun a h => .inl h))) : Post K W A0 H2 B' E (.rt d))
        exact ⟨h1, _, fun _ _ h => h.elim, h2⟩
      | @rtv x ρ1 ρ2 d hx tk run =>
        refine .inr ?_
        obtain ⟨h1, h2⟩ := turn x ρ1 hx tk { E with nx := fun _ _ => False, ct := fun _ _ => False, bk := E.nx } _ run fun H2 e2 => (p.step (s1.trans (s'.trans (Step.ex e2 fun a h => .inl h))) : Post K W A0 H2 B' E (.rv d ρ2))
        exact ⟨h1, _, fun _ _ h => h.elim, h2⟩
      | @err x ρ1 ρ2 C fs hx tk run =>
        refine .inr ?_
        obtain ⟨h1, h2⟩ := turn x ρ1 hx tk { E with nx := fun _ _ => False, ct := fun _ _ => False, bk := E.nx } _ run fun H2 e2 => (p.step (s1.trans (s'.trans (Step.ex e2 fun a h => .inl h))) : Post K W A0 H2 B' E (.er C fs ρ2))
        exact ⟨h1, _, fun _ _ h => h.elim, h2⟩
      | @brk x ρ1 ρ2 hx tk run =>
        refine .inr ?_
        obtain ⟨h1, h2⟩ := turn x ρ1 hx tk { E with nx := fun _ _ => False, ct := fun _ _ => False, bk := E.nx } _ run fun H2 e2 H3 σ3 B3 s3 r3 => p H3 σ3 B3 (s1.trans (s'.trans ((Step.ex e2 fun a h => .inl h).trans s3))) r3
        exact ⟨h1, _, fun _ _ h => h.elim, h2⟩
/-- no turn leaves -/
theorem run_forA {α : Type} {xs : List α} {inj : α → D} (hw : Walks K wi ρ (xs.map inj)) (R : Nat → Env) (h0 : Weak ρ (R 0)) (hR : R xs.length = ρ')
    (hs : ∀ k x, xs[k]? = some x → ∃ ρ1, Takes K g none (inj x) (R k) ρ1 ∧ (Run K W tb ρ1 (.nx (R (k + 1))) ∨ Run K W tb ρ1 (.ct (R (k + 1))))) : Run K W (tFor wi g tb) ρ (.nx ρ') := by
  refine run_for hw R xs.length (by rw [List.length_map]; exact Nat.le_refl _) h0 (fun k x hk hx => ?_) ?_
  · rw [List.getElem?_map] at hx
    cases hc : xs[k]? with
    | none => rw [hc] at hx; cases hx
    | some a =>
      rw [hc] at hx
      cases Option.some.inj hx
      exact hs k a hc
  · rw [← hR]
    exact .all (by rw [List.length_map])
theorem run_forN {α : Type} {xs : List α} {inj : α → D} {j : Nat} (hw : Walks K wi ρ (xs.map inj)) (R : Nat → Env) (h0 : Weak ρ (R 0)) (hR : R xs.length = ρ')
    (hs : ∀ k x, xs[k]? = some x → Run K W tb ((R k).set j (some (inj x))) (.nx (R (k + 1)))) : Run K W (tFor wi (gName j) tb) ρ (.nx ρ') :=
  run_forA hw R h0 hR fun k x hx => ⟨_, takes_name (fun _ h => nomatch h), .inl (hs k x hx)⟩
end
end FP

namespace FP
open PySem PySem.Spec PyProof.Rows L2

/-! ### comprehensions -/
section
variable {K : PySem.W.Frag} {A : Own} {H : Hp} {σ : L2.St} {ρ ρ' ρ2 : Env} {B : List Addr} {t u ts tb : TS} {o : Out} {te : TE} {tt : TT} {d x : D} {i : Nat} {g : TG} {ds : List D} {wi : TI} {vs : List Nat}
theorem et_yes : EvT K tYes ρ true := fun _ H _ _ _ _ Q q => q H Ex.rfl'
theorem filter_take_snoc {α : Type} {ds : List α} {p : α → Bool} {f : α → D} {i : Nat} {x : α} (h : ds[i]? = some x) :
    ((ds.take (i + 1)).filter p).map f = ((ds.take i).filter p).map f ++ (if p x = true then [f x] else []) := by
  rw [List.take_add_one, h, List.filter_append, List.map_append]
  congr 1
  show (List.filter p [x]).map f = _
  cases hp : p x <;> simp [hp]
theorem ev_lc {α : Type} {ds : List α} {inj : α → D} (hw : Walks K wi ρ (ds.map inj)) (ρ1 : α → Env) (p : α → Bool) (f : α → D) (hl : ds.length ≤ 1000000)
    (ht : ∀ x ∈ ds, Takes K g (some vs) (inj x) (wipeE ρ vs) (ρ1 x)) (hb : ∀ x ∈ ds, EvT K tt (ρ1 x) (p x)) (he : ∀ x ∈ ds, p x = true → EvS K te (ρ1 x) (f x)) :
    EvS K (tLc wi g tt te vs) ρ (.lst true ((ds.filter p).map f)) := fun A H σ B w r Q q => by
  refine hw A H σ B w r _ fun J H1 e1 hJ Dl hD => ?_
  obtain ⟨w1, r1⟩ := et_step w r e1
  obtain ⟨Bw, rw1, sw⟩ := r1.wipe vs
  have rw2 : EnvR K A H1 (L2.wipe σ vs) (wipeE ρ vs) Bw := rw1
  refine ⟨fun i c H' => i ≤ ds.length ∧ c = ds.length - i ∧ ∃ acc Cs, Ex H1 H' ∧ H' Dl = some (.lst acc) ∧ RpAll K (A.and (Dl :: Cs)) H' acc (((ds.take i).filter p).map f) Cs ∧ Dl ∉ Cs ∧ (∀ a ∈ Cs, H1 a = none), ⟨ds.length, Nat.zero_le _, rfl, [], [], Ex.new hD, upd_same, .nil, (fun h => nomatch h), (fun _ h => nomatch h)⟩, ?_⟩
  rintro i c H' ⟨hi, rfl, acc, Cs, e2, hacc, racc, nD, fr⟩
  have wI : WA (A.and (Dl :: Cs)) H' := w1.and e2 fun a h => (List.mem_cons.mp h).elim (fun z => by rw [z, hacc]; simp) fun z => (racc.tracked _ a z).1
  have fr' : ∀ a ∈ Dl :: Cs, H1 a = none := fun a h => (List.mem_cons.mp h).elim (fun z => by rw [z]; exact hD) (fr a)
  have kI : ∀ B0, (∀ a ∈ B0, A a) → Keep A H1 B0 (A.and (Dl :: Cs)) H' := fun B0 hB => keep_and w1 e2 fr' hB
  obtain ⟨hstop, hgo⟩ := hJ i (A.and (Dl :: Cs)) H' (kI [] fun _ h => nomatch h) wI
  by_cases hlt : i < ds.length
  · refine .inr ?_
    obtain ⟨x, hx⟩ : ∃ x, ds[i]? = some x := ⟨ds[i], by simp [hlt]⟩
    have mx : x ∈ ds := List.mem_of_getElem? hx
    obtain ⟨h1, h2⟩ := hgo (inj x) (by rw [List.getElem?_map, hx]; rfl)
    refine ⟨h1, fun H'' => i + 1 ≤ ds.length ∧ ∃ acc Cs, Ex H1 H'' ∧ H'' Dl = some (.lst acc) ∧ RpAll K (A.and (Dl :: Cs)) H'' acc (((ds.take (i + 1)).filter p).map f) Cs ∧ Dl ∉ Cs ∧ (∀ a ∈ Cs, H1 a = none),
      fun H'' h => ⟨ds.length - (i + 1), by omega, h.1, rfl, h.2⟩, fun y H'' hy => ?_⟩
    obtain ⟨e3, ry⟩ := h2 y H'' hy
    have rI : EnvR K (A.and (Dl :: Cs)) H' (L2.wipe σ vs) (wipeE ρ vs) Bw := rw2.keep (kI Bw fun a h => (rw2.tracked a h).2)
    obtain ⟨w3, r3⟩ := et_step wI rI e3
    refine ht x mx (A.and (Dl :: Cs)) H'' (L2.wipe σ vs) Bw y w3 r3 ry _ fun σ2 B2 hwp sb r4 => ⟨?_, ?_⟩
    · rw [hwp vs rfl, wipe_wipe]
    refine hb x mx (A.and (Dl :: Cs)) H'' σ2 B2 w3 r4 _ fun H3 e4 => ?_
    have racc3 : RpAll K (A.and (Dl :: Cs)) H3 acc (((ds.take i).filter p).map f) Cs := racc.keep _ ⟨fun a o h n => ⟨e4 a o (e3 a o h), n⟩, fun a o m h => ⟨e4 a o (e3 a o h), .inr (List.mem_cons_of_mem _ m)⟩⟩
    have hacc3 : H3 Dl = some (.lst acc) := e4 _ _ (e3 _ _ hacc)
    have e13 : Ex H1 H3 := (e2.tr e3).tr e4
    cases hp : p x with
    | false =>
      refine ⟨hlt, acc, Cs, e13, hacc3, ?_, nD, fr⟩
      rw [filter_take_snoc hx, hp]
      simpa using racc3
    | true =>
      obtain ⟨w5, r5⟩ := et_step w3 r4 e4
      refine he x mx hp (A.and (Dl :: Cs)) H3 σ2 B2 w5 r5 _ fun z H4 C e5 f5 p5 => ?_
      have hacc4 : H4 Dl = some (.lst acc) := e5 _ _ hacc3
      have nC : ∀ a ∈ C, H3 a = none := f5
      have DC : Dl ∉ C := fun z => by rw [f5 Dl z] at hacc3; cases hacc3
      refine ⟨acc, hacc4, ?_, hlt, acc ++ [z], Cs ++ C, ?_, upd_same, ?_, ?_, ?_⟩
      · rw [racc.len, List.length_map]
        refine Nat.lt_of_le_of_lt (List.length_filter_le _ _) ?_
        rw [List.length_take]
        exact Nat.lt_of_le_of_lt (Nat.min_le_right _ _) (Nat.lt_of_le_of_lt hl (by decide))
      · intro a o h
        rw [upd_ne fun z => by rw [z, hD] at h; cases h]
        exact e5 a o (e13 a o h)
      · rw [filter_take_snoc hx, hp]
        have a4 : RpAll K ((A.and (Dl :: Cs)).and C) H4 acc (((ds.take i).filter p).map f) Cs := racc3.keep _ (keep_and w5 e5 f5 fun a h => .inr (List.mem_cons_of_mem _ h))
        have sn := a4.snoc p5 fun a h m => (racc3.tracked _ a h).1 (f5 a m)
        have sn2 := sn.keep _ (keep_upd (A := (A.and (Dl :: Cs)).and C) (a := Dl) (o := .lst (acc ++ [z])) (.inl (.inr List.mem_cons_self)) (fun h => (List.mem_append.mp h).elim nD DC) fun b hb => (sn.tracked _ b hb).2)
        have eqv : ∀ a, ((A.and (Dl :: Cs)).and C) a ↔ (A.and (Dl :: (Cs ++ C))) a := fun a => by simp [Own.and, or_assoc]
        exact sn2.keep _ ⟨fun a o e n => ⟨e, fun z => n ((eqv a).mpr z)⟩, fun a o m e => ⟨e, .inr (List.mem_cons_of_mem _ m)⟩⟩
      · exact fun h => (List.mem_append.mp h).elim nD DC
      · exact fun a h => (List.mem_append.mp h).elim (fr a) fun h => e13.back (f5 a h)
  · have : i = ds.length := by omega
    subst this
    refine .inl ⟨hstop (by rw [List.length_map]; exact Nat.le_refl _), ?_⟩
    rw [List.take_length] at racc
    refine q (.ref Dl) H' (Dl :: Cs) (e1.tr e2) (fun a h => e1.back (fr' a h)) (.lstO hacc (.inr List.mem_cons_self) nD racc)
theorem ev_lc0 {α : Type} {ds : List α} {inj : α → D} (hw : Walks K wi ρ (ds.map inj)) (ρ1 : α → Env) (f : α → D) (hl : ds.length ≤ 1000000)
    (ht : ∀ x ∈ ds, Takes K g (some vs) (inj x) (wipeE ρ vs) (ρ1 x)) (he : ∀ x ∈ ds, EvS K te (ρ1 x) (f x)) : EvS K (tLc wi g tYes te vs) ρ (.lst true (ds.map f)) := by
  have h := ev_lc (tt := tYes) hw ρ1 (fun _ => true) f hl ht (fun _ _ => et_yes) fun x hx _ => he x hx
  rw [List.filter_eq_self.mpr fun _ _ => rfl] at h
  exact h
/-- .. over a range by one name -/
theorem ev_lcR {lo : Int} {n j : Nat} (hw : Walks K wi ρ (rng lo n)) (f : Nat → D) (hl : n ≤ 1000000) (hj : j ∈ vs) (he : ∀ k, k < n → EvS K te ((wipeE ρ vs).set j (some (.int (lo + (k : Nat))))) (f k)) :
    EvS K (tLc wi (gName j) tYes te vs) ρ (.lst true ((List.range n).map f)) :=
  ev_lc0 (inj := fun k : Nat => .int (lo + k)) hw (fun k => (wipeE ρ vs).set j (some (.int (lo + k)))) f (by simpa using hl) (fun x _ => takes_name fun vs e => by cases e; exact hj) fun x hx => he x (by simpa using hx)
/-- .. over anything by one name -/
theorem ev_lcN {α : Type} {ds : List α} {inj : α → D} {j : Nat} (hw : Walks K wi ρ (ds.map inj)) (p : α → Bool) (f : α → D) (hl : ds.length ≤ 1000000) (hj : j ∈ vs) (hb : ∀ x ∈ ds, EvT K tt ((wipeE ρ vs).set j (some (inj x))) (p x))
    (he : ∀ x ∈ ds, p x = true → EvS K te ((wipeE ρ vs).set j (some (inj x))) (f x)) : EvS K (tLc wi (gName j) tt te vs) ρ (.lst true ((ds.filter p).map f)) :=
  ev_lc hw (fun x => (wipeE ρ vs).set j (some (inj x))) p f hl (fun x _ => takes_name fun vs e => by cases e; exact hj) hb he
theorem ev_lcM {α : Type} {ds : List α} {inj : α → D} {j : Nat} (hw : Walks K wi ρ (ds.map inj)) (f : α → D) (hl : ds.length ≤ 1000000) (hj : j ∈ vs)
    (he : ∀ x ∈ ds, EvS K te ((wipeE ρ vs).set j (some (inj x))) (f x)) : EvS K (tLc wi (gName j) tYes te vs) ρ (.lst true (ds.map f)) :=
  ev_lc0 hw (fun x => (wipeE ρ vs).set j (some (inj x))) f hl (fun x _ => takes_name fun vs e => by cases e; exact hj) he
end

/-! ### defs -/
/-- a def that changes nothing: what it gives for what -/
def spF (K : PySem.W.Frag) (R : List D → D → Prop) : Sp := fun vs H Q _ => ∃ (A : Own) (ds : List D) (z : D), WA A H ∧ RpAll K A H vs ds [] ∧ R ds z ∧ ∀ v H' C, Ex H H' → Fresh H C → Rp K (A.and C) H' v z C → Q v H'
section
variable {P : Program} {w : World} {K : PySem.W.Frag} {mg : Str → Option Value} {base : Heap}
theorem envR_of {A : Own} {H : Hp} (k : Nat) : ∀ {ds : List D} {vs : List V} {B : List Addr}, RpAll K A H vs ds B → EnvR K A H (vs.map some ++ List.replicate k none) (ds.map some ++ List.replicate k none) B
  | _, _, _, .nil => by
    induction k with
    | zero => exact .nil
    | succ k ih => exact .any ih
  | _, _, _, .cons r t n => .val r (envR_of k t) n
/-- the names' values at a def's entry -/
def env0 (N : List Str) (ds : List D) : Env := ds.map some ++ List.replicate (N.length - ds.length) none
/-- how a body may end -/
def Ends' (z : D) : Out → Prop
  | .rt d => d = z
  | .nx _ => z = .non
  | _ => False
theorem spF_len {R : List D → D → Prop} {n : Nat} (h : ∀ ds z, R ds z → ds.length = n) : ∀ vs H Q E, spF K R vs H Q E → vs.length = n := fun vs H Q E ⟨A, ds, z, _, r, hr, _⟩ => by rw [r.len]; exact h ds z hr
theorem ok_of {x qual : Str} {st : Stmt} {f : Addr} {fd : FuncData} {N ps : List Str} {k : Nat} {R : List D → D → Prop} (F : Fun K x qual st f fd) (S : FnScope N ps (defScope st)) (hlen : ∀ ds z, R ds z → ds.length = ps.length)
    (body : ∀ (cdv : Value) (A : Around) (outer : List PySem.Env) (s : Shared) (H : Hp) (E : XK), Room k (A.deeper (envOfC qual (defScope st) s.heap.objs.size f cdv)) →
      ∃ t, PSs (cxOf CX0 P w K mg base N qual (defScope st) f cdv A outer s H E).nox (defBody st) t ∧ ∀ ds z, R ds z → ∃ o, Run K (fun _ _ _ _ => False) t (env0 N ds) o ∧ Ends' z o) : FnOk P w K mg base CX0 (k + 1) f fd ps (spF K R) := by
  refine F.ok S (spF_len hlen) fun cdv A outer s H vs Q E hr h => ?_
  obtain ⟨t, ht, hrun⟩ := body cdv A outer s H E hr
  refine ⟨t, ht, ?_⟩
  obtain ⟨A0, ds, z, wa, ra, hR, q⟩ := h
  obtain ⟨o, run, he⟩ := hrun ds z hR
  have e0 : EnvR K (A0.and []) H (start N vs) (env0 N ds) [] := by
    rw [Own.and_nil]
    unfold L2.start env0
    rw [ra.len]
    exact envR_of _ ra
  refine run A0 H (start N vs) [] _ ⟨wa, fun _ _ h => nomatch h⟩ e0 ?_
  have st : ∀ {B' H'}, Step [] H B' H' → Ex H H' ∧ Fresh H B' := fun s => ⟨fun a o h => s.keep a o h fun z => (nomatch z), fun a h => (s.fresh a h).elim (fun z => nomatch z) id⟩
  cases o with
  | rt d =>
    intro v H' B' s r
    cases he
    exact q v H' B' (st s).1 (st s).2 r
  | nx ρ =>
    intro H' σ' B' s r
    cases he
    exact q .non H' [] (st s).1 (fun _ h => nomatch h) (.sc _)
  | bk ρ => exact he.elim
  | ct ρ => exact he.elim
  | er C fs ρ => exact he.elim
  | rv d ρ => exact he.elim
theorem cxK {CX : CXT} {N : List Str} {qual : Str} {scope : Scope} {f : Addr} {cd : Value} {A : Around} {outer : List PySem.Env} {s : Shared} {H : Hp} {E : XK} : (cxOf CX P w K mg base N qual scope f cd A outer s H E).K = K := rfl
/-- a call -/
theorem ev_fn {ρ : Env} {ta : TA} {ds : List D} {z : D} {R : List D → D → Prop} {E : XK} (ha : EvA K ta ρ ds) (hz : R (D.frzs ds) z) : EvS K (tCall (spF K R) [] E ta) ρ z := fun A H σ B w r Q q =>
  ha A H σ B w r _ fun vs H1 C e f p => by
    refine ⟨A, D.frzs ds, z, fun a h => e.ne (w a h), ?_, hz, fun v H2 C2 e2 f2 p2 => q v H2 C2 (e.tr e2) (f2.back e) p2⟩
    rw [List.append_nil]
    exact p.loose _ ⟨fun a o h n => ⟨h, fun z => n (.inl z)⟩, fun a o m h => ⟨h, fun z => w a z (f a m)⟩⟩
/-- a call without arguments -/
theorem ev_fn0 {ρ : Env} {z : D} {R : List D → D → Prop} {E : XK} (hz : R [] z) : EvS K (tCall (spF K R) [] E tNil) ρ z := ev_fn ea_nil hz
end
end FP

namespace FP
open PySem PySem.Spec PyProof.Rows L2

/-! ### given up is given up -/
mutual
theorem D.frz_frz : ∀ d : D, d.frz.frz = d.frz
  | .sc x => rfl
  | .lst o ds => by rw [D.frz, D.frz, D.frzs_frzs ds]
  | .tup o ds => by rw [D.frz, D.frz, D.frzs_frzs ds]
  | .ins o C fs ds => by rw [D.frz, D.frz, D.frzs_frzs ds]
  | .dK o ks ds => by rw [D.frz, D.frz, D.frzs_frzs ds]
  | .dT o ks ds => by rw [D.frz, D.frz, D.frzs_frzs ds]
  | .exc _ _ => by rw [D.frz]; rfl
theorem D.frzs_frzs : ∀ ds : List D, D.frzs (D.frzs ds) = D.frzs ds
  | [] => by rw [D.frzs, D.frzs]
  | d :: ds => by rw [D.frzs, D.frzs, D.frz_frz d, D.frzs_frzs ds]
end
theorem D.shd_frz : ∀ d : D, d.frz.shd = true
  | .sc x => rfl
  | .lst o ds => by rw [D.frz]; rfl
  | .tup o ds => by rw [D.frz]; rfl
  | .ins o C fs ds => by rw [D.frz]; rfl
  | .dK o ks ds => by rw [D.frz]; rfl
  | .dT o ks ds => by rw [D.frz]; rfl
  | .exc _ _ => rfl
theorem D.shd_of {d : D} (h : d.frz = d) : d.shd = true := by
  rw [← h]
  exact D.shd_frz d
theorem D.frzs1 {d : D} (h : d.frz = d) : D.frzs [d] = [d] := by rw [D.frzs, D.frzs, h]
theorem D.frzs_cons {d : D} {ds : List D} : D.frzs (d :: ds) = d.frz :: D.frzs ds := by rw [D.frzs]
theorem D.frzs_nil : D.frzs [] = [] := by rw [D.frzs]
theorem D.frzs_ints (ns : List Int) : D.frzs (ns.map D.int) = ns.map D.int := by
  induction ns with
  | nil => rw [List.map_nil, D.frzs]
  | cons n ns ih => rw [List.map_cons, D.frzs, ih]; rfl
theorem D.frzs_strs (ns : List Str) : D.frzs (ns.map D.str) = ns.map D.str := by
  induction ns with
  | nil => rw [List.map_nil, D.frzs]
  | cons n ns ih => rw [List.map_cons, D.frzs, ih]; rfl
theorem D.frzs_of {α : Type} {f : α → D} (xs : List α) (h : ∀ x ∈ xs, (f x).frz = f x) : D.frzs (xs.map f) = xs.map f := by
  induction xs with
  | nil => rw [List.map_nil, D.frzs]
  | cons n ns ih => rw [List.map_cons, D.frzs, ih fun x hx => h x (List.mem_cons_of_mem _ hx), h n List.mem_cons_self]

/-! ### slices, texts, truth -/
def rSl (K : PySem.W.Frag) : V → Option Int → Option Int → Hp → VK → Prop := fun x lo hi H Q => rSlL K x lo hi H Q ∨ rSlT K x lo hi H Q ∨ rSlS x lo hi H Q
theorem sl_any {X : Cx} : SlR X (rSl X.K) := SlR.or sl_list (SlR.or sl_tup sl_str)
def EvO (K : PySem.W.Frag) (to : TO) (ρ : Env) (o : Option Int) : Prop := ∀ (A : Own) (H : Hp) (σ : L2.St) (B : List Addr), WA A H → EnvR K A H σ ρ B → ∀ Q : Option Int → Hp → Prop, (∀ H', Ex H H' → Q o H') → to σ H Q
def cutX {α : Type} (ds : List α) (lo hi : Option Int) : List α := List.take (HT.sIx ds.length ds.length hi - HT.sIx ds.length 0 lo) (List.drop (HT.sIx ds.length 0 lo) ds)
section
variable {K : PySem.W.Frag} {A : Own} {H : Hp} {σ : L2.St} {ρ ρ' ρ2 : Env} {B : List Addr} {t u ts tb : TS} {o : Out} {te ta to tb : TE} {tt : TT} {d x z : D} {i : Nat} {g : TG} {ds : List D} {wi : TI} {vs : List Nat} {a b : Str}
theorem eo_some {i : Int} (h : EvS K te ρ (.int i)) : EvO K (tPart te) ρ (some i) := fun A H σ B w r Q q => h A H σ B w r _ fun v H1 C e f p => by
  cases p
  exact ⟨i, rfl, q H1 e⟩
theorem eo_none : EvO K (fun _ H Q => Q none H) ρ none := fun A H σ B w r Q q => q H Ex.rfl'
theorem RpAll.take : ∀ {ds : List D} {xs : List V} {B : List Addr} (n : Nat), RpAll K A H xs ds B → ∃ C, RpAll K A H (xs.take n) (ds.take n) C ∧ ∀ a ∈ C, a ∈ B
  | _, _, _, 0, r => ⟨[], .nil, fun _ h => nomatch h⟩
  | _, _, _, _ + 1, .nil => ⟨[], .nil, fun _ h => nomatch h⟩
  | _, _, _, n + 1, .cons r t m => by
    obtain ⟨C, h, s⟩ := RpAll.take n t
    exact ⟨_, .cons r h fun a h z => m a h (s a z), fun a h => (List.mem_append.mp h).elim (List.mem_append_left _) fun z => List.mem_append_right _ (s a z)⟩
theorem RpAll.drop : ∀ {ds : List D} {xs : List V} {B : List Addr} (n : Nat), RpAll K A H xs ds B → ∃ C, RpAll K A H (xs.drop n) (ds.drop n) C ∧ ∀ a ∈ C, a ∈ B
  | _, _, _, 0, r => ⟨_, r, fun _ h => h⟩
  | _, _, _, _ + 1, .nil => ⟨[], .nil, fun _ h => nomatch h⟩
  | _, _, _, n + 1, .cons r t m => by
    obtain ⟨C, h, s⟩ := RpAll.drop n t
    exact ⟨C, h, fun a h => List.mem_append_right _ (s a h)⟩
theorem RpAll.cut {xs : List V} (r : RpAll K A H xs ds B) (lo hi : Option Int) : ∃ C, RpAll K A H (cutV xs lo hi) (cutX ds lo hi) C ∧ ∀ a ∈ C, a ∈ B := by
  unfold cutV cutX
  rw [r.len]
  obtain ⟨C, h, s⟩ := r.drop (HT.sIx ds.length 0 lo)
  obtain ⟨C2, h2, s2⟩ := h.take (HT.sIx ds.length ds.length hi - HT.sIx ds.length 0 lo)
  exact ⟨C2, h2, fun a h => s a (s2 a h)⟩
theorem eo_step {A : Own} {H H1 : Hp} {σ : L2.St} {B C : List Addr} {v : V} (w : WA A H) (rr : EnvR K A H σ ρ B) (e : Ex H H1) (f : Fresh H C) (p : Rp K (A.and C) H1 v d C) : WA (A.and C) H1 ∧ EnvR K (A.and C) H1 σ ρ B :=
  ⟨w.and e fun a h => (p.tracked _ a h).1, rr.keep (keep_and w e f fun a h => (rr.tracked a h).2)⟩
theorem ev_sl {tl th : TO} {lo hi : Option Int} {r : V → Option Int → Option Int → Hp → VK → Prop} (h : EvS K te ρ d) (hl : EvO K tl ρ lo) (hh : EvO K th ρ hi) (hr : Op1 K (fun x H Q => r x lo hi H Q) d z) : EvS K (tSl r te tl th) ρ z := fun A H σ B w rr Q q =>
  h A H σ B w rr _ fun v1 H1 C1 e1 f1 p1 => by
    obtain ⟨w1, r1⟩ := eo_step w rr e1 f1 p1
    refine hl (A.and C1) H1 σ B w1 r1 _ fun H2 e2 => ?_
    obtain ⟨w2, r2⟩ := et_step w1 r1 e2
    refine hh (A.and C1) H2 σ B w2 r2 _ fun H3 e3 => ?_
    obtain ⟨w3, r3⟩ := et_step w2 r2 e3
    refine hr (A.and C1) H3 v1 C1 w3 (p1.keep _ ⟨fun a o h n => ⟨e3 a o (e2 a o h), n⟩, fun a o m h => ⟨e3 a o (e2 a o h), (p1.tracked _ a m).2⟩⟩) Q fun v H4 E e4 f4 p4 => ?_
    refine q v H4 E (((e1.tr e2).tr e3).tr e4) (fun a h => (f4 a h).elim (fun z => e1.back (e2.back (e3.back z))) (f1 a)) (p4.keep _ (keep_less (fun a h => h.imp .inl id) fun a h => .inr h))
theorem sl_lst {o : Bool} {lo hi : Option Int} : Op1 K (fun x H Q => rSl K x lo hi H Q) (.lst o ds) (.lst true (cutX ds lo hi)) := fun A H x B w p Q q => by
  obtain ⟨a, xs, B1, rfl, h1, r1, s1, _⟩ := p.lst
  obtain ⟨C, r2, s2⟩ := r1.cut lo hi
  refine .inl ⟨a, xs, rfl, h1, fun p hp => q _ _ _ (Ex.new hp) (fun c hc => ?_) (Rp.newL hp r2)⟩
  exact (List.mem_cons.mp hc).imp (fun z => by rw [z]; exact hp) fun z => s1 c (s2 c z)
theorem sl_st {lo hi : Option Int} (hl : a.length ≤ sizeLine) : Op1 K (fun x H Q => rSl K x lo hi H Q) (.str a) (.str (cutS a lo hi)) := op1_sc fun H Q q => .inr (.inr ⟨a, rfl, hl, q⟩)
/-- join, split -/
theorem ev_m1 {r : V → List V → Hp → VK → Prop} (h1 : EvS K to ρ (.str a)) (h2 : EvS K te ρ d) (hr : Op1 K (fun y H Q => r (.str a) [y] H Q) d z) : EvS K (tM1 r to te) ρ z := fun A H σ B w rr Q q =>
  h1 A H σ B w rr _ fun v1 H1 C1 e1 f1 p1 => by
    cases p1
    obtain ⟨w1, r1⟩ := et_step w rr e1
    refine ⟨⟨a, rfl⟩, h2 A H1 σ B w1 r1 _ fun v2 H2 C2 e2 f2 p2 => ?_⟩
    have w2 : WA (A.and C2) H2 := w1.and e2 fun a h => (p2.tracked _ a h).1
    refine hr (A.and C2) H2 v2 C2 w2 p2 Q fun v H4 E e4 f4 p4 => ?_
    exact q v H4 E ((e1.tr e2).tr e4) (fun a h => (f4 a h).elim (fun z => e1.back (e2.back z)) fun z => e1.back (f2 a z)) (p4.keep _ (keep_less (fun a h => h.imp .inl id) fun a h => .inr h))
theorem join_strs {o : Bool} {ys : List Str} (h : (ys.map fun x => x.length).sum + ys.length * a.length ≤ 16777216) :
    Op1 K (fun y H Q => ∃ a' p ys, V.str a = V.str a' ∧ [y] = [V.ref p] ∧ (SqL K H p (ys.map V.str) ∨ SqT K H p (ys.map V.str)) ∧ (ys.map fun x => x.length).sum + ys.length * a'.length ≤ 16777216 ∧ Q (V.str (Txt.join a' ys)) H) (.lst o (ys.map D.str)) (.str (Txt.join a ys)) := fun A H x B w p Q q => by
  obtain ⟨l, xs, B1, rfl, h1, r1, s1, _⟩ := p.lst
  rw [r1.strs] at h1
  exact ⟨a, l, ys, rfl, rfl, .inl h1, h, q _ H [] Ex.rfl' nofresh1 (.sc _)⟩
theorem split_str (hb : (b.length == 0) = false) (hl : a.length + 2 ≤ sizeLine) :
    Op1 K (fun y H Q => ∃ a' b, V.str a = V.str a' ∧ [y] = [V.str b] ∧ (b.length == 0) = false ∧ a'.length + 2 ≤ sizeLine ∧ rNewStrs (Txt.split a' b) H Q) (.str b) (.lst true ((Txt.split a b).map D.str)) := fun A H x B w p Q q => by
  cases p
  refine ⟨a, b, rfl, rfl, hb, hl, fun p hp => q _ _ _ (Ex.new hp) (fun c hc => ?_) (Rp.newL hp (RpAll.ofStrs _))⟩
  exact (List.mem_cons.mp hc).imp (fun z => by rw [z]; exact hp) fun z => nomatch z
/-! truth -/
def tru : D → Bool
  | .sc .non => false
  | .sc (.bl b) => b
  | .sc (.int i) => i != 0
  | .sc (.str s) => (s.length : Int) != 0
  | .lst _ ds => !ds.isEmpty
  | .tup _ ds => !ds.isEmpty
  | .dK _ _ ds => !ds.isEmpty
  | _ => true
def truOk : D → Prop
  | .sc .non => True
  | .sc (.bl _) => True
  | .sc (.int _) => True
  | .sc (.str s) => s.length ≤ sizeLine
  | .lst _ _ => True
  | .tup _ _ => True
  | _ => False
theorem isEmpty_len {α β : Type} {xs : List α} {ys : List β} (h : xs.length = ys.length) : xs.isEmpty = ys.isEmpty := by
  cases xs <;> cases ys <;> simp_all
theorem Rp.tru {v : V} (h : Rp K A H v d B) (ho : truOk d) : TruV K v H (tru d) := by
  cases h with
  | sc =>
    cases v with
    | non => rfl
    | bl b => rfl
    | int i => rfl
    | str s => exact ⟨ho, rfl⟩
    | _ => exact ho.elim
  | lstS h r => exact .inl ⟨_, h.imp (fun h => h.1) id, by rw [FP.tru, isEmpty_len r.len]⟩
  | lstO h a n r => exact .inl ⟨_, .inl (.inl h), by rw [FP.tru, isEmpty_len r.len]⟩
  | tupS h r => exact .inr (.inl ⟨_, h.imp (fun h => h.1) id, by rw [FP.tru, isEmpty_len r.len]⟩)
  | tupO h a n r => exact .inr (.inl ⟨_, .inl (.inl h), by rw [FP.tru, isEmpty_len r.len]⟩)
  | _ => exact ho.elim
theorem et_tru (h : EvS K ta ρ d) (ho : truOk d) : EvT K (fun σ H Q => ta σ H fun x H' => ∃ k, TruV K x H' k ∧ Q k H') ρ (tru d) := fun A H σ B w rr Q q => h A H σ B w rr _ fun v H1 C e f p =>
  ⟨_, p.tru ho, q H1 e⟩
theorem ev_notT (h : EvS K ta ρ d) (ho : truOk d) : EvS K (tNotT K ta) ρ (.bl !tru d) := fun A H σ B w rr Q q => h A H σ B w rr _ fun v H1 C e f p =>
  ⟨_, p.tru ho, q _ H1 [] e (fun _ h => nomatch h) (.sc _)⟩
/-- and, or of values: told by the first one's truth -/
theorem ev_andT (h1 : EvS K ta ρ d) (ho : truOk d) (h2 : tru d = true → EvS K tb ρ z) (h3 : tru d = false → z = d) : EvS K (tAndT K ta tb) ρ z := fun A H σ B w rr Q q => h1 A H σ B w rr _ fun v H1 C e f p => by
  refine ⟨_, p.tru ho, ?_⟩
  obtain ⟨w1, r1⟩ := et_step w rr e
  cases ht : FP.tru d with
  | true => exact h2 ht A H1 σ B w1 r1 Q fun v H2 C e2 f2 p => q v H2 C (e.tr e2) (f2.back e) p
  | false =>
    have := h3 ht
    subst this
    exact q v H1 C e f p
theorem ev_orT (h1 : EvS K ta ρ d) (ho : truOk d) (h2 : tru d = false → EvS K tb ρ z) (h3 : tru d = true → z = d) : EvS K (tOrT K ta tb) ρ z := fun A H σ B w rr Q q => h1 A H σ B w rr _ fun v H1 C e f p => by
  refine ⟨_, p.tru ho, ?_⟩
  obtain ⟨w1, r1⟩ := et_step w rr e
  cases ht : FP.tru d with
  | false => exact h2 ht A H1 σ B w1 r1 Q fun v H2 C e2 f2 p => q v H2 C (e.tr e2) (f2.back e) p
  | true =>
    have := h3 ht
    subst this
    exact q v H1 C e f p
/-- isinstance of a built-in class -/
theorem isi_ty {b : String} {r : Bool} (hn : tyN d ≠ "") (h : kitB (tyN d) b = some r) : OpC K (rIsis K) [d, .sc (.ty b)] (.bl r) := opc_sc fun A H xs B p Q q => by
  obtain ⟨x, y, _, _, rfl, p1, p2, _⟩ := p.two
  cases p2
  exact .inl ⟨x, .ty b, _, _, r, rfl, .ty b, p1.tyX hn, kit_ty h, q⟩
end
end FP

namespace FP
open PySem PySem.Spec PyProof.Rows L2

/-! ### == of data -/
mutual
def py : D → PyData
  | .sc .non => .none
  | .sc (.bl b) => .bool b
  | .sc (.int i) => .int i
  | .sc (.str s) => .str s
  | .sc _ => .none
  | .lst _ ds => .list (pys ds)
  | .tup _ ds => .tuple (pys ds)
  | .ins _ _ _ _ => .none
  | .dK _ _ _ => .none
  | .dT _ _ _ => .none
  | .exc _ _ => .none
def pys : List D → List PyData
  | [] => []
  | d :: ds => py d :: pys ds
end
theorem pys_map : ∀ ds : List D, pys ds = ds.map py
  | [] => by rw [pys]; rfl
  | d :: ds => by rw [pys, pys_map ds]; rfl
mutual
theorem py_frz : ∀ d : D, py d.frz = py d
  | .sc x => rfl
  | .lst o ds => by rw [D.frz, py, py, pys_frz ds]
  | .tup o ds => by rw [D.frz, py, py, pys_frz ds]
  | .ins o C fs ds => by rw [D.frz, py, py]
  | .dK o ks ds => by rw [D.frz, py, py]
  | .dT o ks ds => by rw [D.frz, py, py]
  | .exc _ _ => by rw [D.frz]
theorem pys_frz : ∀ ds : List D, pys (D.frzs ds) = pys ds
  | [] => by rw [D.frzs]
  | d :: ds => by rw [D.frzs, pys, pys, py_frz d, pys_frz ds]
end
/-- data that == may be asked of, at most n deep -/
def fit : Nat → D → Prop
  | _, .sc .non => True
  | _, .sc (.bl _) => True
  | _, .sc (.int _) => True
  | _, .sc (.str s) => (PyData.str s).canLay0 = true
  | n + 1, .lst _ ds => ∀ d ∈ ds, fit n d
  | n + 1, .tup _ ds => ∀ d ∈ ds, fit n d
  | _, _ => False
theorem canLayAll_of {ds : List PyData} (h : ∀ d ∈ ds, d.canLay0 = true) : PyData.canLayAll0 ds = true := by
  induction ds with
  | nil => rfl
  | cons d ds ih =>
    rw [PyData.canLayAll0, h d List.mem_cons_self, ih fun x hx => h x (List.mem_cons_of_mem _ hx)]
    rfl
theorem depthAll_of {n : Nat} {ds : List PyData} (h : ∀ d ∈ ds, d.depth ≤ n) : PyData.depthAll ds ≤ n := by
  induction ds with
  | nil => exact Nat.zero_le _
  | cons d ds ih =>
    rw [PyData.depthAll]
    exact Nat.max_le.mpr ⟨h d List.mem_cons_self, ih fun x hx => h x (List.mem_cons_of_mem _ hx)⟩
theorem fit_sc {n : Nat} {x : V} (h : fit n (.sc x)) : (py (.sc x)).canLay0 = true ∧ (py (.sc x)).depth = 0 ∧ ∀ K H, Dp K H x (py (.sc x)) := by
  cases x with
  | non => exact ⟨rfl, rfl, fun _ _ => .non⟩
  | bl b => exact ⟨rfl, rfl, fun _ _ => .bl b⟩
  | int i => exact ⟨rfl, rfl, fun _ _ => .int i⟩
  | str s =>
    refine ⟨?_, rfl, fun _ _ => .str s⟩
    cases n <;> exact h
  | _ => cases n <;> exact h.elim
theorem fit_lay : ∀ {n : Nat} {d : D}, fit n d → (py d).canLay0 = true ∧ (py d).depth ≤ n
  | 0, .sc x, h => ⟨(fit_sc h).1, Nat.le_of_eq (fit_sc h).2.1⟩
  | n + 1, .sc x, h => ⟨(fit_sc h).1, by rw [(fit_sc h).2.1]; exact Nat.zero_le _⟩
  | n + 1, .lst o ds, h => by
    have hh : ∀ d ∈ ds, fit n d := h
    rw [py, pys_map]
    refine ⟨?_, ?_⟩
    · rw [PyData.canLay0]
      exact canLayAll_of fun d hd => by
        obtain ⟨x, hx, rfl⟩ := List.mem_map.mp hd
        exact (fit_lay (hh x hx)).1
    · rw [PyData.depth]
      exact Nat.succ_le_succ (depthAll_of fun d hd => by
        obtain ⟨x, hx, rfl⟩ := List.mem_map.mp hd
        exact (fit_lay (hh x hx)).2)
  | n + 1, .tup o ds, h => by
    have hh : ∀ d ∈ ds, fit n d := h
    rw [py, pys_map]
    refine ⟨?_, ?_⟩
    · rw [PyData.canLay0]
      exact canLayAll_of fun d hd => by
        obtain ⟨x, hx, rfl⟩ := List.mem_map.mp hd
        exact (fit_lay (hh x hx)).1
    · rw [PyData.depth]
      exact Nat.succ_le_succ (depthAll_of fun d hd => by
        obtain ⟨x, hx, rfl⟩ := List.mem_map.mp hd
        exact (fit_lay (hh x hx)).2)
  | 0, .lst _ _, h => h.elim
  | 0, .tup _ _, h => h.elim
  | 0, .ins _ _ _ _, h => h.elim
  | _ + 1, .ins _ _ _ _, h => h.elim
  | 0, .dK _ _ _, h => h.elim
  | _ + 1, .dK _ _ _, h => h.elim
  | 0, .dT _ _ _, h => h.elim
  | _ + 1, .dT _ _ _, h => h.elim
  | 0, .exc _ _, h => h.elim
  | _ + 1, .exc _ _, h => h.elim
theorem fit_shaped {n : Nat} {d : D} (h : fit n d) (hn : n ≤ 64) : SeqAt.shaped (py d) = true := by
  unfold SeqAt.shaped
  rw [(fit_lay h).1, decide_eq_true (Nat.le_trans (fit_lay h).2 hn)]
  rfl
section
variable {K : PySem.W.Frag} {A : Own} {H : Hp}
theorem dpAll_of {n : Nat} (ih : ∀ {d : D} {v : V} {B : List Addr}, fit n d → Rp K A H v d B → Dp K H v (py d)) : ∀ {ds : List D} {vs : List V} {B : List Addr}, (∀ d ∈ ds, fit n d) → RpAll K A H vs ds B → DpAll K H vs (pys ds)
  | _, _, _, _, .nil => by rw [pys]; exact .nil
  | _, _, _, h, .cons r t _ => by rw [pys]; exact .cons (ih (h _ List.mem_cons_self) r) (dpAll_of ih (fun x hx => h x (List.mem_cons_of_mem _ hx)) t)
theorem Rp.dp : ∀ {n : Nat} {d : D} {v : V} {B : List Addr}, fit n d → Rp K A H v d B → Dp K H v (py d)
  | 0, .sc x, _, _, h, .sc _ => (fit_sc h).2.2 K H
  | n + 1, .sc x, _, _, h, .sc _ => (fit_sc h).2.2 K H
  | n + 1, .lst o ds, _, _, h, r => by
    obtain ⟨a, xs, C, rfl, h1, r1, _⟩ := r.lst
    rw [py]
    exact .lst h1 (dpAll_of (fun h r => Rp.dp h r) h r1)
  | n + 1, .tup o ds, _, _, h, r => by
    obtain ⟨a, xs, C, rfl, h1, r1, _⟩ := r.tup
    rw [py]
    exact .tup h1 (dpAll_of (fun h r => Rp.dp h r) h r1)
  | 0, .lst _ _, _, _, h, _ => h.elim
  | 0, .tup _ _, _, _, h, _ => h.elim
  | 0, .ins _ _ _ _, _, _, h, _ => h.elim
  | _ + 1, .ins _ _ _ _, _, _, h, _ => h.elim
  | 0, .dK _ _ _, _, _, h, _ => h.elim
  | _ + 1, .dK _ _ _, _, _, h, _ => h.elim
  | 0, .dT _ _ _, _, _, h, _ => h.elim
  | _ + 1, .dT _ _ _, _, _, h, _ => h.elim
  | 0, .exc _ _, _, _, h, _ => h.elim
  | _ + 1, .exc _ _, _, _, h, _ => h.elim
variable {d e z : D} {ds : List D} {ρ : Env} {a : Str} {to te : TE} {ta : TA}
def eqD (d e : D) : Bool := PyData.eqv (py d) (py e)
theorem eqD_rfl {n : Nat} (h : fit n d) (e1 : py d = py e) : eqD d e = true := by
  unfold eqD
  rw [← e1]
  exact SeqAt.eqv_refl _ (fit_lay h).1
theorem eq_data {n m : Nat} (h1 : fit n d) (h2 : fit m e) (hn : n ≤ 64) (hm : m ≤ 64) : Op2 K (rEqq K) d e (.bl (eqD d e)) := op2_bl fun A H x y B C p1 p2 Q q =>
  .inr ⟨_, _, p1.dp h1, p2.dp h2, fit_shaped h1 hn, fit_shaped h2 hm, q⟩
theorem ne_data {n m : Nat} (h1 : fit n d) (h2 : fit m e) (hn : n ≤ 64) (hm : m ≤ 64) : Op2 K (rNee K) d e (.bl (!eqD d e)) := op2_bl fun A H x y B C p1 p2 Q q =>
  .inr ⟨_, _, p1.dp h1, p2.dp h2, fit_shaped h1 hn, fit_shaped h2 hm, q⟩
/-! in -/
theorem RpAll.scs {A : Own} {H : Hp} : ∀ {ns : List V} {xs : List V} {B : List Addr}, RpAll K A H xs (ns.map D.sc) B → xs = ns
  | [], _, _, .nil => rfl
  | n :: ns, _, _, .cons r t _ => by
    cases r
    rw [RpAll.scs t]
theorem in_lst {o : Bool} {x : V} {xs : List V} (hx : flatV x = true) (ha : xs.all flatV = true) : Op2 K (rInn K) (.sc x) (.lst o (xs.map D.sc)) (.bl (inV x xs)) := op2_bl fun A H y z B C p1 p2 Q q => by
  cases p1
  obtain ⟨a, ys, _, rfl, h1, r1, _⟩ := p2.lst
  obtain rfl := r1.scs
  exact .inl ⟨a, _, rfl, .inl h1, hx, ha, q⟩
theorem in_tp {o : Bool} {x : V} {xs : List V} (hx : flatV x = true) (ha : xs.all flatV = true) : Op2 K (rInn K) (.sc x) (.tup o (xs.map D.sc)) (.bl (inV x xs)) := op2_bl fun A H y z B C p1 p2 Q q => by
  cases p1
  obtain ⟨a, ys, _, rfl, h1, r1, _⟩ := p2.tup
  obtain rfl := r1.scs
  exact .inl ⟨a, _, rfl, .inr h1, hx, ha, q⟩
theorem ni_lst {o : Bool} {x : V} {xs : List V} (hx : flatV x = true) (ha : xs.all flatV = true) : Op2 K (rNii K) (.sc x) (.lst o (xs.map D.sc)) (.bl (!inV x xs)) := op2_bl fun A H y z B C p1 p2 Q q => by
  cases p1
  obtain ⟨a, ys, _, rfl, h1, r1, _⟩ := p2.lst
  obtain rfl := r1.scs
  exact .inl ⟨a, _, rfl, .inl h1, hx, ha, q⟩
theorem ni_tp {o : Bool} {x : V} {xs : List V} (hx : flatV x = true) (ha : xs.all flatV = true) : Op2 K (rNii K) (.sc x) (.tup o (xs.map D.sc)) (.bl (!inV x xs)) := op2_bl fun A H y z B C p1 p2 Q q => by
  cases p1
  obtain ⟨a, ys, _, rfl, h1, r1, _⟩ := p2.tup
  obtain rfl := r1.scs
  exact .inl ⟨a, _, rfl, .inr h1, hx, ha, q⟩
theorem inV_strs {ys : List Str} : inV (.str a) (ys.map V.str) = decide (a ∈ ys) := by
  unfold inV
  rw [List.any_map]
  induction ys with
  | nil => rfl
  | cons y ys ih =>
    rw [List.any_cons, ih]
    show ((y == a) || _) = _
    by_cases hy : y = a
    · subst hy
      simp
    · have : (y == a) = false := by simp [hy]
      rw [this, Bool.false_or]
      simp [Ne.symm hy]
theorem flat_strs (ys : List Str) : (ys.map V.str).all flatV = true := by
  rw [List.all_map]
  exact List.all_eq_true.mpr fun _ _ => rfl
theorem flat_ints (ys : List Int) : (ys.map V.int).all flatV = true := by
  rw [List.all_map]
  exact List.all_eq_true.mpr fun _ _ => rfl
/-- in a list of texts -/
theorem in_strs {o : Bool} {ys : List Str} : Op2 K (rInn K) (.str a) (.lst o (ys.map D.str)) (.bl (decide (a ∈ ys))) := by
  have h := in_lst (K := K) (o := o) (x := .str a) (xs := ys.map V.str) rfl (flat_strs ys)
  rw [List.map_map, inV_strs] at h
  exact h
/-- a method of a text -/
theorem ev_bmS {r : V → List V → Hp → VK → Prop} (h1 : EvS K to ρ (.str a)) (h2 : EvA K ta ρ ds) (hr : OpC K (fun xs H Q => r (.str a) xs H Q) ds z) : EvS K (tBM K "str" r to ta) ρ z := fun A H σ B w rr Q q =>
  h1 A H σ B w rr _ fun v1 H1 C1 e1 f1 p1 => by
    cases p1
    obtain ⟨w1, r1⟩ := et_step w rr e1
    refine ⟨rfl, h2 A H1 σ B w1 r1 _ fun vs H2 C2 e2 f2 p2 => ?_⟩
    have w2 : WA (A.and C2) H2 := w1.and e2 fun a h => (p2.tracked _ a h).1
    refine hr (A.and C2) H2 vs C2 w2 p2 Q fun v H4 E e4 f4 p4 => ?_
    exact q v H4 E ((e1.tr e2).tr e4) (fun a h => (f4 a h).elim (fun z => e1.back (e2.back z)) fun z => e1.back (f2 a z)) (p4.keep _ (keep_less (fun a h => h.imp .inl id) fun a h => .inr h))
theorem sindex {b : Str} {i : Nat} {rest : List Nat} (h : Builtin.Str.occurrences a b 0 a.length 1 = i :: rest) :
    OpC K (fun xs H Q => ∃ a' b i rest, V.str a = .str a' ∧ xs = [.str b] ∧ Builtin.Str.occurrences a' b 0 a'.length 1 = i :: rest ∧ Q (.int (i : Nat)) H) [.str b] (.int (i : Nat)) := opc_sc fun A H xs B p Q q => by
  obtain ⟨x, rfl, p1⟩ := p.one
  cases p1
  exact ⟨a, b, i, rest, rfl, rfl, h, q⟩
theorem ev_dnew : EvS K tDNewK ρ (.dK true [] []) := fun A H σ B w rr Q q p hp => by
  refine q (.ref p) _ [p] (Ex.new hp) (fun a h => by rw [List.mem_singleton.mp h]; exact hp) ?_
  exact .dKO (ks := []) (xs := []) upd_same (.inr (List.mem_singleton.mpr rfl)) (fun h => nomatch h) rfl .nil
end
end FP

namespace FP
open PySem PySem.Spec PyProof.Rows L2

/-! ### the rules by a written part that is named (within a comprehension's block too) -/
section
variable {X : Cx} {K : PySem.W.Frag}
theorem op_plusK (e : X.K = K) : OpR X (binaryOp .Add) (rPlus K) := e ▸ op_plus
theorem op_eqqK (e : X.K = K) (hu : X.A.units + 64 < cLine) : OpR X (compareOp .Eq) (rEqq K) := e ▸ op_eqq hu
theorem op_neeK (e : X.K = K) (hu : X.A.units + 64 < cLine) : OpR X (compareOp .NotEq) (rNee K) := e ▸ op_nee hu
theorem op_lttK (e : X.K = K) (hu : X.A.units < cLine) : OpR X (compareOp .Lt) (rLtt K) := e ▸ op_ltt hu
theorem op_innK (e : X.K = K) : OpR X (compareOp .In) (rInn K) := e ▸ op_inn
theorem op_niiK (e : X.K = K) : OpR X (compareOp .NotIn) (rNii K) := e ▸ op_nii
theorem call_lennK (e : X.K = K) : CallR X (.builtin "len") (rLen K) := e ▸ call_lenn
theorem call_listOfK (e : X.K = K) : CallR X (.type "list") (rListOf K) := e ▸ call_listOf
theorem call_tupOfK (e : X.K = K) : CallR X (.type "tuple") (rTupOf K) := e ▸ call_tupOf
theorem call_isisK (e : X.K = K) : CallR X (.builtin "isinstance") (rIsis K) := e ▸ call_isis
theorem call_maxxK (e : X.K = K) (hc : X.calm = true) : CallR X (.builtin "max") (rMaxx K) := e ▸ call_maxx hc
theorem call_minnK (e : X.K = K) (hc : X.calm = true) : CallR X (.builtin "min") (rMinn K) := e ▸ call_minn hc
theorem cr_sumK (e : X.K = K) (hc : X.calm = true) : CallR X (.builtin "sum") (rSum K) := e ▸ cr_sum hc
theorem cr_allK (e : X.K = K) (hc : X.calm = true) : CallR X (.builtin "all") (rAll K) := e ▸ cr_all hc
theorem cr_anyK (e : X.K = K) (hc : X.calm = true) : CallR X (.builtin "any") (rAny K) := e ▸ cr_any hc
theorem ix_seqK (e : X.K = K) : IxR X (rIx K) := e ▸ ix_seq
theorem sl_anyK (e : X.K = K) : SlR X (rSl K) := e ▸ sl_any
theorem pi_listK {tg l : Expr} {tl : TE} (e : X.K = K) (hl : PE X l tl) : PI X tg l (iList K tl) := e ▸ pi_list hl
theorem pi_tupK {tg l : Expr} {tl : TE} (e : X.K = K) (hl : PE X l tl) : PI X tg l (iTup K tl) := e ▸ pi_tup hl
def tTruK (K : PySem.W.Frag) (ta : TE) : TT := fun σ H Q => ta σ H fun x H' => ∃ k, TruV K x H' k ∧ Q k H'
theorem pt_truthK {a : Expr} {ta : TE} (e : X.K = K) (h : PE X a ta) (hw : ∀ (whole : Sem Value), PySem.isTrue a X.env whole = do
          let v ← whole
          standAt a.pos
          holding [v] (truthy v)) : PT X a (tTruK K ta) := by
  have := pt_truth h hw
  rw [e] at this
  exact this
theorem pe_notTK {a : Expr} {ta : TE} {pos : Pos} (e : X.K = K) (h : PE X a ta) : PE X (Expr.UnaryOp UnaryOp.Not a pos) (tNotT K ta) := e ▸ pe_notT h
theorem pe_andTK {a b : Expr} {ta tb : TE} {rest : List Expr} {pos : Pos} (e : X.K = K) (h : PE X a ta) (h2 : PE X (Expr.BoolOp BoolOp.And (b :: rest) pos) tb) : PE X (Expr.BoolOp BoolOp.And (a :: b :: rest) pos) (tAndT K ta tb) := e ▸ pe_andT h h2
theorem pe_orTK {a b : Expr} {ta tb : TE} {rest : List Expr} {pos : Pos} (e : X.K = K) (h : PE X a ta) (h2 : PE X (Expr.BoolOp BoolOp.Or (b :: rest) pos) tb) : PE X (Expr.BoolOp BoolOp.Or (a :: b :: rest) pos) (tOrT K ta tb) := e ▸ pe_orT h h2
theorem pe_bmK {o e : Expr} {es : List Expr} {to : TE} {t : TA} {name : Str} {apos cpos : Pos} {T id : String} {r : V → List V → Hp → VK → Prop} (eK : X.K = K) (h1 : PlainAttrs T) (h2 : Slot T name id) (h3 : typeOf (Value.builtin id) = pure (Value.type "method_descriptor"))
    (h4 : MtR X id r) (h5 : PE X o to) (h6 : PA X (e :: es) t) (a1 : attributeBase o name X.env (eval o X.env) = eval o X.env := by rfl)
    (a2 : (((backTo cpos (starEach (e :: es) X.env)).all fun x => !x.fst) && (backToKw cpos (keywordEach [] X.env)).all (fun x => x.fst.isSome) && decide (((e :: es).length + ([] : List Keyword).length + if ([] : List Keyword).isEmpty = true then 0 else 1) < 30)) = true := by rfl)
    (a3 : (apos.endLine == cpos.line) = true := by rfl) (a4 : starEach (e :: es) X.env = (false, eval e X.env) :: starEach es X.env := by rfl) (a5 : ((backTo cpos (starEach es X.env)).any fun x => x.fst) = false := by rfl) :
    PE X ((o.Attribute name apos).Call (e :: es) [] cpos) (tBM K T r to t) := eK ▸ pe_bm h1 h2 h3 h4 h5 h6 a1 a2 a3 a4 a5
theorem pg_tupK {pos : Pos} {es : List Expr} {k : Nat} {t : TGs} {n : Nat} (e : X.K = K) (hc : X.calm = true) (h : PGs X es t) (h1 : (assignEach es X.env).length = n := by rfl) (h2 : List.findIdx? (fun x => x.fst) (assignEach es X.env) = none := by rfl) :
    PG X (Expr.Tuple es k pos) (gTup K n t) := e ▸ pg_tup hc h h1 h2
end
section
variable {K : PySem.W.Frag} {ρ : Env} {ta : TE} {d : D}
theorem et_truK (h : EvS K ta ρ d) (ho : truOk d) : EvT K (tTruK K ta) ρ (tru d) := et_tru h ho
theorem et_bl {b : Bool} (h : EvS K ta ρ (.bl b)) : EvT K (tTruK K ta) ρ b := et_tru (d := .bl b) h True.intro
end
end FP

namespace FP
open PySem PySem.Spec PyProof.Rows L2

/-! ### exceptions that a name keeps -/
theorem ex_ok {P : Program} {w : World} {H : Hp} {h : Heap} {a C : Addr} {d : Option Addr} {oe : Obj} {vs : Array Value} (e : h.get? a = some oe) (z : Zc (.ref C) d oe) (dd : oe.data = .fields vs) : ObjOk P w H h a (EX a C d) :=
  ⟨⟨oe, vs, e, z, dd⟩, ⟨oe, e⟩, fun _ _ ⟨o, v, q, r⟩ k => ⟨o, v, k o q, r⟩⟩
theorem ex_at {P : Program} {w : World} {H : Hp} {h : Heap} {a C : Addr} {d : Option Addr} (hok : HOk P w H h) (he : H a = some (EX a C d)) : ∃ oe vs, h.get? a = some oe ∧ Zc (.ref C) d oe ∧ oe.data = .fields vs := by
  have x : ObjOk P w H h a (.ext fun h => ∃ oe vs, h.get? a = some oe ∧ Zc (.ref C) d oe ∧ oe.data = .fields vs) := hok a _ he
  exact x.1
section
variable {X : Cx} {pins : List (Addr × Obj)} {σ : L2.St} {H : Hp} {s : Shared}
/-- a thing that nobody tracked is tracked -/
theorem track {a : Addr} {o : HO} (I : Inv X pins σ H s) (hn : H a = none) (n0 : X.s_0.heap.get? a = none) (nL : X.env.locals ≠ a) (nC : ∀ x c, X.env.cells.lookup x = some c → c ≠ a) (np : ∀ p ∈ X.pn ++ pins, p.1 ≠ a)
    (new : ObjOk X.prog X.w (upd H a o) s.heap a o) : Inv X pins σ (upd H a o) s where
  ok := I.ok
  os := I.os
  bare := I.bare
  base := {
    keep := I.base.keep
    slot := I.base.slot
    free := fun b u q n hx => (upd_ne fun z => by rw [z, n0] at q; cases q).trans (I.base.free b u q n hx)
    there := I.base.there
    tups := fun b xs q => (upd_ne (ne_of_none (I.base.tups b xs q) hn)).trans (I.base.tups b xs q)
    frzs := fun b u xs q => (upd_ne (ne_of_none (I.base.frzs b u xs q) hn)).trans (I.base.frzs b u xs q)
    tbls := fun b ps q => by
      obtain ⟨m, z⟩ := I.base.tbls b ps q
      exact ⟨m, (upd_ne (ne_of_none z hn)).trans z⟩ }
  loc := I.loc
  cell := I.cell
  free := (upd_ne nL).trans I.free
  freeC := fun x c e => (upd_ne (nC x c e)).trans (I.freeC x c e)
  pin := fun p hp => by
    obtain ⟨e1, e2, e3⟩ := I.pin p hp
    exact ⟨e1, (upd_ne (np p hp)).trans e2, e3⟩
  hok := I.hok.laidN (fun _ _ q => q) hn new
  len := I.len
theorem keepExc {a C : Addr} {oe : Obj} {vs : Array Value} {d : Option Addr} (I : Inv X ((a, oe) :: pins) σ H s) (hz : Zc (.ref C) d oe) (hd : oe.data = .fields vs) (n0 : X.s_0.heap.get? a = none) (np : ∀ p ∈ X.pn ++ pins, p.1 ≠ a) :
    Inv X pins σ (upd H a (EX a C d)) s := by
  obtain ⟨e1, e2, e3, _, _⟩ := I.pin (a, oe) (List.mem_append_right _ List.mem_cons_self)
  have J : Inv X pins σ H s := { I with pin := fun p hp => I.pin p ((List.mem_append.mp hp).elim (List.mem_append_left _) fun z => List.mem_append_right _ (List.mem_cons_of_mem _ z)) }
  refine track J e2 n0 (fun z => e3 z.symm) (fun x c e z => ?_) np (ex_ok e1 hz hd)
  obtain ⟨v, o, ho, hc⟩ := I.cell x c e
  rw [z, e1] at ho
  cases ho
  rw [hd] at hc
  cases hc
/-- what is wished of an exception that the clause's suite gives a name -/
def wKeep (K : PySem.W.Frag) (c : Value) (i j : Nat) (D : Ends) : WX := fun cls d σ H => PySem.W.exmOne K cls c = some true ∧ ∃ C, cls = .ref C ∧ ∀ a, H a = none → D.nx (((σ.set i (some (.ref a))).set j (some (.ref a))).set i none) (upd H a (EX a C d))
theorem sp_ofTry {xe : Value → Shared → Prop} {D : Ends} {f : Flow} (ok : X.Ok) (h : SP (X.tr (X.pn ++ pins) xe) [] D f s) : SP X pins D f s := by
  cases f with
  | ret u =>
    obtain ⟨v, σ1, H1, J, r⟩ := h
    exact ⟨v, σ1, H1, J.ofTry ok, r⟩
  | _ =>
    obtain ⟨σ1, H1, J, r⟩ := h
    exact ⟨σ1, H1, J.ofTry ok, r⟩
variable {x n : Str} {c : Value} {i j : Nat} {np pos pos' : Pos} {b₀ : Stmt} {suite body : List Stmt} {tb : WX → TS}
theorem keep_catch {xe : Value → Shared → Prop} {D : Ends} {u : Value} (ok : X.Ok) (hs : X.stack = X.env :: X.outer) (hf : X.env.frame = some X.env.locals) (hex : X.ex = []) (hN : X.N.Nodup) (hi : X.N[i]? = some n) (hln : X.env.kindOf n = some .local) (hc : Names X x c)
    (hsu : ∀ (a : Addr) (oe : Obj) (pn : List (Addr × Obj)), PSs (X.suite a ((a, oe) :: pn)) (b₀ :: suite) (tAsg (tVar i) (gName j)))
    (xx : XE (X.tr (X.pn ++ pins) xe) (wKeep X.K c i j D) u s) :
    wpAny (model X.prog X.w) X.A (noteFrame u X.env) (fun _ s₂ => wpAny (model X.prog X.w) X.A (setFlight u none) (fun _ s₃ => wpAny (model X.prog X.w) X.A (handleBy u X.env [.ExceptHandler (some (.Name x np)) (some n) (b₀ :: suite) pos']) (SP X pins D) X.xe s₃) X.xe s₂) X.xe s := by
  obtain ⟨a, B, sI, qs, σ1, H1, cls, d, rfl, J0, nb, up, sky, na, os, ag, hm, C, rfl, q⟩ := xx
  have J : Inv X pins σ1 H1 sI := J0.ofTry ok
  refine Sky.land Zc.steady (env := X.env) (outer := X.outer) (by rw [ok.frames, hs]) hf (hs ▸ sky) fun h3 fl3 up3 => ?_
  have J3 : Inv X pins σ1 H1 { s with heap := h3 } := J.landed nb fl3.1 (up.trans up3) os ag
  obtain ⟨oe3, vs3, he3, hz3, hd3⟩ := fl3.there
  have nfr : a ∉ frs (X.env :: X.outer) := fun hmem => by
    obtain ⟨_, o, e, hnf⟩ := fl3.2.2.1.mem hmem
    rw [he3] at e
    cases e
    exact hnf _ hd3
  have nL : a ≠ X.env.locals := fun z => nfr (List.mem_filterMap.mpr ⟨X.env, List.mem_cons_self, by rw [hf, z]⟩)
  have nF : a ∉ X.fs := fun hmem => nfr (by
    obtain ⟨e, h1, h2⟩ := List.mem_filterMap.mp hmem
    exact List.mem_filterMap.mpr ⟨e, List.mem_cons_of_mem _ h1, h2⟩)
  have nI : ∀ o, sI.heap.get? a ≠ some o := fun o e => by
    have z := nb a o e (by show a ∉ frs X.stack; rw [hs]; exact nfr)
    rw [fl3.2.1] at z
    cases z
  have n0 : X.s_0.heap.get? a = none := by
    cases e : X.s_0.heap.get? a with
    | none => rfl
    | some o =>
      obtain ⟨o', e'⟩ := J.base.there a o e (by rw [hex]; exact fun z => nomatch z)
      exact absurd e' (nI o')
  have hpn : ∀ p ∈ X.pn ++ pins, p.1 ≠ a := fun p hp z => nI _ (z ▸ (J.pin p hp).1)
  have S3 := J3.suite he3 hd3 na nL nF
  refine PX.clause_asZ (B := B) (Z := Zc (.ref C) d) (outer := X.outer) J3.kIn (fun _ z => z.1) fl3 hm (fun {Q E} qq => ?_) fun h4 fl4 up4 => ?_
  · obtain ⟨hg, hdb, hm | ⟨hm, hv, hnn⟩⟩ := hc
    · exact ld_glob (X := X.suite a ((a, oe3) :: (X.pn ++ pins))) S3 hg hm qq hdb
    · exact ld_blt (X := X.suite a ((a, oe3) :: (X.pn ++ pins))) S3 hg hm hv qq hnn hdb
  have J4 : Inv X pins σ1 H1 { s with heap := h4 } := J.landed nb fl4.1 ((up.trans up3).trans up4) os ag
  obtain ⟨_, _, _, oe4, vs4, _, _, _, he4, hz4, hd4, _⟩ := id fl4
  have S4 := J4.suite he4 hd4 na nL nF
  refine store_ok (X := X.suite a ((a, oe4) :: (X.pn ++ pins))) (v := .ref a) S4 hN hi (.inl hln) rfl (fun s5 S5 => ?_) (.inr hln)
  have hlt : i < σ1.length := by
    rw [J.len]
    exact (List.getElem?_eq_some_iff.mp hi).1
  refine wpAny_mono ((hsu a oe4 (X.pn ++ pins)).run [] s5 _ H1 { nx := fun σ6 H6 => σ6 = (σ1.set i (some (.ref a))).set j (some (.ref a)) ∧ H6 = H1, rt := fun _ _ => False, bk := fun _ _ => False, ct := fun _ _ => False } S5 ⟨.ref a, by rw [List.getElem?_set_self hlt], rfl, rfl⟩) (fun f s6 hsp => ?_) fun _ _ z => z.elim
  cases f with
  | next =>
    obtain ⟨σ6, H6, S6, rfl, rfl⟩ := hsp
    have J6 : Inv X ((a, oe4) :: pins) ((σ1.set i (some (.ref a))).set j (some (.ref a))) H6 s6 :=
      ⟨ok, S6.os, S6.bare, S6.base, S6.loc, S6.cell, S6.free, S6.freeC, fun p hp => S6.pin p (by
        rw [List.append_nil]
        rcases List.mem_append.mp hp with z | z
        · exact List.mem_cons_of_mem _ (List.mem_append_left _ z)
        · rcases List.mem_cons.mp z with z | z
          · rw [z]; exact List.mem_cons_self
          · exact List.mem_cons_of_mem _ (List.mem_append_right _ z)), S6.hok, S6.len⟩
    exact gone_ok J6 hN hi hln fun s7 J7 => ⟨_, _, keepExc J7 hz4 hd4 n0 hpn, q a na⟩
  | ret u =>
    obtain ⟨_, _, _, _, _, z⟩ := hsp
    exact z.elim
  | brk =>
    obtain ⟨_, _, _, z⟩ := hsp
    exact z.elim
  | cont =>
    obtain ⟨_, _, _, z⟩ := hsp
    exact z.elim
def tKeep (K : PySem.W.Frag) (c : Value) (i j : Nat) (tb : WX → TS) : TS := fun D σ H => tb (wKeep K c i j D) D σ H
/-- try: body / except x as n: y = n -/
theorem ps_keep (hs : X.stack = X.env :: X.outer) (hf : X.env.frame = some X.env.locals) (hex : X.ex = []) (hN : X.N.Nodup) (hi : X.N[i]? = some n) (hln : X.env.kindOf n = some .local) (hc : Names X x c)
    (hb : ∀ (W : WX) (pn : List (Addr × Obj)) (xe : Value → Shared → Prop), L2.Takes (X.tr pn xe) W → PassesOwn (model X.prog X.w) X.A X.env xe → PSs (X.tr pn xe) body (tb W))
    (hsu : ∀ (a : Addr) (oe : Obj) (pn : List (Addr × Obj)), PSs (X.suite a ((a, oe) :: pn)) (b₀ :: suite) (tAsg (tVar i) (gName j))) :
    PS X (.Try body [.ExceptHandler (some (.Name x np)) (some n) (b₀ :: suite) pos'] [] [] pos) (tKeep X.K c i j tb) := by
  refine ⟨fun pins s σ H D I h => ?_⟩
  have ok := I.ok
  refine wpAny_Try_except (wpAny_mono ((hb (wKeep X.K c i j D) (X.pn ++ pins) (fun u s₁ => wpAny (model X.prog X.w) X.A (noteFrame u X.env) (fun _ s₂ => wpAny (model X.prog X.w) X.A (setFlight u none) (fun _ s₃ => wpAny (model X.prog X.w) X.A (handleBy u X.env [.ExceptHandler (some (.Name x np)) (some n) (b₀ :: suite) pos']) (SP X pins D) X.xe s₃) X.xe s₂) X.xe s₁)
    (fun u s1 xx => keep_catch ok hs hf hex hN hi hln hc hsu xx) PassesOwn.looking).run [] s σ H D (I.toTry _) h) (fun f s1 hsp => ?_) fun _ _ z => z)
  have q := sp_ofTry ok hsp
  cases f with
  | next =>
    obtain ⟨σ1, H1, J1, r⟩ := q
    exact wpAny_execs_nil ⟨σ1, H1, J1, r⟩
  | ret u => exact q
  | brk => exact q
  | cont => exact q
end
end FP

namespace FP
open PySem PySem.Spec PyProof.Rows L2

section
variable {X : Cx} {pins : List (Addr × Obj)} {σ : L2.St} {H : Hp} {s : Shared}
/-! ### an exception that is made and kept as a value -/
def tMkV (t : L2.St → Hp → XK → Prop) : TE := fun σ H Q => t σ H fun cls d H1 => ∃ C, cls = .ref C ∧ ∀ a, H1 a = none → Q (.ref a) (upd H1 a (EX a C d))
theorem pe_mkV {e : Expr} {t : L2.St → Hp → XK → Prop} (h : PMk X e t) : PE X e (tMkV t) := by
  refine ⟨fun pins s σ H Q I hq => ?_⟩
  refine wpAny_mono (h pins s σ H _ I hq) (fun u s1 hu => ?_) fun _ _ z => z
  obtain ⟨a, oe, vs, sI, H1, cls, d, rfl, J, k, hne, ha, hz, hd, h1, na, os, ag, r, C, rfl, q⟩ := hu
  have J1 := J.laidN (h' := s1.heap) (t' := s1.toks) k hne na (ex_ok ha hz hd)
  exact ⟨.ref a, _, { ok := J1.ok, os := os.trans J.os, bare := ag, base := J1.base, loc := J1.loc, cell := J1.cell, free := J1.free, freeC := J1.freeC, pin := J1.pin, hok := J1.hok, len := J1.len }, rfl, q a na⟩
theorem ex_inst {P : Program} {w : World} {a C : Addr} {oe : Obj} {vs : Array Value} {d : Option Addr} {h : Heap} (hok : HOk P w H h) (h1 : h.get? a = some oe) (hz : Zc (.ref C) d oe) (hf : oe.data = .fields vs) (hd : d = none ∨ ∃ dd fs, d = some dd ∧ H dd = some (.xd fs)) :
    ∃ od, PySem.W.InstAt h a oe C od ∧ ((d = none ∧ od = none) ∨ ∃ dd fs mA o, d = some dd ∧ H dd = some (.xd fs) ∧ h.Ns1 dd mA ∧ (∀ f, RelO (fs.lookup f) (mA f)) ∧ od = some o ∧ ∀ f, PySem.W.lookIn f o = some (mA f)) := by
  have hno : PySem.W.notCls oe = true := by
    unfold PySem.W.notCls
    rw [hf] <;> rfl
  rcases hd with rfl | ⟨dd, fs, rfl, ed⟩
  · exact ⟨none, ⟨h1, hz.1, hno, by rw [hz.2]; exact True.intro⟩, .inl ⟨rfl, rfl⟩⟩
  · have x : ObjOk P w H h dd (.xd fs) := hok dd _ ed
    obtain ⟨mA, hns, rel⟩ := x
    obtain ⟨o, ho, hl⟩ := lookIn_ns hns
    exact ⟨some o, ⟨h1, hz.1, hno, by rw [hz.2]; exact ho⟩, .inr ⟨dd, fs, mA, o, rfl, ed, hns, rel, rfl, hl⟩⟩
/-- isinstance of such a value -/
def rIsE (K : PySem.W.Frag) : List V → Hp → VK → Prop := fun xs H Q => ∃ (a C : Addr) (d : Option Addr) (c : V) (u : Value) (b : Bool), xs = [.ref a, c] ∧ ClsV c u ∧ H a = some (EX a C d) ∧ (d = none ∨ ∃ dd fs, d = some dd ∧ H dd = some (.xd fs)) ∧ ExcC K C ∧ PySem.W.kitOne K (.ref C) u = some b ∧ Q (.bl b) H
theorem call_isEx : CallR X (.builtin "isinstance") (rIsE X.K) := by
  intro pins s σ H xs us Q I r h
  obtain ⟨a, C, d, c, u, b, rfl, kc, ha, hd, T, e, q⟩ := h
  obtain ⟨u1, u2, rfl, r1, r2⟩ := vals2 r
  have e2 := kc.eq r2
  subst e2
  cases (show u1 = Value.ref a from r1)
  obtain ⟨oe, vs, h1, hz, hf⟩ := ex_at I.hok ha
  obtain ⟨od, J, _⟩ := ex_inst I.hok h1 hz hf hd
  have hcl : (PySem.W.clsIn X.K C).isSome = true := by
    obtain ⟨cd, hc, _⟩ := PySem.W.any_some T.hd
    rw [hc]
    rfl
  exact PySem.W.kia_one (PySem.W.kitx_exc hcl T.hg T.hk T.hs T.ha T.hn T.ht T.hm) I.kIn J e (fun z => nomatch z) fun tk => ⟨.bl b, H, I.tok tk, rfl, q⟩
def rIsy (K : PySem.W.Frag) : List V → Hp → VK → Prop := fun xs H Q => rIsis K xs H Q ∨ rIsE K xs H Q
theorem call_isyK {K : PySem.W.Frag} (e : X.K = K) : CallR X (.builtin "isinstance") (rIsy K) := e ▸ CallR.or call_isis call_isEx
/-! ### fields -/
def tFldA (K : PySem.W.Frag) (ta : TE) (f : Str) : TE := fun σ H Q => ta σ H fun x H1 =>
  (∃ a C dx fs v, x = .ref a ∧ H1 a = some (.ins C dx fs) ∧ Cls K C ∧ NoAttr K C f ∧ fs.lookup f = some v ∧ Q v H1) ∨
  ∃ a C dd fs v, x = .ref a ∧ H1 a = some (EX a C (some dd)) ∧ H1 dd = some (.xd fs) ∧ XfC K C ∧ PySem.W.findIn K (.ref C) f = some none ∧ fs.lookup f = some v ∧ Q v H1
theorem pe_fldA {K : PySem.W.Frag} {e : Expr} {ta : TE} {f : Str} {pos : Pos} (eK : X.K = K) (he : PE X e ta) (hb : attributeBase e f X.env (eval e X.env) = eval e X.env := by rfl) : PE X (.Attribute e f pos) (tFldA K ta f) := by
  subst eK
  refine ⟨fun pins s σ H Q I h => ?_⟩
  refine attr_of hb (thn (he.run pins s σ H _ I h) fun u s1 hh => ?_)
  obtain ⟨x, H1, I1, rx, ⟨a, C, dx, fs, v, ex, ea, c, n, l, q⟩ | ⟨a, C, dd, fs, v, ex, ea, ed, T, n, l, q⟩⟩ := hh
  · subst ex
    obtain rfl : u = Value.ref a := rx
    exact getattr_ok I1 ea c n l fun u' s2 I2 ru => ⟨v, H1, I2, ru, q⟩
  · subst ex
    obtain rfl : u = Value.ref a := rx
    obtain ⟨oe, vs, h1, hz, hf⟩ := ex_at I1.hok ea
    obtain ⟨od, J, ⟨z, _⟩ | ⟨dd', fs', mA, o, e1, e2, _, rel, rfl, hl⟩⟩ := ex_inst I1.hok h1 hz hf (.inr ⟨dd, fs, rfl, ed⟩)
    · cases z
    · cases e1
      rw [ed] at e2
      cases e2
      obtain ⟨u', hu, ru⟩ := RelO.some_of (v := v) (o := mA f) (by rw [← l]; exact rel f)
      exact HandSPX.exc_get I1.kIn J T.ga T.gg T.exC (PySem.W.findObj_own T.hdC n rfl (by rw [hl, hu])) (handed_of ru) ⟨v, H1, I1.tok _, ru, q⟩
/-! ### B.__init__(self, ..), B an own class above, its __init__ that of ValueError -/
structure BasC (K : PySem.W.Frag) (B : Addr) : Prop where
  sp : PySem.W.specialIn K (.ref B) "__getattribute__" = some (some (.builtin "type.__getattribute__"))
  rd : PySem.W.readsIn K B (.type "type") = true
  fd : PySem.W.findCls K (.ref B) (.type "type") "__init__" = some (.val (.builtin "ValueError.__init__"))
theorem pe_binit {K : PySem.W.Frag} {x : Str} {B : Addr} {e : Expr} {es : List Expr} {ta : TA} {p1 p2 pos : Pos} {pl : Sem Bool} (eK : X.K = K) (T : BasC K B) (hg : Gl X x) (hm : X.mg x = some (.ref B)) (ha : PA X (e :: es) ta) (hdb : (x == ("__debug__" : Str)) = false := by decide)
    (hc : eval (.Call (.Attribute (.Name x p1) "__init__" p2) (e :: es) [] pos) X.env = (do
      let ov ← eval (.Name x p1) X.env; standAt p2.atName; let (f, first) ← holding [ov] (getMethod ov "__init__" pl); callWith pos f first (backTo pos (starEach (e :: es) X.env)) (backToKw pos (keywordEach [] X.env))) := by rfl)
    (he : starEach (e :: es) X.env = (false, eval e X.env) :: starEach es X.env := by rfl) (hpl : (backTo pos (starEach es X.env)).any (·.1) = false := by rfl) :
    PE X (.Call (.Attribute (.Name x p1) "__init__" p2) (e :: es) [] pos) (tVeI K ta) := by
  subst eK
  refine ⟨fun pins s σ H Q I h => ?_⟩
  refine PySem.W.methodCall_KW (ld_glob I hg hm ?_ hdb) hc
  refine PySem.W.method_cls I.kIn T.sp (PySem.W.cls_value I.kIn T.rd T.fd (by decide +kernel) ?_)
  refine PyProof.Rows.callWith_method1 (thn (ha.run pos pins _ σ H _ (I.tok _) h) fun us s1 ⟨vs, H1, I1, r1, a, C, ws, ev, hl, T1, ea, q⟩ => ?_) he hpl
  subst ev
  cases r1 with
  | @cons _ u0 _ ur ra rw' =>
    obtain rfl : u0 = Value.ref a := ra
    exact oinit_ok T1 I1 ea (by rw [← Paired.length rw', sizeLine_eq]; omega) fun s' J => ⟨.non, H1, J, rfl, q⟩
/-! ### C(..) where exceptions may leave it -/
def tMakeS (C : Addr) (sp : Sp) (E : L2.St → XK) (t : TA) : TE := fun σ H Q => t σ H fun vs H1 => ∀ x dx, H1 x = none → H1 dx = none → dx ≠ x → sp (.ref x :: vs) (upd (upd H1 dx (.own x)) x (.ins C dx [])) (fun v H2 => v = .non ∧ Q (.ref x) H2) (E σ)
theorem pe_makeS {CX : CXT} {k : Nat} {f C : Addr} {fd : FuncData} {ps : List Str} {sp : Sp} {E : L2.St → XK} {x : Str} {p pos : Pos} {e : Expr} {es : List Expr} {t : TA} (M : Mk X.K C f) (F : FnOk X.prog X.w X.K X.mg X.base CX k f fd ps sp) (hr : Room (k + 1) X.A) (hg : Gl X x) (hm : X.mg x = some (.ref C))
    (hb : Binds X.K fd ps []) (hx : ∀ σ, PassesAt CX X σ (E σ)) (ha : PA X (e :: es) t) (hdb : (x == ("__debug__" : Str)) = false := by decide) (he : starEach (e :: es) X.env = (false, eval e X.env) :: starEach es X.env := by rfl) (hpl : (backTo pos (starEach es X.env)).any (·.1) = false := by rfl) :
    PE X (.Call (.Name x p) (e :: es) [] pos) (tMakeS C sp E t) := by
  refine ⟨fun pins s σ H Q I h => ?_⟩
  refine wpAny_Call_Name_kw (ld_glob I hg hm (PySem.W.callWith_K (h₀ := X.base) I.ok.mod.kin M.kp (thn (ha.run pos pins s σ H _ I h) fun us s1 ⟨vs, H1, I1, r, q⟩ => ⟨I1.kIn, ?_⟩) he hpl) hdb)
  have q0 := q (s1.heap.objs.size + 1) s1.heap.objs.size (I1.hok.fresh (Nat.le_succ _)) (I1.hok.fresh (Nat.le_refl _)) (Nat.ne_of_lt (Nat.lt_succ_self _))
  have J := Inv.made (C := C) I1
  have r2 : Vals (V.ref (s1.heap.objs.size + 1) :: vs) (Value.ref (s1.heap.objs.size + 1) :: us) := .cons rfl r
  have hl : ((Value.ref (s1.heap.objs.size + 1) :: us) ++ []).length = ps.length := by
    rw [List.append_nil, ← r2.length]
    exact F.len _ _ _ _ q0
  have hbn := hb { s1 with heap := (s1.heap.push PySem.W.emptyDict).push (PySem.W.instObj C s1.heap.objs.size) } (Value.ref (s1.heap.objs.size + 1) :: us) J.kIn hl
  rw [List.append_nil] at hbn
  refine wpAny_call (make_map (f := f) I1.kIn M.makes M.init (beq_iff_eq.mp M.fn) (codeAny_mono (F.run _ X.stack _ _ _ _ _ _ (E σ) (hr.make C us []) (J.env0.make C us []) hbn r2 q0) fun o s' hq => ?_))
  cases o with
  | error er => exact hx σ pins _ _ er s' J hq
  | ok fl =>
    cases fl with
    | ret u =>
      obtain ⟨v, H2, J2, rv, rfl, q2⟩ := J.after hq
      exact ⟨rv, ⟨.ref (s1.heap.objs.size + 1), H2, J2, rfl, q2⟩⟩
    | next => exact hq.elim
    | brk => exact hq.elim
    | cont => exact hq.elim
end
end FP

namespace FP
open PySem PySem.Spec PyProof.Rows L2

/-! ### instances and exceptions as data -/
def fld (fs : List Str) (ds : List D) (f : Str) : Option D := (fs.zip ds).lookup f
section
variable {K : PySem.W.Frag} {A : Own} {H : Hp} {σ : L2.St} {ρ ρ' ρ2 : Env} {B : List Addr} {W : WX} {t u ts tb : TS} {o : Out} {te ta to : TE} {tt : TT} {d x z : D} {i j : Nat} {g : TG} {ds es : List D} {wi : TI} {vs : List Nat} {v : V} {C C' : Addr} {fs : List Str} {f : Str} {fl : Fl}
theorem Rp.ins (h : Rp K A H v (.ins fl C fs ds) B) : ∃ a dx xs B1, v = .ref a ∧ H a = some (.ins C dx (fs.zip xs)) ∧ fs.length = xs.length ∧ RpAll K A H xs ds B1 ∧ (∀ b ∈ B1, b ∈ B) ∧ (fl.isSh = true → B = []) ∧ (fl.isSh = false → B = a :: B1 ∧ a ∉ B1 ∧ A a) ∧ ∀ b, fl = .at b → a = b := by
  cases h with
  | insS h l r => exact ⟨_, _, _, _, rfl, h.1, l, r, (fun _ h => nomatch h), (fun _ => rfl), (fun e => nomatch e), fun _ e => nomatch e⟩
  | insO h a n l r => exact ⟨_, _, _, _, rfl, h, l, r, (fun _ h => List.mem_cons_of_mem _ h), (fun e => nomatch e), (fun _ => ⟨rfl, n, a⟩), fun _ e => nomatch e⟩
  | insA h a n l r => exact ⟨_, _, _, _, rfl, h, l, r, (fun _ h => List.mem_cons_of_mem _ h), (fun e => nomatch e), (fun _ => ⟨rfl, n, a⟩), fun _ e => by cases e; rfl⟩
theorem RpAll.look : ∀ {fs : List Str} {ds : List D} {xs : List V} {B : List Addr}, RpAll K A H xs ds B → fld fs ds f = some d → ∃ v C, (fs.zip xs).lookup f = some v ∧ Rp K A H v d C ∧ ∀ a ∈ C, a ∈ B
  | [], _, _, _, _, h => by simp [fld] at h
  | _ :: _, [], _, _, _, h => by simp [fld] at h
  | g :: fs, e :: ds, _, _, .cons r t n, h => by
    unfold fld at h
    rw [List.zip_cons_cons, List.lookup_cons] at h
    by_cases hg : f = g
    · have hb : (f == g) = true := beq_iff_eq.mpr hg
      rw [hb] at h
      cases h
      exact ⟨_, _, by rw [List.zip_cons_cons, List.lookup_cons, hb], r, fun a h => List.mem_append_left _ h⟩
    · have hb : (f == g) = false := beq_eq_false_iff_ne.mpr hg
      rw [hb] at h
      obtain ⟨v, C, h1, h2, h3⟩ := RpAll.look t (fs := fs) h
      exact ⟨v, C, by rw [List.zip_cons_cons, List.lookup_cons, hb]; exact h1, h2, fun a m => List.mem_append_right _ (h3 a m)⟩
theorem ev_fld (h : EvS K ta ρ (.ins fl C fs ds)) (hc : Cls K C) (hn : NoAttr K C f) (hf : fld fs ds f = some d) : EvS K (tFldA K ta f) ρ d := fun A H σ B w rr Q q => h A H σ B w rr _ fun v H1 C1 e f1 p => by
  obtain ⟨a, dx, xs, B1, rfl, ha, hl, r, s1, _⟩ := p.ins
  obtain ⟨v, C2, h1, h2, h3⟩ := r.look hf
  refine .inl ⟨a, _, dx, _, v, rfl, ha, hc, hn, h1, q v H1 C2 e (fun b hb => f1 b (s1 b (h3 b hb))) (h2.keep _ (keep_less (fun b z => z.imp id fun z => s1 b (h3 b z)) fun b hb => .inr hb))⟩
/-- a field of a name's own instance, nothing owned -/
theorem ev_fldV (hi : ρ[i]? = some (some (.ins fl C fs ds))) (hc : Cls K C) (hn : NoAttr K C f) (hf : fld fs ds f = some d) (hd : d.shd = true) : EvS K (tFldA K (tVar i) f) ρ d := fun A H σ B w rr Q q => by
  obtain ⟨v, C1, h1, p, _⟩ := rr.get hi
  obtain ⟨a, dx, xs, B1, rfl, ha, hl, r, _⟩ := p.ins
  obtain ⟨y, C2, h3, h4, _⟩ := r.look hf
  obtain rfl := h4.shd _ hd
  refine ⟨.ref a, h1, .inl ⟨a, _, dx, _, y, rfl, ha, hc, hn, h3, q y H [] Ex.rfl' (fun _ h => nomatch h) ?_⟩⟩
  rw [Own.and_nil]
  exact h4
theorem Rp.excI {fs : List (Str × V)} (h : Rp K A H v (.exc C fs) B) : ∃ a d, v = .ref a ∧ H a = some (EX a C d) ∧ ((d = none ∧ fs = []) ∨ ∃ dd, d = some dd ∧ H dd = some (.xd fs)) := by
  cases h with
  | exc0 h => exact ⟨_, _, rfl, h.1, .inl ⟨rfl, rfl⟩⟩
  | exc1 h g => exact ⟨_, _, rfl, h.1, .inr ⟨_, rfl, g.1⟩⟩
theorem ev_efld {fs : List (Str × V)} {y : V} (h : EvS K ta ρ (.exc C fs)) (hc : XfC K C) (hn : PySem.W.findIn K (.ref C) f = some none) (hf : fs.lookup f = some y) : EvS K (tFldA K ta f) ρ (.sc y) := fun A H σ B w rr Q q => h A H σ B w rr _ fun v H1 C1 e f1 p => by
  obtain ⟨a, d, rfl, ha, ⟨_, rfl⟩ | ⟨dd, rfl, hd⟩⟩ := p.excI
  · cases hf
  · exact .inr ⟨a, C, dd, fs, y, rfl, ha, hd, hc, hn, hf, q y H1 [] e (fun _ h => nomatch h) (.sc y)⟩
/-! isinstance -/
theorem isy_old {r : Bool} {c : D} (h : OpC K (rIsis K) [d, c] (.bl r)) : OpC K (rIsy K) [d, c] (.bl r) := fun A H xs B w p Q q => .inl (h A H xs B w p Q q)
theorem isy_ty {b : String} {r : Bool} (hn : tyN d ≠ "") (h : kitB (tyN d) b = some r) : OpC K (rIsy K) [d, .sc (.ty b)] (.bl r) := isy_old (isi_ty hn h)
theorem isy_exc {fs : List (Str × V)} {c : V} {u : Value} {b : Bool} (hc : ExcC K C) (k : ClsV c u) (e : PySem.W.kitOne K (.ref C) u = some b) : OpC K (rIsy K) [.exc C fs, .sc c] (.bl b) := opc_sc fun A H xs B p Q q => by
  obtain ⟨x, y, _, _, rfl, p1, p2, _⟩ := p.two
  cases p2
  obtain ⟨a, d, rfl, ha, hd⟩ := p1.excI
  exact .inr ⟨a, C, d, c, u, b, rfl, k, ha, hd.imp (fun z => z.1) (fun ⟨dd, h1, h2⟩ => ⟨dd, fs, h1, h2⟩), hc, e, q⟩
/-! ### self.f = e -/
def putFD (f : Str) (d : D) : List Str → List D → List Str × List D
  | g :: fs, x :: ds => if g = f then (g :: fs, d :: ds) else ((g :: (putFD f d fs ds).1, x :: (putFD f d fs ds).2))
  | _, _ => ([f], [d])
theorem RpAll.put {y : V} {E : List Addr} (q : Rp K A H y d E) : ∀ {fs : List Str} {ds : List D} {xs : List V} {B : List Addr}, RpAll K A H xs ds B → fs.length = xs.length → (∀ a ∈ B, a ∉ E) →
    ∃ xs' B', putF f y (fs.zip xs) = (putFD f d fs ds).1.zip xs' ∧ (putFD f d fs ds).1.length = xs'.length ∧ RpAll K A H xs' (putFD f d fs ds).2 B' ∧ ∀ a ∈ B', a ∈ B ∨ a ∈ E
  | [], _, _, _, .nil, _, _ => ⟨[y], E ++ [], rfl, rfl, RpAll.cons q .nil (fun _ _ h => nomatch h), fun a h => .inr (by simpa using h)⟩
  | [], _, _, _, .cons _ _ _, l, _ => by simp at l
  | _ :: _, _, _, _, .nil, l, _ => by simp at l
  | g :: fs, e :: ds, v :: vs, _, .cons (B := B1) (C := B2) r t n, l, m => by
    unfold putFD
    rw [List.zip_cons_cons]
    unfold putF
    by_cases hg : g = f
    · rw [if_pos hg, if_pos hg]
      exact ⟨y :: vs, E ++ B2, rfl, by simpa using l, .cons q t fun a h z => m a (List.mem_append_right _ z) h, fun a h => (List.mem_append.mp h).elim .inr fun z => .inl (List.mem_append_right _ z)⟩
    · rw [if_neg hg, if_neg hg]
      obtain ⟨xs', B', h1, h2, h3, h4⟩ := RpAll.put q t (by simpa using l) fun a h => m a (List.mem_append_right _ h)
      refine ⟨v :: xs', B1 ++ B', by rw [h1]; rfl, by simp [h2], .cons r h3 fun a h z => ?_, fun a h => ?_⟩
      · rcases h4 a z with z | z
        · exact n a h z
        · exact m a (List.mem_append_left _ h) z
      · rcases List.mem_append.mp h with h | h
        · exact .inl (List.mem_append_left _ h)
        · exact (h4 a h).imp (fun z => List.mem_append_right _ z) id
/-- what an instance of one's own is, put together again -/
theorem Rp.insMk {a dx : Addr} {xs : List V} {E : List Addr} (hf : fl.isSh = false) (hat : ∀ b, fl = .at b → a = b) (h : H a = some (.ins C dx (fs.zip xs))) (hA : A a) (n : a ∉ E) (l : fs.length = xs.length) (r : RpAll K A H xs ds E) : Rp K A H (.ref a) (.ins fl C fs ds) (a :: E) := by
  cases fl with
  | sh => cases hf
  | ow => exact .insO h hA n l r
  | «at» b =>
    cases hat b rfl
    exact .insA h hA n l r
theorem run_setf (hi : ρ[i]? = some (some (.ins fl C fs ds))) (hs : fl.isSh = false) (he : EvS K te ρ d) (hc : Cls K C) (hn : NoAttr K C f) (hl : fs.length < 1000) :
    Run K W (sFld K (tVar i) te f) ρ (.nx (ρ.set i (some (.ins fl C (putFD f d fs ds).1 (putFD f d fs ds).2)))) := fun A0 H σ B E w r p => by
  refine he.run w r fun y H1 B1 e f1 r2 q2 n2 => ?_
  obtain ⟨v, Bi, h1, p1, h3, k⟩ := r2.mut hi
  obtain ⟨a, dx, xs, B2, rfl, ha, hlen, ra, _, _, ho, hat⟩ := p1.ins
  obtain ⟨rfl, na, hA⟩ := ho hs
  obtain ⟨xs', B', g1, g2, g3, g4⟩ := ra.put (f := f) q2 hlen fun b hb z => n2 b z (h3 b (List.mem_cons_of_mem _ hb))
  have nB' : a ∉ B' := fun z => (g4 a z).elim na fun z => n2 a z (h3 a List.mem_cons_self)
  have kk : ∀ B0, a ∉ B0 → (∀ b ∈ B0, (A0.and (B1 ++ B)) b) → Keep (A0.and (B1 ++ B)) H1 B0 (A0.and (B1 ++ B)) (upd H1 a (.ins C dx (putF f y (fs.zip xs)))) := fun B0 z hB => keep_upd hA z hB
  refine ⟨.ref a, h1, a, C, dx, fs.zip xs, rfl, ha, hc, hn, by rw [List.length_zip]; omega, ?_⟩
  obtain ⟨B3, e3, s3⟩ := k (A0.and (B1 ++ B)) (upd H1 a (.ins C dx (putF f y (fs.zip xs)))) (.ins fl C (putFD f d fs ds).1 (putFD f d fs ds).2) (a :: B')
    (fun B0 h0 => kk B0 (fun z => (h0 a z).2 List.mem_cons_self) fun b hb => .inr (List.mem_append_right _ (h0 b hb).1))
    (Rp.insMk hs hat (by rw [upd_same, g1]) hA nB' g2 (g3.keep _ (kk B' nB' fun b hb => (g3.tracked _ b hb).2)))
    (fun b hb => (List.mem_cons.mp hb).elim (fun z => .inl (z ▸ List.mem_cons_self)) fun z => (g4 b z).imp (List.mem_cons_of_mem _) (n2 b))
  have s3' : ∀ b ∈ B3, b ∈ B1 ∨ b ∈ B := fun b hb => by
    rcases s3 b hb with z | z
    · rcases List.mem_cons.mp z with z | z
      · rw [z]; exact .inr (h3 a List.mem_cons_self)
      · exact (g4 b z).elim (fun z => .inr (h3 b (List.mem_cons_of_mem _ z))) .inl
    · exact .inr z
  refine p _ σ B3 ⟨fun b u hb nb => ?_, fun b hb => ?_, fun b hb => ?_⟩ (e3.keep (keep_less (fun b z => z.imp id fun z => List.mem_append.mpr (s3' b z)) fun b hb => .inr hb))
  · rw [upd_ne fun z => nb (by rw [z]; exact h3 a List.mem_cons_self)]
    exact e _ _ hb
  · by_cases hz : b = a
    · rw [hz, upd_same]; simp
    · rw [upd_ne hz]; exact e.ne hb
  · exact (s3' b hb).elim (fun z => .inr (f1 b z)) .inl
/-! ### a class is made -/
inductive Mkd where
  | ok (fs : List Str) (ds : List D)
  | er (C : Addr) (fs : List (Str × V))
def spI (K : PySem.W.Frag) (C : Addr) (R : List D → Mkd → Prop) : Sp := fun vs H Q E => ∃ (A : Own) (x dx : Addr) (ws : List V) (ds : List D) (r : Mkd), vs = .ref x :: ws ∧ WA A H ∧ ¬ A x ∧ H x = some (.ins C dx []) ∧ RpAll K (A.and [x]) H ws ds [] ∧ R ds r ∧
  match r with
  | .ok fs ds' => ∀ H' B, Step [x] H B H' → Rp K (A.and B) H' (.ref x) (.ins (.at x) C fs ds') B → Q .non H'
  | .er C' fs => ∀ d H' B, Step [x] H B H' → XdOk (A.and B) H' d fs → E (.ref C') d H'
/-- an expression that raises -/
def EvX (K : PySem.W.Frag) (W : WX) (te : TE) (ρ : Env) (C : Addr) (fs : List (Str × V)) : Prop := ∀ (A : Own) (H : Hp) (σ : L2.St) (B : List Addr), WA A H → EnvR K A H σ ρ B → (∀ d H', Ex H H' → XdOk A H' d fs → W (.ref C) d σ H') → ∀ Q : VK, te σ H Q
theorem make_step {x dx : Addr} (nx : H x = none) (nd : H dx = none) (ne : dx ≠ x) : Ex H (upd (upd H dx (.own x)) x (.ins C dx [])) := (Ex.new nd).tr (Ex.new (by rw [upd_ne (Ne.symm ne)]; exact nx))
theorem make_ex {x : Addr} {H0 H' : Hp} {B : List Addr} (nx : H x = none) (e : Ex H H0) (s : Step [x] H0 B H') : Ex H H' ∧ Fresh H B :=
  ⟨fun a o h => s.keep a o (e a o h) (fun z => by rw [List.mem_singleton.mp z, nx] at h; cases h), fun a h => (s.fresh a h).elim (fun z => by rw [List.mem_singleton.mp z]; exact nx) e.back⟩
theorem XdOk.less {A' : Own} {d : Option Addr} {fs : List (Str × V)} (h : XdOk A H d fs) (k : ∀ a, A' a → A a) : XdOk A' H d fs := h.imp id fun ⟨dd, e, s⟩ => ⟨dd, e, s.1, fun z => s.2 (k _ z)⟩
theorem ev_make {t : TA} {R : List D → Mkd → Prop} {E : L2.St → XK} {ds' : List D} (ha : EvA K t ρ ds) (hR : R (D.frzs ds) (.ok fs ds')) : EvS K (tMakeS C (spI K C R) E t) ρ (.ins .ow C fs ds') := fun A H σ B w rr Q q =>
  ha A H σ B w rr _ fun ws H1 C1 e f p x dx nx nd ne => by
    have e2 := make_step (C := C) nx nd ne
    have nA : ¬ A x := fun z => (et_step w rr e).1 x z nx
    refine ⟨A, x, dx, ws, D.frzs ds, .ok fs ds', rfl, fun a h => e2.ne (e.ne (w a h)), nA, upd_same, ?_, hR, fun H2 B2 s r => ?_⟩
    · refine p.loose _ ⟨fun a o h n => ⟨e2 a o h, fun z => z.elim (fun z => n (.inl z)) fun z => ?_⟩, fun a o m h => ⟨e2 a o h, fun z => z.elim (fun z => w a z (f a m)) fun z => ?_⟩⟩
      · rw [List.mem_singleton.mp z, nx] at h; cases h
      · rw [List.mem_singleton.mp z, nx] at h; cases h
    · obtain ⟨e3, f3⟩ := make_ex nx e2 s
      obtain ⟨a, dx', xs, B3, e4, h1, h2, h3, _, _, h4, _⟩ := r.ins
      cases e4
      obtain ⟨rfl, n5, h5⟩ := h4 rfl
      exact ⟨rfl, q _ H2 _ (e.tr e3) (f3.back e) (.insO h1 h5 n5 h2 h3)⟩
theorem evx_make {t : TA} {R : List D → Mkd → Prop} {fs : List (Str × V)} (ha : EvA K t ρ ds) (hR : R (D.frzs ds) (.er C' fs)) : EvX K W (tMakeS C (spI K C R) (WE W) t) ρ C' fs := fun A H σ B w rr hW Q =>
  ha A H σ B w rr _ fun ws H1 C1 e f p x dx nx nd ne => by
    have e2 := make_step (C := C) nx nd ne
    have nA : ¬ A x := fun z => (et_step w rr e).1 x z nx
    refine ⟨A, x, dx, ws, D.frzs ds, .er C' fs, rfl, fun a h => e2.ne (e.ne (w a h)), nA, upd_same, ?_, hR, fun d H2 B2 s r => hW d H2 (e.tr (make_ex nx e2 s).1) (r.less fun a => .inl)⟩
    refine p.loose _ ⟨fun a o h n => ⟨e2 a o h, fun z => z.elim (fun z => n (.inl z)) fun z => ?_⟩, fun a o m h => ⟨e2 a o h, fun z => z.elim (fun z => w a z (f a m)) fun z => ?_⟩⟩
    · rw [List.mem_singleton.mp z, nx] at h; cases h
    · rw [List.mem_singleton.mp z, nx] at h; cases h
theorem evx_run {fs : List (Str × V)} {A0 : Own} {E : Ends} {Q : VK} (h : EvX K W te ρ C fs) (w : W0 A0 B H) (r : EnvR K (A0.and B) H σ ρ B) (p : Post K W A0 H B E (.er C fs ρ)) : te σ H Q :=
  h (A0.and B) H σ B (w.wa r) r (fun d H1 e x => p d H1 σ B (.ex e fun _ z => .inl z) (et_step (w.wa r) r e).2 x) Q
theorem run_drop_er {fs : List (Str × V)} (h : EvX K W te ρ C fs) : Run K W (tDrop te) ρ (.er C fs ρ) := fun A0 H σ B E w r p => evx_run h w r p
theorem run_asg_er {fs : List (Str × V)} (h : EvX K W te ρ C fs) : Run K W (tAsg te g) ρ (.er C fs ρ) := fun A0 H σ B E w r p => evx_run h w r p
theorem run_ret_er {fs : List (Str × V)} (h : EvX K W te ρ C fs) : Run K W (tRet te) ρ (.er C fs ρ) := fun A0 H σ B E w r p => evx_run h w r p
/-! ### raise -/
/-- what is made to be raised: t makes an exception of the class at C with the fields fs -/
def EvM (K : PySem.W.Frag) (t : L2.St → Hp → XK → Prop) (ρ : Env) (C : Addr) (fs : List (Str × V)) : Prop := ∀ (A : Own) (H : Hp) (σ : L2.St) (B : List Addr), WA A H → EnvR K A H σ ρ B → ∀ Q : XK, (∀ d H', Ex H H' → XdOk A H' d fs → Q (.ref C) d H') → t σ H Q
theorem run_raise {fs : List (Str × V)} {tm : L2.St → Hp → XK → Prop} (h : EvM K tm ρ C fs) : Run K W (fun _ σ H => tm σ H fun cls d H1 => W cls d σ H1) ρ (.er C fs ρ) := fun A0 H σ B E w r p =>
  h (A0.and B) H σ B (w.wa r) r _ fun d H1 e x => p d H1 σ B (.ex e fun _ z => .inl z) (et_step (w.wa r) r e).2 x
theorem ev_mkV {fs : List (Str × V)} {tm : L2.St → Hp → XK → Prop} (h : EvM K tm ρ C fs) : EvS K (tMkV tm) ρ (.exc C fs) := fun A H σ B w r Q q => h A H σ B w r _ fun d H1 e x => ⟨C, rfl, fun a na => by
  have w1 := (et_step w r e).1
  refine q (.ref a) _ [] (e.tr (Ex.new na)) (fun _ h => nomatch h) ?_
  rw [Own.and_nil]
  have nA : ¬ A a := fun z => w1 a z na
  rcases x with ⟨rfl, rfl⟩ | ⟨dd, rfl, s⟩
  · exact .exc0 ⟨upd_same, nA⟩
  · exact .exc1 ⟨upd_same, nA⟩ ⟨Ex.new na dd _ s.1, s.2⟩⟩
/-! ### try -/
theorem EnvR.put (r : EnvR K A H σ ρ B) : ∀ i x, ∃ B', EnvR K A H (σ.set i x) (ρ.set i none) B' ∧ ∀ a ∈ B', a ∈ B := by
  induction r with
  | nil => exact fun i x => ⟨[], .nil, fun _ h => h⟩
  | any r ih =>
    intro i x
    cases i with
    | zero => exact ⟨_, .any r, fun _ h => h⟩
    | succ i =>
      obtain ⟨B', e, s⟩ := ih i x
      exact ⟨B', .any e, s⟩
  | val r1 r2 n ih =>
    intro i x
    cases i with
    | zero => exact ⟨_, .any r2, fun _ h => List.mem_append_right _ h⟩
    | succ i =>
      obtain ⟨B', e, s⟩ := ih i x
      exact ⟨_, .val r1 e fun a h z => n a h (s a z), fun a h => (List.mem_append.mp h).elim (List.mem_append_left _) fun z => List.mem_append_right _ (s a z)⟩
theorem run_keep_ok {c : Value} {tb : WX → TS} (h : ∀ W, Run K W (tb W) ρ (.nx ρ')) : Run K W (tKeep K c i j tb) ρ (.nx ρ') := fun A0 H σ B E w r p => h (wKeep K c i j E) A0 H σ B E w r p
theorem run_keep_rt {c : Value} {tb : WX → TS} (h : ∀ W, Run K W (tb W) ρ (.rt d)) : Run K W (tKeep K c i j tb) ρ (.rt d) := fun A0 H σ B E w r p => h (wKeep K c i j E) A0 H σ B E w r p
theorem run_keep_er {c : Value} {tb : WX → TS} {fs : List (Str × V)} (h : ∀ W, Run K W (tb W) ρ (.er C fs ρ')) (hm : PySem.W.exmOne K (.ref C) c = some true) : Run K W (tKeep K c i j tb) ρ (.nx (((ρ'.set i none).set j (some (.exc C fs))).set i none)) := fun A0 H σ B E w r p =>
  h (wKeep K c i j E) A0 H σ B E w r fun d H1 σ1 B1 s r1 x => ⟨hm, C, rfl, fun a na => by
    have w1 := (w.step s).wa r1
    have nA : ¬ (A0.and B1) a := fun z => w1 a z na
    have e2 : Ex H1 (upd H1 a (EX a C d)) := Ex.new na
    obtain ⟨w2, r2⟩ := et_step w1 r1 e2
    obtain ⟨B2, r3, s3⟩ := r2.put i (some (.ref a))
    have ex : Rp K (A0.and B1) (upd H1 a (EX a C d)) (.ref a) (.exc C fs) [] := by
      rcases x with ⟨rfl, rfl⟩ | ⟨dd, rfl, s⟩
      · exact .exc0 ⟨upd_same, nA⟩
      · exact .exc1 ⟨upd_same, nA⟩ ⟨e2 dd _ s.1, s.2⟩
    obtain ⟨B3, r4, s4⟩ := r3.set ex (fun _ h => nomatch h) j
    obtain ⟨B4, r5, s5⟩ := r4.put i none
    have sub : ∀ b ∈ B4, b ∈ B1 := fun b hb => (s4 b (s5 b hb)).elim (fun z => nomatch z) (s3 b)
    exact p _ _ B4 (s.trans (.ex e2 fun b hb => .inl (sub b hb))) (r5.keep (keep_less (fun b z => z.imp id (sub b)) fun b hb => .inr hb))⟩
/-! ### while -/
theorem run_while (n : Nat) (R : Nat → Env) (h0 : Weak ρ (R 0)) (hc : ∀ k, k ≤ n → EvT K tt (R k) (decide (k < n))) (hs : ∀ k, k < n → Run K W tb (R k) (.nx (R (k + 1)))) : Run K W (tWhile tt tb) ρ (.nx (R n)) := fun A0 H σ B E w r p => by
  refine ⟨fun m σ1 H1 => ∃ k, k ≤ n ∧ m = n - k ∧ ∃ B1, Step B H B1 H1 ∧ EnvR K (A0.and B1) H1 σ1 (R k) B1, ⟨n, 0, Nat.zero_le _, rfl, ?_⟩, ?_⟩
  · obtain ⟨B2, r2, s2⟩ := r.weak h0
    exact ⟨B2, .ex Ex.rfl' fun a h => .inl (s2 a h), r2.keep (keep_less (fun a z => z.imp id (s2 a)) fun a h => .inr h)⟩
  · rintro m σ1 H1 ⟨k, hk, rfl, B1, s1, r1⟩
    refine (hc k hk).run (w.step s1) r1 fun H2 s2 r2 => ?_
    by_cases hlt : k < n
    · rw [if_pos (decide_eq_true hlt)]
      refine ⟨fun σ3 H3 => ∃ B3, Step B H B3 H3 ∧ EnvR K (A0.and B3) H3 σ3 (R (k + 1)) B3, fun σ3 H3 hz => ⟨n - (k + 1), by omega, k + 1, hlt, rfl, hz⟩, ?_⟩
      exact hs k hlt A0 H2 σ1 B1 _ ((w.step s1).step s2) r2 fun H3 σ3 B3 s3 r3 => ⟨B3, s1.trans (s2.trans s3), r3⟩
    · rw [if_neg (by simpa using hlt)]
      have : k = n := by omega
      subst this
      exact p H2 σ1 B1 (s1.trans s2) r2
/-! ### a, b = .. -/
def TakesS (K : PySem.W.Frag) (g : TGs) (own : Option (List Nat)) (ds : List D) (ρ ρ' : Env) : Prop := ∀ (A : Own) (H : Hp) (σ : L2.St) (B : List Addr) (xs : List V), WA A H → EnvR K A H σ ρ B → RpAll K A H xs ds [] → ∀ Q : L2.St → Hp → Prop,
  (∀ σ' B', (∀ vs, own = some vs → L2.wipe σ' vs = L2.wipe σ vs) → (∀ a ∈ B', a ∈ B) → EnvR K A H σ' ρ' B' → Q σ' H) → g xs σ H Q
theorem takes_nil {own : Option (List Nat)} : TakesS K gNil own [] ρ ρ := fun A H σ B xs w r p Q q => by
  cases p
  exact ⟨rfl, q σ B (fun _ _ => rfl) (fun _ h => h) r⟩
theorem RpAll.cons0 {xs : List V} (h : RpAll K A H xs (d :: ds) []) : ∃ x ys, xs = x :: ys ∧ Rp K A H x d [] ∧ RpAll K A H ys ds [] := by
  generalize hB : ([] : List Addr) = B at h
  generalize hD : d :: ds = D0 at h
  cases h with
  | nil => cases hD
  | cons r t n =>
    cases hD
    obtain ⟨rfl, rfl⟩ := List.append_eq_nil_iff.mp hB.symm
    exact ⟨_, _, rfl, r, t⟩
theorem takes_cons {own : Option (List Nat)} {gs : TGs} (h : FP.Takes K g own d ρ ρ') (hs : TakesS K gs own ds ρ' ρ2) : TakesS K (gCons g gs) own (d :: ds) ρ ρ2 := fun A H σ B xs w r p Q q => by
  obtain ⟨x, ys, rfl, p1, p2⟩ := p.cons0
  refine ⟨x, ys, rfl, h A H σ B x w r p1 _ fun σ1 B1 h1 s1 r1 => hs A H σ1 B1 ys w r1 p2 Q fun σ2 B2 h2 s2 r2 => q σ2 B2 (fun vs e => (h2 vs e).trans (h1 vs e)) (fun a h => s1 a (s2 a h)) r2⟩
theorem takes_tup {own : Option (List Nat)} {gs : TGs} {n : Nat} (hn : ds.length = n) (hs : TakesS K gs own ds ρ ρ') : FP.Takes K (gTup K n gs) own (.tup false ds) ρ ρ' := fun A H σ B v w r p Q q => by
  obtain ⟨a, xs, C, rfl, h1, h2, _, h4⟩ := p.tup
  obtain rfl := h4 rfl
  exact ⟨a, xs, rfl, h1, by rw [h2.len]; exact hn, hs A H σ B xs w r h2 Q q⟩
theorem run_asgT (h : EvS K te ρ d) (hd : d.shd = true) (tk : FP.Takes K g none d ρ ρ') : Run K W (tAsg te g) ρ (.nx ρ') := fun A0 H σ B E w r p =>
  h.run w r fun v H1 C e f r1 p1 n => by
    obtain rfl := p1.shd _ hd
    have w1 := (w.step (.ex e fun _ z => .inl z : Step B H B H1)).wa (A0 := A0) (et_step (w.wa r) r e).2
    refine tk (A0.and B) H1 σ B v w1 (et_step (w.wa r) r e).2 (p1.keep _ (keep_less (fun a z => z) fun _ h => nomatch h)) _ fun σ2 B2 _ sb r2 => ?_
    exact p H1 σ2 B2 (.ex e fun a h => .inl (sb a h)) (r2.keep (keep_less (fun a z => z.imp id (sb a)) fun a h => .inr h))
/-- name[k].append(e): a list of one's own within a tuple of one's own -/
theorem RpAll.upd1 : ∀ {ds : List D} {xs : List V} {B : List Addr} {k : Nat} {e : D}, RpAll K A H xs ds B → ds[k]? = some e → ∃ v Bk, xs[k]? = some v ∧ Rp K A H v e Bk ∧ (∀ a ∈ Bk, a ∈ B) ∧
    ∀ (A' : Own) (H' : Hp) (e' : D) (B' : List Addr), (∀ B0, (∀ a ∈ B0, a ∈ B ∧ a ∉ Bk) → Keep A H B0 A' H') → Rp K A' H' v e' B' → (∀ a ∈ B', a ∈ Bk ∨ a ∉ B) → ∃ B2, RpAll K A' H' xs (ds.set k e') B2 ∧ ∀ a ∈ B2, a ∈ B' ∨ a ∈ B
  | _, _, _, k, _, .nil, h => by simp at h
  | d :: ds, v :: vs, _, 0, _, .cons (B := B1) (C := B2) r t n, h => by
    cases (show d = _ from by simpa using h)
    refine ⟨v, B1, rfl, r, fun a h => List.mem_append_left _ h, fun A' H' e' B' kp p s => ⟨B' ++ B2, .cons p (t.keep _ (kp B2 fun a h => ⟨List.mem_append_right _ h, fun z => n a z h⟩)) fun a h z => ?_, fun a h => (List.mem_append.mp h).imp id fun z => List.mem_append_right _ z⟩⟩
    rcases s a h with q | q
    · exact n a q z
    · exact q (List.mem_append_right _ z)
  | d :: ds, v :: vs, _, k + 1, e, .cons (B := B1) (C := B2) r t n, h => by
    obtain ⟨v', Bk, h1, h2, h3, kk⟩ := RpAll.upd1 t (k := k) (e := e) (by simpa using h)
    refine ⟨v', Bk, by simpa using h1, h2, fun a h => List.mem_append_right _ (h3 a h), fun A' H' e' B' kp p s => ?_⟩
    obtain ⟨B3, r3, s3⟩ := kk A' H' e' B' (fun B0 h0 => kp B0 fun a h => ⟨List.mem_append_right _ (h0 a h).1, (h0 a h).2⟩) p fun a h => (s a h).imp id fun z q => z (List.mem_append_right _ q)
    refine ⟨B1 ++ B3, .cons (r.keep _ (kp B1 fun a h => ⟨List.mem_append_left _ h, fun z => n a h (h3 a z)⟩)) r3 fun a h z => ?_, fun a h => ?_⟩
    · rcases s3 a z with q | q
      · rcases s a q with q | q
        · exact n a h (h3 a q)
        · exact q (List.mem_append_left _ h)
      · exact n a h q
    · rcases List.mem_append.mp h with h | h
      · exact .inr (List.mem_append_left _ h)
      · exact (s3 a h).imp id fun z => List.mem_append_right _ z
theorem run_append_tup {k : Nat} {n : Int} (hi : ρ[i]? = some (some (.tup true ds))) (hk : ds[k]? = some (.lst true es)) (hn : n = (k : Nat)) (he : EvS K te ρ d) (hl : es.length < sizeLine) :
    Run K W (tDrop (tBM K "list" rAppend (tOp (rIx K) (tVar i) (tC (.int n))) (tCons te tNil))) ρ (.nx (ρ.set i (some (.tup true (ds.set k (.lst true (es ++ [d]))))))) := fun A0 H σ B E w r p => by
  subst hn
  obtain ⟨v, Bi, h1, h2, h3, _⟩ := r.mut hi
  cases h2 with
  | @tupO a xs _ B1 ha hA hna r1 =>
  obtain ⟨y, Bk, hy, hr, sk, _⟩ := r1.upd1 hk
  cases hr with
  | @lstO l ys _ Bl hl1 hl2 hl3 rl =>
  have hat : atI xs (k : Nat) = some (.ref l) := by
    obtain ⟨hlt, hyy⟩ := List.getElem?_eq_some_iff.mp hy
    unfold atI ixN
    have c1 : (0 : Int) ≤ (k : Nat) := by omega
    first
    | (rw [if_pos c1]; simp [hlt, hyy])
    | (simp [hlt, hyy])
  refine ⟨.ref a, h1, .inr (.inl ⟨a, xs, (k : Nat), .ref l, rfl, rfl, .inl (.inl ha), hat, .inl ⟨rfl, ys, .inl (.inl hl1)⟩, ?_⟩)⟩
  refine he.run w r fun v1 H1 C1 e f r2 q2 n2 => ?_
  obtain ⟨v', Bi', h1', h2', h3', kk⟩ := r2.mut hi
  rw [h1] at h1'
  cases h1'
  have ha' := e _ _ ha
  cases h2' with
  | @tupO _ xs' _ B1' ha2 hA' hn' r1' =>
  rw [ha'] at ha2
  cases ha2
  obtain ⟨y', Bk', hy', hr', sk', k1⟩ := r1'.upd1 hk
  rw [hy] at hy'
  cases hy'
  have hl' := e _ _ hl1
  cases hr' with
  | @lstO _ ys' _ Bl' hl2' hA2 hn2 rl' =>
  rw [hl'] at hl2'
  cases hl2'
  refine ⟨l, ys, v1, rfl, rfl, hl', by rw [rl'.len]; exact hl, ?_⟩
  have lB : l ∈ B := h3' l (List.mem_cons_of_mem _ (sk' l List.mem_cons_self))
  have nl : l ∉ C1 := fun z => n2 l z lB
  have nBl : ∀ b ∈ Bl', b ∉ C1 := fun b hb z => n2 b z (h3' b (List.mem_cons_of_mem _ (sk' b (List.mem_cons_of_mem _ hb))))
  have kp : ∀ B0, l ∉ B0 → (∀ b ∈ B0, (A0.and (C1 ++ B)) b) → Keep (A0.and (C1 ++ B)) H1 B0 (A0.and (C1 ++ B)) (upd H1 l (.lst (ys ++ [v1]))) := fun B0 z hB => keep_upd hA2 z hB
  have q := rl'.snoc q2 nBl
  have nn : l ∉ Bl' ++ C1 := fun z => (List.mem_append.mp z).elim hn2 nl
  have al : a ≠ l := fun z => hn' (by rw [z]; exact sk' l List.mem_cons_self)
  obtain ⟨B3, r3, s3⟩ := k1 (A0.and (C1 ++ B)) (upd H1 l (.lst (ys ++ [v1]))) (.lst true (es ++ [d])) (l :: (Bl' ++ C1))
    (fun B0 h0 => kp B0 (fun z => (h0 l z).2 List.mem_cons_self) fun b hb => .inr (List.mem_append_right _ (h3' b (List.mem_cons_of_mem _ (h0 b hb).1))))
    (.lstO upd_same hA2 nn (q.keep _ (kp _ nn fun b hb => (q.tracked _ b hb).2)))
    (fun b hb => (List.mem_cons.mp hb).elim (fun z => .inl (z ▸ List.mem_cons_self)) fun hb => (List.mem_append.mp hb).elim (fun z => .inl (List.mem_cons_of_mem _ z)) fun z => .inr fun m => n2 b z (h3' b (List.mem_cons_of_mem _ m)))
  have s3a : ∀ b ∈ B3, b ∈ C1 ∨ b ∈ B1' := fun b hb => by
    rcases s3 b hb with z | z
    · rcases List.mem_cons.mp z with z | z
      · rw [z]; exact .inr (sk' l List.mem_cons_self)
      · exact (List.mem_append.mp z).elim (fun z => .inr (sk' b (List.mem_cons_of_mem _ z))) .inl
    · exact .inr z
  have na3 : a ∉ B3 := fun z => (s3a a z).elim (fun z => n2 a z (h3' a List.mem_cons_self)) hn'
  obtain ⟨B4, r4, s4⟩ := kk (A0.and (C1 ++ B)) (upd H1 l (.lst (ys ++ [v1]))) (.tup true (ds.set k (.lst true (es ++ [d])))) (a :: B3)
    (fun B0 h0 => kp B0 (fun z => (h0 l z).2 (List.mem_cons_of_mem _ (sk' l List.mem_cons_self))) fun b hb => .inr (List.mem_append_right _ (h0 b hb).1))
    (.tupO (by rw [upd_ne al]; exact ha') hA' na3 r3)
    (fun b hb => (List.mem_cons.mp hb).elim (fun z => .inl (z ▸ List.mem_cons_self)) fun hb => (s3a b hb).elim (fun z => .inr (n2 b z)) fun z => .inl (List.mem_cons_of_mem _ z))
  have s4' : ∀ b ∈ B4, b ∈ C1 ∨ b ∈ B := fun b hb => by
    rcases s4 b hb with z | z
    · rcases List.mem_cons.mp z with z | z
      · rw [z]; exact .inr (h3' a List.mem_cons_self)
      · exact (s3a b z).imp id fun z => h3' b (List.mem_cons_of_mem _ z)
    · exact .inr z
  refine p _ σ B4 ⟨fun b o hb nb => ?_, fun b hb => ?_, fun b hb => ?_⟩ (r4.keep (keep_less (fun b z => z.imp id fun z => List.mem_append.mpr (s4' b z)) fun b hb => .inr hb))
  · rw [upd_ne fun z => nb (by rw [z]; exact lB)]
    exact e _ _ hb
  · by_cases hz : b = l
    · rw [hz, upd_same]; simp
    · rw [upd_ne hz]; exact e.ne hb
  · exact (s4' b hb).elim (fun z => .inr (f b z)) .inl
end
end FP

namespace FP
open PySem PySem.Spec PyProof.Rows L2

/-! ### enumerate(list, start=k) -/
def Its (K : PySem.W.Frag) (k : Int) (a : Addr) : It where
  go := fun i H => ∃ (xs : List V) (x : V), SqL K H a xs ∧ xs[i]? = some x
  yld := fun i H v H' => ∃ T x, v = .ref T ∧ H T = none ∧ H' = upd H T (.tup [.int (k + (i : Nat)), x]) ∧ ∀ xs, SqL K H a xs → xs[i]? = some x
  stop := fun i H => ∃ xs : List V, SqL K H a xs ∧ xs.length ≤ i
theorem turn_enumS {P : Program} {w : World} {K : PySem.W.Frag} {elts : List Expr} {kk : Nat} {tpos : Pos} (k : Int) (a e it : Addr) :
    Turn P w K (.Tuple elts kk tpos) (Its K k a) [e, it] e (fun i h => (∃ old, IsEnum h e it (k + ((i : Nat) : Int)) old) ∧ h.IsListIter it a i ∧ e ≠ it) where
  mem := List.mem_cons_self
  obj := fun i h st b hb => by
    obtain ⟨⟨old, he⟩, ⟨o, ho, hc, hd⟩, _⟩ := st
    rcases List.mem_cons.mp hb with rfl | hb
    · exact ⟨_, he, fun v q => nomatch q⟩
    · cases List.mem_singleton.mp hb
      exact ⟨o, ho, fun v q => by rw [hd] at q; cases q⟩
  keep := fun i h h' st kp => ⟨st.1.imp fun old he => kp e List.mem_cons_self _ he, st.2.1.at fun o q => kp it (by simp) o q, st.2.2⟩
  item := by
    intro X hP hw hK hc i pins s σ H E I hf st hg
    subst hP hw hK
    obtain ⟨⟨old, he⟩, hit, hne⟩ := st
    obtain ⟨xs, x, hq, hx⟩ := hg
    obtain ⟨its, rv, p, hz⟩ := I.list hq
    obtain ⟨u, hu, ru⟩ := rv.get hx
    have hla : s.heap.IsList a its.toArray := p.isList
    have nea : e ≠ a := fun z => by
      obtain ⟨o, ho, hcl, _⟩ := hla
      rw [← z, he] at ho
      cases ho
      exact absurd (show Value.type "enumerate" = Value.type "list" from hcl) (by decide)
    have nia : a ≠ it := fun z => by
      obtain ⟨o, ho, hcl, _⟩ := hla
      obtain ⟨o2, ho2, hc2, _⟩ := hit
      rw [z, ho2] at ho
      cases ho
      rw [hc2] at hcl
      exact absurd hcl (by decide)
    have hel : e < s.heap.objs.size := Heap.lt_size he
    have hil : it < s.heap.objs.size := by obtain ⟨_, q, _⟩ := hit; exact Heap.lt_size q
    have hhd : X.A.in1.handled = none := I.ok.hd hc
    refine wpAny_pyNext_enum_itemC (Draws.list hhd it a nia its.toArray) he ⟨hit, hla⟩ (Array.getElem?_eq_some_iff.mp (show its.toArray[i]? = some u by simpa using hu)).1 hne (by simpa using ⟨hne, nea⟩) fun y h' tk hP ho hst hT hsz hk => ?_
    have ey : y = u := by
      have z : its.toArray[i]? = some u := by simpa using hu
      rw [z] at hP
      exact (Option.some.inj hP).symm
    subst ey
    refine ⟨_, rfl, wpAny_letOwnedTupleGo_enum (s := { s with heap := h', toks := tk + 1 }) ho fun h'' he' sb => ?_⟩
    have hT2 : h''.get? s.heap.objs.size = some { cls := .type "tuple", data := .seq #[.int (k + (i : Nat)) tk, y] } := (sb.2 _ (Nat.ne_of_gt hel)).trans hT
    have new : ObjOk X.prog X.w (upd H s.heap.objs.size (.tup [.int (k + (i : Nat)), x])) h'' s.heap.objs.size (.tup [.int (k + (i : Nat)), x]) :=
      ⟨by show 2 ≤ sizeLine; decide, [.int (k + (i : Nat)) tk, y], .cons ⟨_, rfl⟩ (.cons ru .nil), ⟨_, hT2, rfl, _, rfl⟩⟩
    refine ⟨.ref s.heap.objs.size, _, I.turnedNew (t' := tk + 1) (ch := [e, it]) (fun b ob hb q => (sb.2 b fun z => hb (by simp [z])).trans (hk b ob (fun z => hb (by simp [z])) (fun z => hb (by simp [z])) q)) hf (Nat.le_refl _) new, rfl,
      ⟨_, x, rfl, I.hok.fresh (Nat.le_refl _), rfl, fun ys hy => by rw [I.list_inj hy hq]; exact hx⟩, ⟨⟨y, ?_⟩, hst.1.at fun o q => (sb.2 it (Ne.symm hne)).trans q, hne⟩, fun b hb => ?_⟩
    · have e1 : k + ((i + 1 : Nat) : Int) = k + (i : Nat) + 1 := by omega
      rw [e1]
      exact he'
    · have hb' : b < s.heap.objs.size := by
        rcases List.mem_cons.mp hb with rfl | hb
        · exact hel
        · cases List.mem_singleton.mp hb
          exact hil
      rw [upd_ne (Nat.ne_of_lt hb')]
      exact (hf b hb).1
  done := by
    intro X hP hw hK hc i pins s σ H E I hf st hg
    subst hP hw hK
    obtain ⟨⟨old, he⟩, hit, hne⟩ := st
    obtain ⟨xs, hq, hx⟩ := hg
    obtain ⟨its, rv, p, hz⟩ := I.list hq
    obtain ⟨f0, f1, f2, f3, f4, f5⟩ := hf it (by simp)
    have hl := rv.length
    have hhd : X.A.in1.handled = none := I.ok.hd hc
    have D : Draws X.prog X.w X.A.in1 it [it, a] i (fun _ _ => False) (fun j h => j = i ∧ h.IsListIter it a i ∧ h.IsList a its.toArray) := {
      live := fun _ _ st => let ⟨o, ho, _⟩ := st.2.1; ⟨o, ho⟩
      frame := fun _ _ _ st hk => ⟨st.1, st.2.1.at fun o e => hk it (by simp) o e, st.2.2.at fun o e => hk a (by simp) o e⟩
      item := fun j s Q E hi st _ => absurd st.1 (Nat.ne_of_lt hi)
      done := fun s Q E st hE => wpAny_nextOf_list_end hhd st.2.1 st.2.2 (by simp; omega) hE }
    exact wpAny_pyNext_enum_endD D he ⟨rfl, hit, p.isList⟩ fun h' eb => ⟨rfl, I.turned (t' := s.toks) (fun b o hb q => eb b o hb q) f0 f1 f3 f4 f5⟩
  self := fun A i s Q E st h => wpAny_pyIter_enum st.1.choose_spec h
section
variable {M : Model} {A : Around} {E : Value → Shared → Prop} {s : Shared}
theorem callWith_typeKw {pos : Pos} {T : String} {x : Sem Value} {rest : List (Bool × Sem Value)} {kws : List (Option Str × Sem Value)} {Q : Value → Shared → Prop} (h1 : rest.any (·.1) = false) (h2 : kws.any (·.1.isNone) = false) (h3 : kws.all (·.1.isSome) = true)
    (h : wpAny M A (spliced ((false, x) :: rest)) (fun vs s₁ => wpAny M A (evalAll (kws.map (·.2))) (fun ws s₂ => wpAny M A (call (.type T) vs ((kws.filterMap (·.1)).zip ws)) Q E s₂) E s₁) E s) : wpAny M A (callWith pos (.type T) [] ((false, x) :: rest) kws) Q E s := by
  have hp : (((false, x) :: rest).any (·.1)) = false := by
    rw [List.any_cons, h1]
    rfl
  unfold callWith
  refine wpAny_bind (wpAny_holding (wpAny_mono (evalArgs_kwB (Q := fun a s₁ => wpAny M A (call (.type T) ([] ++ a.pos) a.kw) Q E s₁) h3 h) (fun a s₁ ha => wpAny_bind (wpAny_standAt ?_)) fun _ _ z => z))
  simp only [hp, h2, Bool.or_false]
  exact wpAny_bind (wpAny_pure (wpAny_bind (wpAny_mono ha (fun r s₂ hr => wpAny_bind (wpAny_holding (wpAny_point (wpAny_pure hr)))) fun _ _ z => z)))
end
def iEnumS (K : PySem.W.Frag) (k : Int) (ta : TA) : TI := fun σ H R => ta σ H fun vs H1 => ∃ a xs, vs = [.ref a] ∧ SqL K H1 a xs ∧ R (Its K k a) H1
theorem pi_enumS {X : Cx} {e : Expr} {k : Int} {ta : TA} {p pos tpos p3 p4 : Pos} {elts : List Expr} {kk j : Nat} (hg : Gl X "enumerate") (hm : X.mg "enumerate" = none) (ha : PA X [e] ta) (h0 : -(2 ^ 63) ≤ k) (h1 : k < 2 ^ 63) (hs : starEach [e] X.env = [(false, eval e X.env)] := by rfl) :
    PI X (.Tuple elts kk tpos) (.Call (.Name "enumerate" p) [e] [⟨some (Str.ofString "start"), .Constant (.int k) j p3, p4⟩] pos) (iEnumS X.K k ta) := by
  refine ⟨fun pins s σ H R I h => ?_⟩
  refine wpAny_Call_Name_kw (ld_blt I hg hm boot_enumerate ?_)
  have hk : PK X [⟨some (Str.ofString "start"), .Constant (.int k) j p3, p4⟩] (tCons (tC (.int k)) tNil) := pk_cons pe_int pk_nil
  rw [hs]
  have hrun := ha.run pos pins s σ H _ I h
  rw [hs] at hrun
  refine callWith_typeKw rfl rfl rfl (thn hrun fun us s1 ⟨vs, H1, I1, r1, q1⟩ => thn (hk.run pos pins s1 σ H1 (fun ws H2 => ws = [.int k] ∧ H2 = H1) I1 ⟨rfl, rfl⟩) fun ws s2 ⟨zs, H2, I2, r2, e1, e2⟩ => ?_)
  subst e1 e2
  obtain ⟨a, xs, rfl, hq, q⟩ := q1
  cases r1 with
  | cons r rr =>
    cases rr
    cases r
    cases r2 with
    | cons r3 rr3 =>
      cases rr3
      obtain ⟨tk, rfl⟩ := r3
      obtain ⟨its, rv, p', hz⟩ := I2.list hq
      refine enum_begins_start (begins_list a its.toArray) p'.isList h0 h1 fun h' he ho hsz hkp => wpAny_pyIter_enum he ?_
      have J : Inv X pins σ H2 { s2 with heap := h' } := I2.kept (t' := s2.toks) hkp
      refine ⟨s2.heap.objs.size + 1, [s2.heap.objs.size + 1, s2.heap.objs.size], _, _, H2, rfl, J, turn_enumS k a (s2.heap.objs.size + 1) s2.heap.objs.size, ⟨⟨.none, by simpa using he⟩, ⟨_, ho, rfl, rfl⟩, Nat.succ_ne_self _⟩, fun b hb => ?_, q⟩
      have hle : s2.heap.objs.size ≤ b := by
        rcases List.mem_cons.mp hb with rfl | hb
        · exact Nat.le_succ _
        · cases List.mem_singleton.mp hb
          exact Nat.le_refl _
      exact I2.fpOk hle (I2.hok.fresh hle)
theorem pi_enumSK {X : Cx} {K : PySem.W.Frag} {e : Expr} {k : Int} {ta : TA} {p pos tpos p3 p4 : Pos} {elts : List Expr} {kk j : Nat} (eK : X.K = K) (hg : Gl X "enumerate") (hm : X.mg "enumerate" = none) (ha : PA X [e] ta) (h0 : -(2 ^ 63) ≤ k := by decide) (h1 : k < 2 ^ 63 := by decide) (hs : starEach [e] X.env = [(false, eval e X.env)] := by rfl) :
    PI X (.Tuple elts kk tpos) (.Call (.Name "enumerate" p) [e] [⟨some (Str.ofString "start"), .Constant (.int k) j p3, p4⟩] pos) (iEnumS K k ta) := eK ▸ pi_enumS hg hm ha h0 h1 hs
def enumS (k : Int) (ds : List D) : List D := ds.mapIdx fun i d => .tup false [.int (k + (i : Nat)), d]
theorem walks_enumS {K : PySem.W.Frag} {ρ : Env} {ds : List D} {k : Int} {ta : TA} (h : EvA K ta ρ [.lst false ds]) : Walks K (iEnumS K k ta) ρ (enumS k ds) := fun A H σ B w r R kk =>
  h A H σ B w r _ fun vs H1 C e f p1 => by
    obtain ⟨x, rfl, p2⟩ := p1.one
    obtain rfl := p2.shd _ rfl
    rw [Own.and_nil] at p2
    cases p2 with
    | @lstS a xs _ hs ra =>
    have hq0 : ∀ {A' H'}, Keep A H1 [] A' H' → SqL K H' a xs := fun kp => hs.elim (fun hs => .inl (hs.keep kp).1) .inr
    refine ⟨a, xs, rfl, hs.imp (fun h => h.1) id, kk _ H1 e fun i A' H' kp w' => ?_⟩
    have hq : SqL K H' a xs := hq0 kp
    refine ⟨fun hi => ⟨xs, hq, by rw [ra.len]; simpa [enumS] using hi⟩, fun d hd => ?_⟩
    unfold enumS at hd
    rw [List.getElem?_mapIdx] at hd
    cases hd0 : ds[i]? with
    | none => rw [hd0] at hd; cases hd
    | some d0 =>
      rw [hd0] at hd
      have hd' : D.tup false [.int (k + (i : Nat)), d0] = d := Option.some.inj hd
      subst hd'
      obtain ⟨x, hx, rx⟩ := ra.at0 hd0
      refine ⟨⟨xs, x, hq, hx⟩, fun y H'' hy => ?_⟩
      obtain ⟨T, x', rfl, hT, rfl, fy⟩ := hy
      have ey := fy xs hq
      rw [hx] at ey
      cases ey
      have nT : ¬ A' T := fun z => w' T z hT
      refine ⟨Ex.new hT, .tupS (.inl ⟨.inl upd_same, nT⟩) (RpAll.cons (B := []) (C := []) (.sc _) (RpAll.cons (B := []) (C := []) ((rx.keep _ kp).keep _ ⟨fun b o hb nb => ⟨Ex.new hT b o hb, nb⟩, fun _ _ h => nomatch h⟩) .nil fun _ h => nomatch h) fun _ h => nomatch h)⟩
/-! ### an __init__ -/
section
variable {P : Program} {w : World} {K : PySem.W.Frag} {mg : Str → Option Value} {base : Heap}
theorem spI_len {C : Addr} {R : List D → Mkd → Prop} {n : Nat} (h : ∀ ds z, R ds z → ds.length = n) : ∀ vs H Q E, spI K C R vs H Q E → vs.length = n + 1 := fun vs H Q E ⟨A, x, dx, ws, ds, r, e, _, _, _, ra, hr, _⟩ => by
  rw [e, List.length_cons, ra.len, h ds r hr]
def envI (N : List Str) (a C : Addr) (ds : List D) : Env := (D.ins (.at a) C [] [] :: ds).map some ++ List.replicate (N.length - (ds.length + 1)) none
/-- how the body of an __init__ may end -/
def EndsI (a C : Addr) (r : Mkd) (o : Out) : Prop := match r with
  | .ok fs ds => ∃ ρ, o = .nx ρ ∧ ρ[0]? = some (some (.ins (.at a) C fs ds))
  | .er C' fs => ∃ ρ, o = .er C' fs ρ
theorem ok_ofI {x qual : Str} {st : Stmt} {f C : Addr} {fd : FuncData} {N ps : List Str} {k : Nat} {R : List D → Mkd → Prop} (F : Fun K x qual st f fd) (S : FnScope N ps (defScope st)) (hlen : ∀ ds z, R ds z → ds.length + 1 = ps.length)
    (body : ∀ (cdv : Value) (A : Around) (outer : List PySem.Env) (s : Shared) (H : Hp) (E : XK), Room k (A.deeper (envOfC qual (defScope st) s.heap.objs.size f cdv)) →
      ∃ t, PSs (cxOf (L2.CX P w) P w K mg base N qual (defScope st) f cdv A outer s H E) (defBody st) t ∧ ∀ a ds r, R ds r → ∃ o, Run K (fun cls d _ H => E cls d H) t (envI N a C ds) o ∧ EndsI a C r o) : FnOk P w K mg base (L2.CX P w) (k + 1) f fd ps (spI K C R) := by
  refine F.okX S (fun vs H Q E h => ?_) fun cdv A outer s H vs Q E hr h => ?_
  · obtain ⟨_, _, _, ws, ds, r, rfl, _, _, _, ra, hR, _⟩ := h
    rw [List.length_cons, ra.len, hlen ds r hR]
  obtain ⟨t, ht, hrun⟩ := body cdv A outer s H E hr
  refine ⟨t, ht, ?_⟩
  obtain ⟨A0, a, dx, ws, ds, r, rfl, wa, na, ha, ra, hR, q⟩ := h
  obtain ⟨o, run, he⟩ := hrun a ds r hR
  have w0 : W0 A0 [a] H := ⟨wa, fun b hb z => na (List.mem_singleton.mp z ▸ hb)⟩
  have ri : Rp K (A0.and [a]) H (.ref a) (.ins (.at a) C [] []) [a] := .insA (xs := []) (dx := dx) ha (.inr List.mem_cons_self) (fun h => nomatch h) rfl .nil
  have e0 : EnvR K (A0.and [a]) H (start N (.ref a :: ws)) (envI N a C ds) [a] := by
    unfold L2.start envI
    rw [List.length_cons, ra.len]
    exact envR_of _ (RpAll.cons (B := [a]) (C := []) ri ra fun _ _ h => nomatch h)
  refine run A0 H _ [a] _ w0 e0 ?_
  cases r with
  | ok fs ds' =>
    obtain ⟨ρ, rfl, h0⟩ := he
    intro H' σ' B' s r'
    obtain ⟨v, C1, h1, h2, h3⟩ := r'.get h0
    obtain ⟨a', dx', xs, B1, rfl, _, _, _, _, _, _, hat⟩ := h2.ins
    cases hat a rfl
    exact q H' C1 ⟨s.keep, s.live, fun b hb => s.fresh b (h3 b hb)⟩ (h2.keep _ (keep_less (fun b z => z.imp id (h3 b)) fun b hb => .inr hb))
  | er C' fs =>
    obtain ⟨ρ, rfl⟩ := he
    exact fun d H' σ' B' s r' x => q d H' B' s x
/-! ### o.m(..), nothing of o changed -/
section
variable {X : Cx} {CX : CXT} {k : Nat} {f C : Addr} {fd : FuncData} {ps : List Str} {sp : Sp} {E : XK} {m : Str} {pos apos : Pos} {o : Expr} {to : TE}
def tMeth0 (C : Addr) (m : Str) (sp : Sp) (E : XK) (ta : TE) : TE := fun σ H Q => ta σ H fun x H1 => ∃ a dx fs, x = .ref a ∧ H1 a = some (.ins C dx fs) ∧ fs.lookup m = none ∧ sp [x] H1 Q E
end
theorem ev_meth {ρ : Env} {C : Addr} {m : Str} {R : List D → D → Prop} {E : XK} {to : TE} {t : TA} {fl : Fl} {fs : List Str} {ds es : List D} {z : D} (ho : EvS K to ρ (.ins fl C fs ds)) (hm : m ∉ fs) (ha : EvA K t ρ es) (hz : R (D.frzs (.ins fl C fs ds :: es)) z) :
    EvS K (tMeth C m (spF K R) [] E to t) ρ z := fun A H σ B w r Q q => ho A H σ B w r _ fun v H1 C1 e1 f1 p1 => by
  obtain ⟨a, dx, xs, B1, rfl, h1, h2, h3, _⟩ := p1.ins
  have w1 : WA (A.and C1) H1 := w.and e1 fun a h => (p1.tracked _ a h).1
  have r1 : EnvR K (A.and C1) H1 σ ρ B := r.keep (keep_and w e1 f1 fun a h => (r.tracked a h).2)
  have hl : (fs.zip xs).lookup m = none := by
    have key : ∀ (fs : List Str) (xs : List V), m ∉ fs → (fs.zip xs).lookup m = none := by
      intro fs
      induction fs with
      | nil => intro xs _; rfl
      | cons g fs ih =>
        intro xs hn
        cases xs with
        | nil => rfl
        | cons x xs =>
          rw [List.zip_cons_cons, List.lookup_cons]
          have : (m == g) = false := beq_eq_false_iff_ne.mpr fun z => hn (z ▸ List.mem_cons_self)
          rw [this]
          exact ih xs fun z => hn (List.mem_cons_of_mem _ z)
    exact key fs xs hm
  refine ⟨a, dx, _, rfl, h1, hl, ha (A.and C1) H1 σ B w1 r1 _ fun ws H2 C2 e2 f2 p2 => ?_⟩
  rw [List.append_nil]
  have pa : RpAll K ((A.and C1).and C2) H2 (.ref a :: ws) (.ins fl C fs ds :: es) (C1 ++ C2) := .cons (p1.keep _ (keep_and w1 e2 f2 fun b h => (p1.tracked _ b h).2)) p2 fun b hb z => (p1.tracked _ b hb).1 (f2 b z)
  refine ⟨A, _, z, fun b h => e2.ne (e1.ne (w b h)), pa.loose _ ⟨fun b o h n => ⟨h, fun z => n (.inl (.inl z))⟩, fun b o m h => ⟨h, fun z => ?_⟩⟩, hz, fun y H3 C3 e3 f3 p3 => q y H3 C3 ((e1.tr e2).tr e3) ((f3.back e2).back e1) p3⟩
  rcases List.mem_append.mp m with m | m
  · exact w b z (f1 b m)
  · exact w b z (e1.back (f2 b m))
/-! ### exceptions made -/
def spE (C : Addr) (R : List V → List (Str × V) → Prop) : Sp := fun vs H Q _ => ∃ (a : Addr) (ws : List V) (fs : List (Str × V)), vs = .ref a :: ws ∧ H a = some (exo a C none) ∧ R ws fs ∧
  ∀ d H2, H d = none → d ≠ a → (∀ b o, b ≠ a → H b = some o → H2 b = some o) → H2 a = some (exo a C (some d)) → H2 d = some (exd d fs) → Q .non H2
theorem ev_mko {ρ : Env} {C : Addr} {R : List V → List (Str × V) → Prop} {ta : TA} {ws : List V} {fs : List (Str × V)} (ha : EvA K ta ρ (ws.map D.sc)) (hl : ws.length ≤ 1000) (hR : R ws fs) : EvM K (tMkO C (spE C R) [] ta) ρ C fs := fun A H σ B w r Q q =>
  ha A H σ B w r _ fun vs H1 C1 e f p => by
    obtain rfl := p.scs
    refine ⟨hl, fun a na => ⟨a, vs, fs, by rw [List.append_nil], upd_same, hR, fun d H2 hd ne hk h1 h2 => ⟨rfl, d, fs, h1, h2, ?_, ?_⟩⟩⟩
    · rw [upd_ne ne] at hd
      exact hd
    have hd' : H1 d = none := by
      rw [upd_ne ne] at hd
      exact hd
    have w1 : WA A H1 := fun b h => e.ne (w b h)
    refine q (some d) _ (e.tr fun b o h => ?_) (.inr ⟨d, rfl, upd_same, fun z => w1 d z hd'⟩)
    have nba : b ≠ a := fun z => by rw [z, na] at h; cases h
    have nbd : b ≠ d := fun z => by rw [z, hd'] at h; cases h
    rw [upd_ne nbd, L2.del_ne nba]
    exact hk b o nba (by rw [upd_ne nba]; exact h)
theorem ev_mkT {ρ : Env} {C : Addr} : EvM K (fun _ H Q => Q (.ref C) none H) ρ C [] := fun A H σ B w r Q q => q none H Ex.rfl' (.inl ⟨rfl, rfl⟩)
end
/-- a tuple of texts of the written part -/
theorem ev_kt {K : PySem.W.Frag} {ρ : Env} {a : Addr} {ws : List Str} (h : KT K a (ws.map V.str)) : EvS K (tC (.ref a)) ρ (.tup false (ws.map D.str)) := fun A H σ B w r Q q => by
  refine q (.ref a) H [] Ex.rfl' (fun _ h => nomatch h) ?_
  exact .tupS (.inr h) (RpAll.ofStrs ws)
end FP

namespace FP
open PySem PySem.Spec PyProof.Rows L2

/-! ### defs and methods that may raise -/
inductive Res where
  | ok (z : D)
  | er (C : Addr) (fs : List (Str × V))
def spX (K : PySem.W.Frag) (R : List D → Res → Prop) : Sp := fun vs H Q E => ∃ (A : Own) (ds : List D) (r : Res), WA A H ∧ RpAll K A H vs ds [] ∧ R ds r ∧
  match r with
  | .ok z => ∀ v H' C, Ex H H' → Fresh H C → Rp K (A.and C) H' v z C → Q v H'
  | .er C fs => ∀ d H', Ex H H' → XdOk A H' d fs → E (.ref C) d H'
def EndsX (r : Res) (o : Out) : Prop := match r with
  | .ok z => o = .rt z ∨ (z = .non ∧ ∃ ρ, o = .nx ρ)
  | .er C fs => ∃ ρ, o = .er C fs ρ
section
variable {P : Program} {w : World} {K : PySem.W.Frag} {mg : Str → Option Value} {base : Heap}
theorem ok_ofX {x qual : Str} {st : Stmt} {f : Addr} {fd : FuncData} {N ps : List Str} {k : Nat} {R : List D → Res → Prop} (F : Fun K x qual st f fd) (S : FnScope N ps (defScope st)) (hlen : ∀ ds z, R ds z → ds.length = ps.length)
    (body : ∀ (cdv : Value) (A : Around) (outer : List PySem.Env) (s : Shared) (H : Hp) (E : XK), Room k (A.deeper (envOfC qual (defScope st) s.heap.objs.size f cdv)) →
      ∃ t, PSs (cxOf (L2.CX P w) P w K mg base N qual (defScope st) f cdv A outer s H E) (defBody st) t ∧ ∀ ds r, R ds r → ∃ o, Run K (fun cls d _ H => E cls d H) t (env0 N ds) o ∧ EndsX r o) : FnOk P w K mg base (L2.CX P w) (k + 1) f fd ps (spX K R) := by
  refine F.okX S (fun vs H Q E h => ?_) fun cdv A outer s H vs Q E hr h => ?_
  · obtain ⟨_, ds, r, _, ra, hR, _⟩ := h
    rw [ra.len, hlen ds r hR]
  obtain ⟨t, ht, hrun⟩ := body cdv A outer s H E hr
  refine ⟨t, ht, ?_⟩
  obtain ⟨A0, ds, r, wa, ra, hR, q⟩ := h
  obtain ⟨o, run, he⟩ := hrun ds r hR
  have e0 : EnvR K (A0.and []) H (start N vs) (env0 N ds) [] := by
    rw [Own.and_nil]
    unfold L2.start env0
    rw [ra.len]
    exact envR_of _ ra
  refine run A0 H (start N vs) [] _ ⟨wa, fun _ _ h => nomatch h⟩ e0 ?_
  have st : ∀ {B' H'}, Step [] H B' H' → Ex H H' ∧ Fresh H B' := fun s => ⟨fun a o h => s.keep a o h fun z => (nomatch z), fun a h => (s.fresh a h).elim (fun z => nomatch z) id⟩
  cases r with
  | ok z =>
    rcases he with rfl | ⟨rfl, ρ, rfl⟩
    · exact fun v H' B' s r => q v H' B' (st s).1 (st s).2 r
    · exact fun H' σ' B' s r => q .non H' [] (st s).1 (fun _ h => nomatch h) (.sc _)
  | er C fs =>
    obtain ⟨ρ, rfl⟩ := he
    exact fun d H' σ' B' s r x => q d H' (st s).1 (x.less fun a => .inl)
end
section
variable {K : PySem.W.Frag} {ρ ρ' : Env} {W : WX} {ta : TA} {ds : List D} {z : D} {R : List D → Res → Prop} {E : L2.St → XK} {C : Addr} {fs : List (Str × V)}
theorem ev_fnX (ha : EvA K ta ρ ds) (hR : R (D.frzs ds) (.ok z)) : EvS K (tCallS (spX K R) E ta) ρ z := fun A H σ B w r Q q =>
  ha A H σ B w r _ fun vs H1 C e f p => ⟨A, D.frzs ds, .ok z, fun a h => e.ne (w a h), p.loose _ ⟨fun a o h n => ⟨h, fun z => n (.inl z)⟩, fun a o m h => ⟨h, fun z => w a z (f a m)⟩⟩, hR, fun v H2 C2 e2 f2 p2 => q v H2 C2 (e.tr e2) (f2.back e) p2⟩
theorem evx_fn (ha : EvA K ta ρ ds) (hR : R (D.frzs ds) (.er C fs)) : EvX K W (tCallS (spX K R) (WE W) ta) ρ C fs := fun A H σ B w r hW Q =>
  ha A H σ B w r _ fun vs H1 C1 e f p => ⟨A, D.frzs ds, .er C fs, fun a h => e.ne (w a h), p.loose _ ⟨fun a o h n => ⟨h, fun z => n (.inl z)⟩, fun a o m h => ⟨h, fun z => w a z (f a m)⟩⟩, hR, fun d H2 e2 x => hW d H2 (e.tr e2) x⟩
end

/-! ### o.m(..) with a wish for each slots -/
section
variable {X : Cx} {CX : CXT} {k : Nat} {f C : Addr} {fd : FuncData} {ps : List Str} {sp : Sp} {E : L2.St → XK} {m : Str} {pos apos : Pos} {e o : Expr} {es : List Expr} {ta : TE} {t : TA}
def tMethS (C : Addr) (m : Str) (sp : Sp) (E : L2.St → XK) (ta : TE) (t : TA) : TE := fun σ H Q => ta σ H fun x H1 => ∃ a dx fs, x = .ref a ∧ H1 a = some (.ins C dx fs) ∧ fs.lookup m = none ∧ t σ H1 fun vs H2 => sp (x :: vs) H2 Q (E σ)
theorem pe_methS {pl : Sem Bool} (he : PE X o ta) (c : Cls X.K C) (hm : Meth X.K C m f) (F : FnOk X.prog X.w X.K X.mg X.base CX k f fd ps sp) (hr : Room k X.A) (hb : Binds X.K fd ps []) (hx : ∀ σ, PassesAt CX X σ (E σ)) (ha : PA X (e :: es) t)
    (hst : starEach (e :: es) X.env = (false, eval e X.env) :: starEach es X.env := by rfl) (hpl : (backTo pos (starEach es X.env)).any (·.1) = false := by rfl)
    (ht : eval (.Call (.Attribute o m apos) (e :: es) [] pos) X.env = (do
      let ov ← eval o X.env; standAt apos.atName; let (f, first) ← holding [ov] (getMethod ov m pl); callWith pos f first (backTo pos (starEach (e :: es) X.env)) (backToKw pos (keywordEach [] X.env))) := by rfl) :
    PE X (.Call (.Attribute o m apos) (e :: es) [] pos) (tMethS C m sp E ta t) := by
  refine ⟨fun pins s σ H Q I h => ?_⟩
  refine PySem.W.methodCall_KW (pl := pl) (thn (he.run pins s σ H _ I h) fun u s1 hh => ?_) ht
  obtain ⟨x, H1, I1, rx, a, dx, fs, rfl, ea, l, q⟩ := hh
  obtain rfl : u = Value.ref a := rx
  refine getmeth_ok I1 ea c hm l (PySem.W.callWith_K (first := [.ref a]) (h₀ := X.base) I.ok.mod.kin hm.kp (thn (ha.run pos pins s1 σ H1 _ I1 q) fun us s2 ⟨vs, H2, I2, r, q2⟩ => ⟨I2.kIn, ?_⟩) hst hpl)
  exact run_fnS (us := .ref a :: us) (vs := .ref a :: vs) F hr hb (hx σ) I2 (.cons rfl r) q2
theorem pe_methS0 {pl : Sem Bool} (he : PE X o ta) (c : Cls X.K C) (hm : Meth X.K C m f) (F : FnOk X.prog X.w X.K X.mg X.base CX k f fd ps sp) (hr : Room k X.A) (hb : Binds X.K fd ps []) (hx : ∀ σ, PassesAt CX X σ (E σ))
    (ht : eval (.Call (.Attribute o m apos) [] [] pos) X.env = (do
      let ov ← eval o X.env; standAt apos.atName; let (f, first) ← holding [ov] (getMethod ov m pl); callWith pos f first (backTo pos (starEach [] X.env)) (backToKw pos (keywordEach [] X.env))) := by rfl) :
    PE X (.Call (.Attribute o m apos) [] [] pos) (tMethS C m sp E ta tNil) := by
  refine ⟨fun pins s σ H Q I h => ?_⟩
  refine PySem.W.methodCall_KW (pl := pl) (thn (he.run pins s σ H _ I h) fun u s1 hh => ?_) ht
  obtain ⟨x, H1, I1, rx, a, dx, fs, rfl, ea, l, q⟩ := hh
  obtain rfl : u = Value.ref a := rx
  exact getmeth_ok I1 ea c hm l (PySem.W.callWith_K0 (first := [.ref a]) I1.kIn hm.kp (run_fnS (us := [.ref a]) (vs := [.ref a]) F hr hb (hx σ) I1 (.cons rfl .nil) q))
end
section
variable {K : PySem.W.Frag} {ρ ρ' : Env} {W : WX} {ta : TA} {to : TE} {ds es : List D} {z : D} {R : List D → Res → Prop} {E : L2.St → XK} {C Ce : Addr} {fs : List Str} {fe : List (Str × V)} {fl : Fl} {m : Str}
theorem zip_no : ∀ (fs : List Str) (xs : List V), m ∉ fs → (fs.zip xs).lookup m = none
  | [], _, _ => rfl
  | _ :: _, [], _ => rfl
  | g :: fs, x :: xs, h => by
    rw [List.zip_cons_cons, List.lookup_cons, show (m == g) = false from beq_eq_false_iff_ne.mpr fun z => h (z ▸ List.mem_cons_self)]
    exact zip_no fs xs fun z => h (List.mem_cons_of_mem _ z)
/-- what both rules for o.m(..) come to -/
theorem meth_args (ho : EvS K to ρ (.ins fl C fs ds)) (hm : m ∉ fs) (ha : EvA K ta ρ es) (sp : Sp) {A : Own} {H : Hp} {σ : L2.St} {B : List Addr} (w : WA A H) (r : EnvR K A H σ ρ B) {Q : VK}
    (q : ∀ vs H', Ex H H' → RpAll K A H' vs (D.frzs (.ins fl C fs ds :: es)) [] → sp vs H' Q (E σ)) : tMethS C m sp E to ta σ H Q := ho A H σ B w r _ fun v H1 C1 e1 f1 p1 => by
  obtain ⟨a, dx, xs, B1, rfl, h1, h2, h3, _⟩ := p1.ins
  have w1 : WA (A.and C1) H1 := w.and e1 fun a h => (p1.tracked _ a h).1
  have r1 : EnvR K (A.and C1) H1 σ ρ B := r.keep (keep_and w e1 f1 fun a h => (r.tracked a h).2)
  refine ⟨a, dx, _, rfl, h1, zip_no fs xs hm, ha (A.and C1) H1 σ B w1 r1 _ fun ws H2 C2 e2 f2 p2 => ?_⟩
  have pa : RpAll K ((A.and C1).and C2) H2 (.ref a :: ws) (.ins fl C fs ds :: es) (C1 ++ C2) := .cons (p1.keep _ (keep_and w1 e2 f2 fun b h => (p1.tracked _ b h).2)) p2 fun b hb z => (p1.tracked _ b hb).1 (f2 b z)
  refine q _ H2 (e1.tr e2) (pa.loose _ ⟨fun b o h n => ⟨h, fun z => n (.inl (.inl z))⟩, fun b o m h => ⟨h, fun z => ?_⟩⟩)
  rcases List.mem_append.mp m with m | m
  · exact w b z (f1 b m)
  · exact w b z (e1.back (f2 b m))
theorem ev_methX (ho : EvS K to ρ (.ins fl C fs ds)) (hm : m ∉ fs) (ha : EvA K ta ρ es) (hz : R (D.frzs (.ins fl C fs ds :: es)) (.ok z)) : EvS K (tMethS C m (spX K R) E to ta) ρ z := fun A H σ B w r Q q =>
  meth_args ho hm ha _ w r fun vs H1 e p => ⟨A, _, .ok z, fun a h => e.ne (w a h), p, hz, fun v H2 C2 e2 f2 p2 => q v H2 C2 (e.tr e2) (f2.back e) p2⟩
theorem evx_meth (ho : EvS K to ρ (.ins fl C fs ds)) (hm : m ∉ fs) (ha : EvA K ta ρ es) (hz : R (D.frzs (.ins fl C fs ds :: es)) (.er Ce fe)) : EvX K W (tMethS C m (spX K R) (WE W) to ta) ρ Ce fe := fun A H σ B w r hW Q =>
  meth_args ho hm ha _ w r fun vs H1 e p => ⟨A, _, .er Ce fe, fun a h => e.ne (w a h), p, hz, fun d H2 e2 x => hW d H2 (e.tr e2) x⟩
end
end FP

namespace FP
open PySem PySem.Spec PyProof.Rows L2

/-! ### methods that change their object -/
theorem EnvR.mut2 {K : PySem.W.Frag} {A : Own} {H : Hp} {σ : L2.St} {ρ : Env} {B : List Addr} (r : EnvR K A H σ ρ B) : ∀ {i : Nat} {d : D}, ρ[i]? = some (some d) → ∃ v Bi, σ[i]? = some (some v) ∧ Rp K A H v d Bi ∧ (∀ a ∈ Bi, a ∈ B) ∧
    ∀ (A' : Own) (H' : Hp) (d' : D) (B' : List Addr), (∀ B0, (∀ a ∈ B0, a ∈ B ∧ a ∉ Bi) → Keep A H B0 A' H') → Rp K A' H' v d' B' → (∀ a ∈ B', a ∈ Bi ∨ a ∉ B) →
      ∃ B2, EnvR K A' H' σ (ρ.set i (some d')) B2 ∧ ∀ a ∈ B2, a ∈ B' ∨ (a ∈ B ∧ a ∉ Bi) := by
  induction r with
  | nil => intro i d h; simp at h
  | any r ih =>
    intro i d h
    cases i with
    | zero => simp at h
    | succ i =>
      obtain ⟨v, Bi, h1, h2, h3, k⟩ := ih (i := i) (by simpa using h)
      refine ⟨v, Bi, by simpa using h1, h2, h3, fun A' H' d' B' kp p s => ?_⟩
      obtain ⟨B2, e, s2⟩ := k A' H' d' B' kp p s
      exact ⟨B2, .any e, s2⟩
  | @val v0 d0 σ ρ B1 B2 r1 r2 n ih =>
    intro i d h
    cases i with
    | zero =>
      have e : d0 = d := by simpa using h
      subst e
      refine ⟨v0, B1, by simp, r1, fun a h => List.mem_append_left _ h, fun A' H' d' B' kp p s => ⟨B' ++ B2, .val p (r2.keep (kp B2 fun a h => ⟨List.mem_append_right _ h, fun z => n a z h⟩)) fun a h z => ?_, fun a h => ?_⟩⟩
      · rcases s a h with q | q
        · exact n a q z
        · exact q (List.mem_append_right _ z)
      · exact (List.mem_append.mp h).imp id fun z => ⟨List.mem_append_right _ z, fun y => n a y z⟩
    | succ i =>
      obtain ⟨v, Bi, h1, h2, h3, k⟩ := ih (i := i) (by simpa using h)
      refine ⟨v, Bi, by simpa using h1, h2, fun a h => List.mem_append_right _ (h3 a h), fun A' H' d' B' kp p s => ?_⟩
      obtain ⟨B3, e, s3⟩ := k A' H' d' B' (fun B0 h0 => kp B0 fun a h => ⟨List.mem_append_right _ (h0 a h).1, (h0 a h).2⟩) p (fun a h => (s a h).imp id fun z q => z (List.mem_append_right _ q))
      refine ⟨B1 ++ B3, .val (r1.keep _ (kp B1 fun a h => ⟨List.mem_append_left _ h, fun z => n a h (h3 a z)⟩)) e fun a h z => ?_, fun a h => ?_⟩
      · rcases s3 a z with q | ⟨q, _⟩
        · rcases s a q with q | q
          · exact n a h (h3 a q)
          · exact q (List.mem_append_left _ h)
        · exact n a h q
      · rcases List.mem_append.mp h with h | h
        · exact .inr ⟨List.mem_append_left _ h, fun z => n a h (h3 a z)⟩
        · exact (s3 a h).imp id fun z => ⟨List.mem_append_right _ z.1, z.2⟩
abbrev Sta := List Str × List D
def spM (K : PySem.W.Frag) (C : Addr) (R : Sta → List D → Sta → Res → Prop) : Sp := fun vs H Q E => ∃ (A0 : Own) (a : Addr) (ws : List V) (B : List Addr) (s s' : Sta) (ds : List D) (r : Res), vs = .ref a :: ws ∧ W0 A0 B H ∧ Rp K (A0.and B) H (.ref a) (.ins (.at a) C s.1 s.2) B ∧ RpAll K (A0.and B) H ws ds [] ∧ R s ds s' r ∧
  match r with
  | .ok z => ∀ v H' B' D', Step B H (D' ++ B') H' → Rp K (A0.and (D' ++ B')) H' (.ref a) (.ins (.at a) C s'.1 s'.2) B' → Rp K (A0.and (D' ++ B')) H' v z D' → (∀ x ∈ D', x ∉ B') → Q v H'
  | .er Ce fe => ∀ d H' B', Step B H B' H' → Rp K (A0.and B') H' (.ref a) (.ins (.at a) C s'.1 s'.2) B' → XdOk (A0.and B') H' d fe → E (.ref Ce) d H'
def envM (N : List Str) (a C : Addr) (s : Sta) (ds : List D) : Env := (D.ins (.at a) C s.1 s.2 :: ds).map some ++ List.replicate (N.length - (ds.length + 1)) none
def EndsM (a C : Addr) (s' : Sta) (r : Res) (o : Out) : Prop := match r with
  | .ok z => (∃ ρ, o = .rv z ρ ∧ ρ[0]? = some (some (.ins (.at a) C s'.1 s'.2))) ∨ (z = .non ∧ ∃ ρ, o = .nx ρ ∧ ρ[0]? = some (some (.ins (.at a) C s'.1 s'.2)))
  | .er Ce fe => ∃ ρ, o = .er Ce fe ρ ∧ ρ[0]? = some (some (.ins (.at a) C s'.1 s'.2))
theorem EnvR.at0 {K : PySem.W.Frag} {A : Own} {H : Hp} {σ : L2.St} {ρ : Env} {B : List Addr} {a C : Addr} {fs : List Str} {ds : List D} (r : EnvR K A H σ ρ B) (h : ρ[0]? = some (some (.ins (.at a) C fs ds))) : ∃ B1, Rp K A H (.ref a) (.ins (.at a) C fs ds) B1 ∧ ∀ b ∈ B1, b ∈ B := by
  obtain ⟨v, C1, _, h2, h3⟩ := r.get h
  obtain ⟨a', _, _, _, rfl, _, _, _, _, _, _, hat⟩ := h2.ins
  cases hat a rfl
  exact ⟨C1, h2, h3⟩
section
variable {P : Program} {w : World} {K : PySem.W.Frag} {mg : Str → Option Value} {base : Heap}
theorem ok_ofM {x qual : Str} {st : Stmt} {f C : Addr} {fd : FuncData} {N ps : List Str} {k : Nat} {R : Sta → List D → Sta → Res → Prop} (F : Fun K x qual st f fd) (S : FnScope N ps (defScope st)) (hlen : ∀ s ds s' r, R s ds s' r → ds.length + 1 = ps.length)
    (body : ∀ (cdv : Value) (A : Around) (outer : List PySem.Env) (s : Shared) (H : Hp) (E : XK), Room k (A.deeper (envOfC qual (defScope st) s.heap.objs.size f cdv)) →
      ∃ t, PSs (cxOf (L2.CX P w) P w K mg base N qual (defScope st) f cdv A outer s H E) (defBody st) t ∧ ∀ a s ds s' r, R s ds s' r → ∃ o, Run K (fun cls d _ H => E cls d H) t (envM N a C s ds) o ∧ EndsM a C s' r o) : FnOk P w K mg base (L2.CX P w) (k + 1) f fd ps (spM K C R) := by
  refine F.okX S (fun vs H Q E h => ?_) fun cdv A outer s H vs Q E hr h => ?_
  · obtain ⟨_, _, ws, _, s, s', ds, r, rfl, _, _, ra, hR, _⟩ := h
    rw [List.length_cons, ra.len, hlen s ds s' r hR]
  obtain ⟨t, ht, hrun⟩ := body cdv A outer s H E hr
  refine ⟨t, ht, ?_⟩
  obtain ⟨A0, a, ws, B, s1, s2, ds, r, rfl, w0, ri, ra, hR, q⟩ := h
  obtain ⟨o, run, he⟩ := hrun a s1 ds s2 r hR
  have e0 : EnvR K (A0.and B) H (start N (.ref a :: ws)) (envM N a C s1 ds) B := by
    unfold L2.start envM
    rw [List.length_cons, ra.len]
    have := envR_of (N.length - (ds.length + 1)) (RpAll.cons (B := B) (C := []) ri ra fun _ _ h => nomatch h)
    rw [List.append_nil] at this
    exact this
  refine run A0 H _ B _ w0 e0 ?_
  cases r with
  | ok z =>
    rcases he with ⟨ρ, rfl, h0⟩ | ⟨rfl, ρ, rfl, h0⟩
    · intro v H' σ' B' D' st r1 rz dj
      obtain ⟨B1, p1, p2⟩ := r1.at0 h0
      refine q v H' B1 D' ⟨st.keep, st.live, fun b hb => st.fresh b ((List.mem_append.mp hb).elim (List.mem_append_left _) fun z => List.mem_append_right _ (p2 b z))⟩ (p1.keep _ (keep_less (fun b z => z.imp id fun z => (List.mem_append.mp z).elim (List.mem_append_left _) fun z => List.mem_append_right _ (p2 b z)) fun b hb => .inr (List.mem_append_right _ hb)))
        (rz.keep _ (keep_less (fun b z => z.imp id fun z => (List.mem_append.mp z).elim (List.mem_append_left _) fun z => List.mem_append_right _ (p2 b z)) fun b hb => .inr (List.mem_append_left _ hb))) fun x hx z => dj x hx (p2 x z)
    · intro H' σ' B' st r1
      obtain ⟨B1, p1, p2⟩ := r1.at0 h0
      exact q .non H' B1 [] ⟨st.keep, st.live, fun b hb => st.fresh b (p2 b hb)⟩ (p1.keep _ (keep_less (fun b z => z.imp id (p2 b)) fun b hb => .inr hb)) (.sc _) fun _ h => nomatch h
  | er Ce fe =>
    obtain ⟨ρ, rfl, h0⟩ := he
    intro d H' σ' B' st r1 x
    obtain ⟨B1, p1, p2⟩ := r1.at0 h0
    exact q d H' B1 ⟨st.keep, st.live, fun b hb => st.fresh b (p2 b hb)⟩ (p1.keep _ (keep_less (fun b z => z.imp id (p2 b)) fun b hb => .inr hb)) (x.less fun b z => z.imp id (p2 b))
end
/-- an expression that changes what the name i owns -/
def EvU (K : PySem.W.Frag) (te : TE) (ρ : Env) (i : Nat) (d' z : D) : Prop := ∀ (A0 : Own) (H : Hp) (σ : L2.St) (B : List Addr), W0 A0 B H → EnvR K (A0.and B) H σ ρ B → ∀ Q : VK,
  (∀ v H' B' D', Step B H (D' ++ B') H' → EnvR K (A0.and (D' ++ B')) H' σ (ρ.set i (some d')) B' → Rp K (A0.and (D' ++ B')) H' v z D' → (∀ x ∈ D', x ∉ B') → Q v H') → te σ H Q
/-- .. and raises -/
def EvUX (K : PySem.W.Frag) (W : WX) (te : TE) (ρ : Env) (i : Nat) (d' : D) (C : Addr) (fs : List (Str × V)) : Prop := ∀ (A0 : Own) (H : Hp) (σ : L2.St) (B : List Addr), W0 A0 B H → EnvR K (A0.and B) H σ ρ B →
  (∀ d H' B', Step B H B' H' → EnvR K (A0.and B') H' σ (ρ.set i (some d')) B' → XdOk (A0.and B') H' d fs → W (.ref C) d σ H') → ∀ Q : VK, te σ H Q
section
variable {K : PySem.W.Frag} {ρ ρ' : Env} {W : WX} {t : TA} {te : TE} {es : List D} {z d' : D} {R : Sta → List D → Sta → Res → Prop} {E : L2.St → XK} {C Ce : Addr} {fe : List (Str × V)} {fl : Fl} {m : Str} {s s' : Sta} {i j : Nat}
/-- the call, both ends of it -/
theorem meth_upd (hi : ρ[i]? = some (some (.ins fl C s.1 s.2))) (hs : fl.isSh = false) (hm : m ∉ s.1) (ha : EvA K t ρ es) {r : Res} (hR : R s (D.frzs es) s' r) {A0 : Own} {H : Hp} {σ : L2.St} {B : List Addr} (w : W0 A0 B H) (rr : EnvR K (A0.and B) H σ ρ B) {Q : VK}
    (q : match r with
      | .ok z => ∀ v H' B' D', Step B H (D' ++ B') H' → EnvR K (A0.and (D' ++ B')) H' σ (ρ.set i (some (.ins fl C s'.1 s'.2))) B' → Rp K (A0.and (D' ++ B')) H' v z D' → (∀ x ∈ D', x ∉ B') → Q v H'
      | .er Ce fe => ∀ d H' B', Step B H B' H' → EnvR K (A0.and B') H' σ (ρ.set i (some (.ins fl C s'.1 s'.2))) B' → XdOk (A0.and B') H' d fe → E σ (.ref Ce) d H') :
    tMethS C m (spM K C R) E (tVar i) t σ H Q := by
  obtain ⟨v0, Bi0, h1, p0, _, _⟩ := rr.mut2 hi
  obtain ⟨a, dx, xs, _, rfl, ha0, _⟩ := p0.ins
  refine ⟨.ref a, h1, a, dx, _, rfl, ha0, zip_no _ _ hm, ha (A0.and B) H σ B (w.wa rr) rr _ fun ws H1 C1 e f p => ?_⟩
  obtain ⟨w1, r1⟩ := et_step (w.wa rr) rr e
  obtain ⟨v1, Bi, h1', p1, sBi, k⟩ := r1.mut2 hi
  rw [h1] at h1'
  cases h1'
  obtain ⟨a', dx', xs', B1, ea, hA1, hlen, ra, _, _, ho, hat⟩ := p1.ins
  cases ea
  obtain ⟨hBi, na, hAa⟩ := ho hs
  let A1 : Own := fun x => A0 x ∨ (x ∈ B ∧ x ∉ Bi)
  have eqv : ∀ x, (A1.and Bi) x ↔ (A0.and B) x := fun x => by
    constructor
    · rintro ((h | ⟨h, _⟩) | h)
      · exact .inl h
      · exact .inr h
      · exact .inr (sBi x h)
    · rintro (h | h)
      · exact .inl (.inl h)
      · by_cases hx : x ∈ Bi
        · exact .inr hx
        · exact .inl (.inr ⟨h, hx⟩)
  have wA : W0 A1 Bi H1 := ⟨fun x h => h.elim (fun h => e.ne (w.live x h)) fun h => (r1.tracked x h.1).1, fun x h => h.elim (fun h z => w.apart x h (sBi x z)) fun h => h.2⟩
  have trB : ∀ x ∈ B, H1 x ≠ none := fun x h => (r1.tracked x h).1
  have ri : Rp K (A1.and Bi) H1 (.ref a) (.ins (.at a) C s.1 s.2) Bi := by
    rw [hBi]
    refine Rp.insMk (fl := .at a) rfl (fun b e => by cases e; rfl) hA1 (.inr List.mem_cons_self) na hlen (ra.keep _ ⟨fun x o h n => ⟨h, fun z => n ((eqv x).mp (by rw [hBi]; exact z))⟩, fun x o h e2 => ⟨e2, .inr (List.mem_cons_of_mem _ h)⟩⟩)
  have rw_ : RpAll K (A1.and Bi) H1 ws (D.frzs es) [] := p.loose _ ⟨fun x o h n => ⟨h, fun z => n (.inl ((eqv x).mp z))⟩, fun x o h e2 => ⟨e2, fun z => (w.wa rr) x ((eqv x).mp z) (f x h)⟩⟩
  -- behind the call
  have back : ∀ (H' : Hp) (L B' : List Addr), (∀ x ∈ B', x ∈ L) → Step Bi H1 L H' → Rp K (A1.and L) H' (.ref a) (.ins (.at a) C s'.1 s'.2) B' →
      ∃ B2, EnvR K (A1.and L) H' σ (ρ.set i (some (.ins fl C s'.1 s'.2))) B2 ∧ (∀ x ∈ B2, x ∈ B' ∨ (x ∈ B ∧ x ∉ Bi)) := fun H' L B' hL st rp => by
    refine k (A1.and L) H' (.ins fl C s'.1 s'.2) B' (fun B0 h0 => ⟨fun x o h n => ⟨st.keep x o h fun z => n (.inr (sBi x z)), fun z => ?_⟩, fun x o hx h => ⟨st.keep x o h (h0 x hx).2, .inl (.inr (h0 x hx))⟩⟩) ?_ fun x hx => ?_
    · rcases z with z | z
      · exact n ((eqv x).mp (.inl z))
      · rcases st.fresh x z with y | y
        · exact n (.inr (sBi x y))
        · rw [y] at h; cases h
    · obtain ⟨a2, dx2, xs2, B3, ea2, g1, g2, g3, _, _, g4, _⟩ := rp.ins
      cases ea2
      obtain ⟨rfl, g5, g6⟩ := g4 rfl
      exact Rp.insMk hs (fun b eb => hat b eb) g1 g6 g5 g2 g3
    · exact (st.fresh x (hL x hx)).imp id fun y z => trB x z y
  refine ⟨A1, a, ws, Bi, s, s', D.frzs es, r, rfl, wA, ri, rw_, hR, ?_⟩
  cases r with
  | ok z =>
    intro v H' B' D' st rp rz dj
    obtain ⟨B2, g1, g2⟩ := back H' (D' ++ B') B' (fun x h => List.mem_append_right _ h) st rp
    have less : ∀ x, (A0.and (D' ++ B2)) x → (A1.and (D' ++ B')) x := fun x h => h.elim (fun h => .inl (.inl h)) fun h => (List.mem_append.mp h).elim (fun h => .inr (List.mem_append_left _ h)) fun h => (g1.tracked x h).2
    refine q v H' B2 D' ⟨fun x o h n => st.keep x o (e x o h) fun z => n (sBi x z), fun x h => st.live x (e.ne h), fun x hx => ?_⟩ (g1.keep (keep_less less fun x hx => .inr (List.mem_append_right _ hx))) (rz.keep _ (keep_less less fun x hx => .inr (List.mem_append_left _ hx))) fun x hx hz => ?_
    · rcases List.mem_append.mp hx with hx | hx
      · exact (st.fresh x (List.mem_append_left _ hx)).imp (sBi x) e.back
      · rcases g2 x hx with y | y
        · exact (st.fresh x (List.mem_append_right _ y)).imp (sBi x) e.back
        · exact .inl y.1
    · rcases g2 x hz with y | y
      · exact dj x hx y
      · rcases st.fresh x (List.mem_append_left _ hx) with u | u
        · exact y.2 u
        · exact trB x y.1 u
  | er Ce fe =>
    intro d H' B' st rp x
    obtain ⟨B2, g1, g2⟩ := back H' B' B' (fun x h => h) st rp
    have less : ∀ y, (A0.and B2) y → (A1.and B') y := fun y h => h.elim (fun h => .inl (.inl h)) fun h => (g1.tracked y h).2
    refine q d H' B2 ⟨fun x o h n => st.keep x o (e x o h) fun z => n (sBi x z), fun x h => st.live x (e.ne h), fun x hx => ?_⟩ (g1.keep (keep_less less fun x hx => .inr hx)) (x.less less)
    rcases g2 x hx with y | y
    · exact (st.fresh x y).imp (sBi x) e.back
    · exact .inl y.1
theorem evu_meth (hi : ρ[i]? = some (some (.ins fl C s.1 s.2))) (hs : fl.isSh = false) (hm : m ∉ s.1) (ha : EvA K t ρ es) (hR : R s (D.frzs es) s' (.ok z)) : EvU K (tMethS C m (spM K C R) E (tVar i) t) ρ i (.ins fl C s'.1 s'.2) z := fun A0 H σ B w r Q q => meth_upd hi hs hm ha hR w r q
theorem evux_meth (hi : ρ[i]? = some (some (.ins fl C s.1 s.2))) (hs : fl.isSh = false) (hm : m ∉ s.1) (ha : EvA K t ρ es) (hR : R s (D.frzs es) s' (.er Ce fe)) : EvUX K W (tMethS C m (spM K C R) (WE W) (tVar i) t) ρ i (.ins fl C s'.1 s'.2) Ce fe := fun A0 H σ B w r q Q => meth_upd hi hs hm ha hR w r q
theorem run_dropU (h : EvU K te ρ i d' z) : Run K W (tDrop te) ρ (.nx (ρ.set i (some d'))) := fun A0 H σ B E w r p =>
  h A0 H σ B w r _ fun v H' B' D' st r1 rz dj => p H' σ B' ⟨st.keep, st.live, fun x hx => st.fresh x (List.mem_append_right _ hx)⟩ (r1.keep (keep_less (fun x z => z.imp id (List.mem_append_right _)) fun x hx => .inr hx))
theorem run_asgU (h : EvU K te ρ i d' z) : Run K W (tAsg te (gName j)) ρ (.nx ((ρ.set i (some d')).set j (some z))) := fun A0 H σ B E w r p =>
  h A0 H σ B w r _ fun v H' B' D' st r1 rz dj => by
    obtain ⟨B2, r2, s2⟩ := r1.set rz dj j
    have sub : ∀ x ∈ B2, x ∈ D' ++ B' := fun x hx => List.mem_append.mpr (s2 x hx)
    exact p H' _ B2 ⟨st.keep, st.live, fun x hx => st.fresh x (sub x hx)⟩ (r2.keep (keep_less (fun x z => z.imp id (sub x)) fun x hx => .inr hx))
theorem run_retU (h : EvU K te ρ i d' z) : Run K W (tRet te) ρ (.rv z (ρ.set i (some d'))) := fun A0 H σ B E w r p => h A0 H σ B w r _ fun v H' B' D' st r1 rz dj => p v H' σ B' D' st r1 rz dj
theorem run_dropUX (h : EvUX K W te ρ i d' Ce fe) : Run K W (tDrop te) ρ (.er Ce fe (ρ.set i (some d'))) := fun A0 H σ B E w r p => h A0 H σ B w r (fun d H' B' st r1 x => p d H' σ B' st r1 x) _
theorem run_asgUX {g : TG} (h : EvUX K W te ρ i d' Ce fe) : Run K W (tAsg te g) ρ (.er Ce fe (ρ.set i (some d'))) := fun A0 H σ B E w r p => h A0 H σ B w r (fun d H' B' st r1 x => p d H' σ B' st r1 x) _
theorem run_retUX (h : EvUX K W te ρ i d' Ce fe) : Run K W (tRet te) ρ (.er Ce fe (ρ.set i (some d'))) := fun A0 H σ B E w r p => h A0 H σ B w r (fun d H' B' st r1 x => p d H' σ B' st r1 x) _
end
section
variable {X : Cx} {CX : CXT} {k : Nat} {f : Addr} {fd : FuncData} {ps : List Str} {sp : Sp} {E : L2.St → XK} {x : Str} {p pos : Pos}
theorem pe_callS0 (F : FnOk X.prog X.w X.K X.mg X.base CX k f fd ps sp) (hr : Room k X.A) (hg : Gl X x) (hm : X.mg x = some (.ref f)) (hk : PySem.W.keepIn X.K (.ref f) = true) (hb : Binds X.K fd ps []) (hx : ∀ σ, PassesAt CX X σ (E σ)) (hdb : (x == ("__debug__" : Str)) = false := by decide) :
    PE X (.Call (.Name x p) [] [] pos) (tCallS sp E tNil) := by
  refine ⟨fun pins s σ H Q I h => wpAny_Call_Name_kw (ld_glob I hg hm (PySem.W.callWith_K0 I.kIn hk (run_fnS (us := []) F hr hb (hx σ) I .nil h)) hdb)⟩
end
theorem ev_mk1 {K : PySem.W.Frag} {ρ : Env} {te : TE} {d : D} {C : Addr} (h : EvS K te ρ d) : EvM K (fun σ H Q => te σ H fun _ H1 => Q (.ref C) none H1) ρ C [] := fun A H σ B w r Q q => h A H σ B w r _ fun v H1 C1 e f p => q none H1 e (.inl ⟨rfl, rfl⟩)
/-- f'..' of a text's parts -/
def EvJ (K : PySem.W.Frag) (ts : List TE) (ρ : Env) (acc out : Str) : Prop := ∀ (A : Own) (H : Hp) (σ : L2.St) (B : List Addr), WA A H → EnvR K A H σ ρ B → ∀ Q : Str → Hp → Prop, (∀ H', Ex H H' → Q out H') → tJs ts acc σ H Q
theorem evj_nil {K : PySem.W.Frag} {ρ : Env} {acc : Str} : EvJ K [] ρ acc acc := fun A H σ B w r Q q => q H Ex.rfl'
theorem evj_cons {K : PySem.W.Frag} {ρ : Env} {acc out y : Str} {t : TE} {ts : List TE} (h : EvS K t ρ (.str y)) (hl : (acc ++ y).length ≤ sizeLine) (hr : EvJ K ts ρ (acc ++ y) out) : EvJ K (t :: ts) ρ acc out := fun A H σ B w r Q q => h A H σ B w r _ fun v H1 C e f p => by
  cases p
  obtain ⟨w1, r1⟩ := et_step w r e
  exact ⟨y, rfl, hl, hr A H1 σ B w1 r1 Q fun H2 e2 => q H2 (e.tr e2)⟩
theorem ev_joined {K : PySem.W.Frag} {ρ : Env} {out : Str} {ts : List TE} (h : EvJ K ts ρ Str.empty out) : EvS K (fun σ H Q => tJs ts Str.empty σ H fun out H1 => Q (.str out) H1) ρ (.str out) := fun A H σ B w r Q q =>
  h A H σ B w r _ fun H1 e => q (.str out) H1 [] e (fun _ h => nomatch h) (.sc _)
theorem ev_fmtI {K : PySem.W.Frag} {ρ : Env} {te : TE} {i : Int} (h : EvS K te ρ (.int i)) (hi : i.natAbs.log2 < 1920) : EvS K (tFmt te) ρ (.str (toString i)) := fun A H σ B w r Q q => h A H σ B w r _ fun v H1 C e f p => by
  cases p
  exact .inr ⟨i, rfl, hi, q _ H1 [] e (fun _ h => nomatch h) (.sc _)⟩
theorem ev_fmtS {K : PySem.W.Frag} {ρ : Env} {te : TE} {y : Str} (h : EvS K te ρ (.str y)) (hy : y.length ≤ sizeLine) : EvS K (tFmt te) ρ (.str y) := fun A H σ B w r Q q => h A H σ B w r _ fun v H1 C e f p => by
  cases p
  exact .inl ⟨y, rfl, hy, q _ H1 [] e (fun _ h => nomatch h) (.sc _)⟩
end FP

namespace FP
open PySem PySem.Spec PyProof.Rows L2

/-! ### pure data: what a program's values are, without who owns what -/
inductive P where
  | sc (x : V)
  | cls (c : Nat)
  | lst (ps : List P)
  | tup (ps : List P)
  | ins (c : Nat) (fs : List Str) (ps : List P)
  | dK (ks : List Key) (ps : List P)
  | dT (ks : List (List Key)) (ps : List P)
  | exc (c : Nat) (fs : List (Str × V))
namespace P
abbrev int (i : Int) : P := .sc (.int i)
abbrev str (s : Str) : P := .sc (.str s)
abbrev bl (b : Bool) : P := .sc (.bl b)
abbrev non : P := .sc .non
abbrev ty (n : String) : P := .sc (.ty n)
end P
/-- who owns: s shared (all of it), o owned with every item alike, f owned with the items one by one, me the object that a method is asked of -/
inductive W where
  | s
  | o (w : W)
  | f (ws : List W)
  | me (a : Addr) (ws : List W)
namespace W
def own : W → Bool
  | .s => false
  | _ => true
def fl : W → Fl
  | .s => .sh
  | .o _ => .ow
  | .f _ => .ow
  | .me a _ => .at a
def kid : W → Nat → W
  | .s, _ => .s
  | .o w, _ => w
  | .f ws, i => ws.getD i .s
  | .me _ ws, i => ws.getD i .s
end W
section
variable (A : Nat → Addr)
mutual
def emb : W → P → D
  | _, .sc x => .sc x
  | _, .cls c => .sc (.ref (A c))
  | w, .lst ps => .lst w.own (embs w 0 ps)
  | w, .tup ps => .tup w.own (embs w 0 ps)
  | w, .ins c fs ps => .ins w.fl (A c) fs (embs w 0 ps)
  | w, .dK ks ps => .dK w.own ks (embs w 0 ps)
  | w, .dT ks ps => .dT w.own ks (embs w 0 ps)
  | _, .exc c fs => .exc (A c) fs
def embs : W → Nat → List P → List D
  | _, _, [] => []
  | w, i, p :: ps => emb (w.kid i) p :: embs w (i + 1) ps
end
end
section
variable {A : Nat → Addr}
@[simp] theorem emb_sc {w : W} {x : V} : emb A w (.sc x) = .sc x := by rw [emb]
@[simp] theorem emb_cls {w : W} {c : Nat} : emb A w (.cls c) = .sc (.ref (A c)) := by rw [emb]
theorem emb_lst {w : W} {ps : List P} : emb A w (.lst ps) = .lst w.own (embs A w 0 ps) := by rw [emb]
theorem emb_tup {w : W} {ps : List P} : emb A w (.tup ps) = .tup w.own (embs A w 0 ps) := by rw [emb]
theorem emb_ins {w : W} {c : Nat} {fs : List Str} {ps : List P} : emb A w (.ins c fs ps) = .ins w.fl (A c) fs (embs A w 0 ps) := by rw [emb]
theorem emb_exc {w : W} {c : Nat} {fs : List (Str × V)} : emb A w (.exc c fs) = .exc (A c) fs := by rw [emb]
theorem embs_s : ∀ (ps : List P) (i : Nat), embs A .s i ps = ps.map (emb A .s)
  | [], _ => by rw [embs]; rfl
  | p :: ps, i => by rw [embs, embs_s ps]; rfl
theorem embs_o {w : W} : ∀ (ps : List P) (i : Nat), embs A (.o w) i ps = ps.map (emb A w)
  | [], _ => by rw [embs]; rfl
  | p :: ps, i => by rw [embs, embs_o ps]; rfl
theorem embs_len {w : W} : ∀ (ps : List P) (i : Nat), (embs A w i ps).length = ps.length
  | [], _ => by rw [embs]; rfl
  | p :: ps, i => by rw [embs, List.length_cons, embs_len ps, List.length_cons]
theorem embs_get {w : W} : ∀ (ps : List P) (i j : Nat), (embs A w i ps)[j]? = ps[j]?.map (emb A (w.kid (i + j)))
  | [], _, _ => by rw [embs]; simp
  | p :: ps, i, 0 => by rw [embs]; simp
  | p :: ps, i, j + 1 => by
    rw [embs, List.getElem?_cons_succ, List.getElem?_cons_succ, embs_get ps, show i + 1 + j = i + (j + 1) by omega]
mutual
theorem emb_frz : ∀ (w : W) (p : P), (emb A w p).frz = emb A .s p
  | _, .sc x => by rw [emb, emb]; rfl
  | _, .cls c => by rw [emb, emb]; rfl
  | w, .lst ps => by rw [emb, emb, D.frz, embs_frz w 0 0 ps]; rfl
  | w, .tup ps => by rw [emb, emb, D.frz, embs_frz w 0 0 ps]; rfl
  | w, .ins c fs ps => by rw [emb, emb, D.frz, embs_frz w 0 0 ps]; rfl
  | w, .dK ks ps => by rw [emb, emb, D.frz, embs_frz w 0 0 ps]; rfl
  | w, .dT ks ps => by rw [emb, emb, D.frz, embs_frz w 0 0 ps]; rfl
  | _, .exc c fs => by rw [emb, emb, D.frz]
theorem embs_frz : ∀ (w : W) (i j : Nat) (ps : List P), D.frzs (embs A w i ps) = embs A .s j ps
  | _, _, _, [] => by rw [embs, embs, D.frzs]
  | w, i, j, p :: ps => by rw [embs, embs, D.frzs, emb_frz _ p, embs_frz w (i + 1) (j + 1) ps]; rfl
end
theorem emb_shd (p : P) : (emb A .s p).shd = true := by
  rw [← emb_frz .s p]
  exact D.shd_frz _
theorem frzs_embs {w : W} {i : Nat} {ps : List P} : D.frzs (embs A w i ps) = ps.map (emb A .s) := by rw [embs_frz w i 0 ps, embs_s]
theorem frzs_map_s {ps : List P} : D.frzs (ps.map (emb A .s)) = ps.map (emb A .s) := by
  have := frzs_embs (A := A) (w := .s) (i := 0) (ps := ps)
  rwa [embs_s] at this

/-! names -/
abbrev PEnv := List (Option P)
def embE (A : Nat → Addr) : List W → PEnv → FP.Env
  | _, [] => []
  | δ, x :: ρ => x.map (emb A (δ.headD .s)) :: embE A δ.tail ρ
theorem embE_get : ∀ (δ : List W) (ρ : PEnv) (i : Nat), (embE A δ ρ)[i]? = ρ[i]?.map (Option.map (emb A (δ.getD i .s)))
  | _, [], _ => by rw [embE]; simp
  | [], x :: ρ, 0 => by rw [embE]; rfl
  | w :: δ, x :: ρ, 0 => by rw [embE]; rfl
  | [], x :: ρ, i + 1 => by
    rw [embE, List.getElem?_cons_succ, List.getElem?_cons_succ, embE_get]
    rfl
  | w :: δ, x :: ρ, i + 1 => by
    rw [embE, List.getElem?_cons_succ, List.getElem?_cons_succ, embE_get]
    rfl
theorem embE_some {δ : List W} {ρ : PEnv} {i : Nat} {p : P} (h : ρ[i]? = some (some p)) : (embE A δ ρ)[i]? = some (some (emb A (δ.getD i .s) p)) := by
  rw [embE_get, h]
  rfl
theorem frzE_embE : ∀ (δ : List W) (ρ : PEnv), frzE (embE A δ ρ) = embE A [] ρ
  | _, [] => by rw [embE, embE]; rfl
  | δ, x :: ρ => by
    rw [embE, embE]
    show _ :: frzE _ = _
    rw [frzE_embE]
    cases x with
    | none => rfl
    | some p =>
      show some (emb A _ p).frz :: _ = _
      rw [emb_frz]
      rfl
theorem embE_set : ∀ (δ δ' : List W) (ρ : PEnv) (i : Nat) (w : W) (p : P), (δ'.getD i .s = w) → (∀ j, j ≠ i → δ'.getD j .s = δ.getD j .s) → embE A δ' (ρ.set i (some p)) = (embE A δ ρ).set i (some (emb A w p))
  | δ, δ', [], _, _, _, _, _ => by simp [embE]
  | δ, δ', x :: ρ, 0, w, p, h, k => by
    rw [List.set_cons_zero, embE, embE, List.set_cons_zero]
    have e1 : δ'.headD .s = w := by rw [← h]; cases δ' <;> rfl
    have e2 : ∀ j, δ'.tail.getD j .s = δ.tail.getD j .s := fun j => by
      have := k (j + 1) (by omega)
      cases δ' <;> cases δ <;> simpa using this
    rw [e1]
    refine congrArg _ ?_
    clear h k e1
    generalize δ'.tail = a at e2 ⊢
    generalize δ.tail = b at e2 ⊢
    induction ρ generalizing a b with
    | nil => simp [embE]
    | cons y ρ ih =>
      rw [embE, embE, ih a.tail b.tail fun j => by have := e2 (j + 1); cases a <;> cases b <;> simpa using this]
      have := e2 0
      have : a.headD .s = b.headD .s := by cases a <;> cases b <;> simpa using this
      rw [this]
  | δ, δ', x :: ρ, i + 1, w, p, h, k => by
    rw [List.set_cons_succ, embE, embE, List.set_cons_succ]
    have e1 : δ'.headD .s = δ.headD .s := by
      have := k 0 (by omega)
      cases δ' <;> cases δ <;> simpa using this
    rw [e1, embE_set δ.tail δ'.tail ρ i w p (by cases δ' <;> simpa using h) fun j hj => by
      have := k (j + 1) (by omega)
      cases δ' <;> cases δ <;> simpa using this]
theorem embE_congr : ∀ (δ δ' : List W) (ρ : PEnv), (∀ j, δ'.getD j .s = δ.getD j .s) → embE A δ' ρ = embE A δ ρ
  | δ, δ', [], _ => by simp [embE]
  | δ, δ', x :: ρ, k => by
    rw [embE, embE, embE_congr δ.tail δ'.tail ρ fun j => by have := k (j + 1); cases δ' <;> cases δ <;> simpa using this]
    have := k 0
    have : δ'.headD .s = δ.headD .s := by cases δ' <;> cases δ <;> simpa using this
    rw [this]
theorem getD_set {δ : List W} {i : Nat} {w : W} (h : i < δ.length) : (δ.set i w).getD i .s = w := by
  rw [List.getD_eq_getElem?_getD, List.getElem?_set_self h]
  rfl
theorem getD_set_ne {δ : List W} {i j : Nat} {w : W} (h : j ≠ i) : (δ.set i w).getD j .s = δ.getD j .s := by
  rw [List.getD_eq_getElem?_getD, List.getElem?_set_ne (Ne.symm h), ← List.getD_eq_getElem?_getD]
theorem embE_setS {δ : List W} {ρ : PEnv} {i : Nat} {w : W} {p : P} (h : (δ.set i w).getD i .s = w) : embE A (δ.set i w) (ρ.set i (some p)) = (embE A δ ρ).set i (some (emb A w p)) :=
  embE_set δ _ ρ i w p h fun _ hj => getD_set_ne hj
theorem embE_none : ∀ (δ : List W) (ρ : PEnv) (i : Nat), embE A δ (ρ.set i none) = (embE A δ ρ).set i none
  | _, [], _ => by simp [embE]
  | δ, x :: ρ, 0 => by rw [List.set_cons_zero, embE, embE, List.set_cons_zero]; rfl
  | δ, x :: ρ, i + 1 => by rw [List.set_cons_succ, embE, embE, List.set_cons_succ, embE_none]
theorem embE_len : ∀ (δ : List W) (ρ : PEnv), (embE A δ ρ).length = ρ.length
  | _, [] => by rw [embE]; rfl
  | δ, x :: ρ => by rw [embE, List.length_cons, embE_len, List.length_cons]
end
end FP

namespace FP
open PySem PySem.Spec PyProof.Rows L2

/-! ### what an expression comes to, told of pure data: a plain Lean function of the names -/
inductive PR where
  | ok (p : P)
  | er (c : Nat) (fs : List (Str × V))
abbrev R := Option PR
abbrev ret (p : P) : R := some (.ok p)
def bnd : R → (P → R) → R
  | some (.ok p), k => k p
  | some (.er c fs), _ => some (.er c fs)
  | none, _ => none
@[simp] theorem bnd_ok {p : P} {k : P → R} : bnd (some (.ok p)) k = k p := rfl
@[simp] theorem bnd_er {c : Nat} {fs : List (Str × V)} {k : P → R} : bnd (some (.er c fs)) k = some (.er c fs) := rfl
@[simp] theorem bnd_none {k : P → R} : bnd none k = none := rfl
theorem bnd_eq_ok {r : R} {k : P → R} {q : P} (h : bnd r k = some (.ok q)) : ∃ p, r = some (.ok p) ∧ k p = some (.ok q) := by
  match r, h with
  | some (.ok p), h => exact ⟨p, rfl, h⟩
theorem bnd_eq_er {r : R} {k : P → R} {c : Nat} {fs : List (Str × V)} (h : bnd r k = some (.er c fs)) : r = some (.er c fs) ∨ ∃ p, r = some (.ok p) ∧ k p = some (.er c fs) := by
  match r, h with
  | some (.ok p), h => exact .inr ⟨p, rfl, h⟩
  | some (.er _ _), h => exact .inl h
/-- lists of answers -/
inductive PRs where
  | ok (ps : List P)
  | er (c : Nat) (fs : List (Str × V))
abbrev X := PEnv → R
def xArgs : List X → PEnv → Option PRs
  | [], _ => some (.ok [])
  | f :: fs, ρ => match f ρ with
    | some (.ok p) => match xArgs fs ρ with
      | some (.ok ps) => some (.ok (p :: ps))
      | o => o
    | some (.er c fe) => some (.er c fe)
    | none => none
def bnds : Option PRs → (List P → R) → R
  | some (.ok ps), k => k ps
  | some (.er c fs), _ => some (.er c fs)
  | none, _ => none
@[simp] theorem bnds_ok {ps : List P} {k : List P → R} : bnds (some (.ok ps)) k = k ps := rfl
@[simp] theorem bnds_er {c : Nat} {fs : List (Str × V)} {k : List P → R} : bnds (some (.er c fs)) k = some (.er c fs) := rfl
@[simp] theorem xArgs_nil {ρ : PEnv} : xArgs [] ρ = some (.ok []) := rfl
theorem xArgs_cons {f : X} {fs : List X} {ρ : PEnv} : xArgs (f :: fs) ρ = match f ρ with
    | some (.ok p) => match xArgs fs ρ with
      | some (.ok ps) => some (.ok (p :: ps))
      | o => o
    | some (.er c fe) => some (.er c fe)
    | none => none := rfl
def xC (v : V) : X := fun _ => ret (.sc v)
def xCls (c : Nat) : X := fun _ => ret (.cls c)
def xK (p : P) : X := fun _ => ret p
def xV (i : Nat) : X := fun ρ => match ρ.getD i none with
  | some p => ret p
  | none => none
def xOp (q : P → P → Option P) (f g : X) : X := fun ρ => bnd (f ρ) fun x => bnd (g ρ) fun y => (q x y).map .ok
def xUn (q : P → Option P) (f : X) : X := fun ρ => bnd (f ρ) fun x => (q x).map .ok
def xCB (q : List P → Option P) (fs : List X) : X := fun ρ => bnds (xArgs fs ρ) fun ps => (q ps).map .ok
def xTup (fs : List X) : X := fun ρ => bnds (xArgs fs ρ) fun ps => if ps.length ≤ 1000000 then ret (.tup ps) else none
def xLst (fs : List X) : X := fun ρ => bnds (xArgs fs ρ) fun ps => if ps.length ≤ 1000000 then ret (.lst ps) else none
def xCall (q : List P → R) (fs : List X) : X := fun ρ => bnds (xArgs fs ρ) q
/-- a test's answer -/
def tst : R → (Bool → R) → R
  | some (.ok (.sc (.bl b))), k => k b
  | some (.ok _), _ => none
  | some (.er c fs), _ => some (.er c fs)
  | none, _ => none
@[simp] theorem tst_bl {b : Bool} {k : Bool → R} : tst (some (.ok (.sc (.bl b)))) k = k b := rfl
@[simp] theorem tst_er {c : Nat} {fs : List (Str × V)} {k : Bool → R} : tst (some (.er c fs)) k = some (.er c fs) := rfl
def xIf (t f g : X) : X := fun ρ => tst (t ρ) fun b => if b = true then f ρ else g ρ
/-- truth -/
def truP : P → Option Bool
  | .sc .non => some false
  | .sc (.bl b) => some b
  | .sc (.int i) => some (i != 0)
  | .sc (.str s) => if s.length ≤ sizeLine then some ((s.length : Int) != 0) else none
  | .lst ps => some !ps.isEmpty
  | .tup ps => some !ps.isEmpty
  | _ => none
def xTru (f : X) : X := fun ρ => bnd (f ρ) fun x => (truP x).map fun b => .ok (.bl b)
def xNot (f : X) : X := fun ρ => bnd (f ρ) fun x => (truP x).map fun b => .ok (.bl !b)
def xAnd (f g : X) : X := fun ρ => bnd (f ρ) fun x => match truP x with
  | some true => g ρ
  | some false => ret x
  | none => none
def xOr (f g : X) : X := fun ρ => bnd (f ρ) fun x => match truP x with
  | some false => g ρ
  | some true => ret x
  | none => none
/-- tests joined -/
def xTNot (f : X) : X := fun ρ => tst (f ρ) fun b => ret (.bl !b)
def xTAnd (f g : X) : X := fun ρ => tst (f ρ) fun b => if b = true then g ρ else ret (.bl false)
def xTOr (f g : X) : X := fun ρ => tst (f ρ) fun b => if b = true then ret (.bl true) else g ρ
/-- a scalar alone -/
def isSc : P → Bool
  | .sc _ => true
  | .cls _ => true
  | _ => false
def xSc (f : X) : X := fun ρ => match f ρ with
  | some (.ok x) => if isSc x = true then ret x else none
  | _ => none
def xChain (q r : P → P → Option P) (f g h : X) : X := fun ρ => bnd (f ρ) fun x => bnd (g ρ) fun y => match q x y with
  | some (.sc (.bl true)) => bnd (h ρ) fun z => (r y z).map .ok
  | some (.sc (.bl false)) => ret (.bl false)
  | _ => none

structure XOk (K : PySem.W.Frag) (A : Nat → Addr) (U : WX) (te : TE) (δ : List W) (f : X) (w : W) : Prop where
  ok : ∀ ρ p, f ρ = some (.ok p) → EvS K te (embE A δ ρ) (emb A w p)
  er : ∀ ρ c fs, f ρ = some (.er c fs) → EvX K U te (embE A δ ρ) (A c) fs
structure AOk (K : PySem.W.Frag) (A : Nat → Addr) (U : WX) (ta : TA) (δ : List W) (fs : List X) (w : W) (i : Nat) : Prop where
  ok : ∀ ρ ps, xArgs fs ρ = some (.ok ps) → EvA K ta (embE A δ ρ) (embs A w i ps)
  er : ∀ ρ c fe, xArgs fs ρ = some (.er c fe) → ∀ (A0 : Own) (H : Hp) (σ : L2.St) (B : List Addr), WA A0 H → EnvR K A0 H σ (embE A δ ρ) B → (∀ d H', Ex H H' → XdOk A0 H' d fe → U (.ref (A c)) d σ H') → ∀ Q, ta σ H Q
def EvTX (K : PySem.W.Frag) (U : WX) (tt : TT) (ρ : Env) (C : Addr) (fs : List (Str × V)) : Prop := ∀ (A : Own) (H : Hp) (σ : L2.St) (B : List Addr), WA A H → EnvR K A H σ ρ B → (∀ d H', Ex H H' → XdOk A H' d fs → U (.ref C) d σ H') → ∀ Q, tt σ H Q
structure TOk (K : PySem.W.Frag) (A : Nat → Addr) (U : WX) (tt : TT) (δ : List W) (f : X) : Prop where
  ok : ∀ ρ b, f ρ = some (.ok (.sc (.bl b))) → EvT K tt (embE A δ ρ) b
  er : ∀ ρ c fs, f ρ = some (.er c fs) → EvTX K U tt (embE A δ ρ) (A c) fs
section
variable {K : PySem.W.Frag} {A : Nat → Addr} {U : WX} {te ta tb tc : TE} {tt tu : TT} {δ : List W} {f g h : X} {w w1 w2 : W} {fs : List X} {i : Nat}
/-- a step, then more -/
theorem ev_more {ρ : Env} {d : D} {A0 : Own} {H : Hp} {σ : L2.St} {B : List Addr} {Q : VK} (h1 : EvS K ta ρ d) (w : WA A0 H) (rr : EnvR K A0 H σ ρ B)
    (k : ∀ v1 H1 C1, Ex H H1 → Fresh H C1 → Rp K (A0.and C1) H1 v1 d C1 → WA (A0.and C1) H1 → EnvR K (A0.and C1) H1 σ ρ B → Q v1 H1) : ta σ H Q :=
  h1 A0 H σ B w rr _ fun v1 H1 C1 e1 f1 p1 => k v1 H1 C1 e1 f1 p1 (w.and e1 fun a h => (p1.tracked _ a h).1) (rr.keep (keep_and w e1 f1 fun a h => (rr.tracked a h).2))
theorem hW_more {σ : L2.St} {A0 : Own} {H H1 : Hp} {C1 : List Addr} {C : Addr} {fe : List (Str × V)} (e1 : Ex H H1) (hW : ∀ d H', Ex H H' → XdOk A0 H' d fe → U (.ref C) d σ H') : ∀ d H', Ex H1 H' → XdOk (A0.and C1) H' d fe → U (.ref C) d σ H' := fun d H' e x => hW d H' (e1.tr e) (x.less fun _ => .inl)
theorem evx_op2 {ρ : Env} {d : D} {C : Addr} {fe : List (Str × V)} {r : R2} (h1 : EvS K ta ρ d) (h2 : EvX K U tb ρ C fe) : EvX K U (tOp r ta tb) ρ C fe := fun A0 H σ B w rr hW Q => by
  refine ev_more (ta := ta) h1 w rr fun v1 H1 C1 e1 f1 p1 w1 r1 => ?_
  exact h2 _ H1 σ B w1 r1 (hW_more e1 hW) _
theorem evx_op1 {ρ : Env} {C : Addr} {fe : List (Str × V)} {r : R2} (h1 : EvX K U ta ρ C fe) : EvX K U (tOp r ta tb) ρ C fe := fun A0 H σ B w rr hW Q => h1 A0 H σ B w rr hW _
theorem x_c {v : V} : XOk K A U (tC v) δ (xC v) w := ⟨fun ρ p e => by cases e; rw [emb_sc]; exact ev_c, fun _ _ _ e => nomatch e⟩
theorem x_cls {c : Nat} : XOk K A U (tC (.ref (A c))) δ (xCls c) w := ⟨fun ρ p e => by cases e; rw [emb_cls]; exact ev_c, fun _ _ _ e => nomatch e⟩
theorem xV_some {ρ : PEnv} {p : P} (e : xV i ρ = some (.ok p)) : ρ[i]? = some (some p) := by
  unfold xV at e
  rw [List.getD_eq_getElem?_getD] at e
  cases h : ρ[i]? with
  | none => rw [h] at e; cases e
  | some x =>
    rw [h] at e
    cases x with
    | none => cases e
    | some q => cases e; rfl
theorem xV_er {ρ : PEnv} {c : Nat} {fe : List (Str × V)} (e : xV i ρ = some (.er c fe)) : False := by
  unfold xV at e
  split at e <;> cases e
theorem x_v (hd : δ.getD i .s = .s) : XOk K A U (tVar i) δ (xV i) .s := .mk (fun ρ p e => by
  have := embE_some (A := A) (δ := δ) (xV_some e)
  rw [hd] at this
  exact ev_var this (emb_shd p)) (fun ρ c fe e => (xV_er e).elim)
theorem x_frz (h : XOk K A U te δ f w) : XOk K A U te δ f .s := ⟨fun ρ p e => by
  rw [← emb_frz w p]
  exact ev_frz (h.ok ρ p e), h.er⟩
theorem emb_isSc {p : P} (h : isSc p = true) : (emb A w p).closed = true ∧ ∀ w', emb A w' p = emb A w p := by
  cases p with
  | sc x => simp [emb_sc, D.closed]
  | cls c => simp [emb_cls, D.closed]
  | _ => cases h
theorem x_sc (h : XOk K A U te [] f .s) : XOk K A U te δ (xSc f) w := .mk (fun ρ p e => by
  unfold xSc at e
  cases hf : f ρ with
  | none => rw [hf] at e; cases e
  | some r =>
    rw [hf] at e
    cases r with
    | er c fe => cases e
    | ok x =>
      simp only at e
      split at e
      · rename_i hs
        cases e
        have hx := h.ok ρ p hf
        rw [(emb_isSc (w := .s) hs).2 w]
        refine ev_of ?_ (emb_isSc hs).1
        rw [frzE_embE]
        exact hx
      · cases e) (fun ρ c fe e => by
  unfold xSc at e
  split at e
  · split at e <;> cases e
  · cases e)
/-- operators -/
def Op2Ok (K : PySem.W.Frag) (A : Nat → Addr) (r : R2) (q : P → P → Option P) (w1 w2 w : W) : Prop := ∀ x y z, q x y = some z → Op2 K r (emb A w1 x) (emb A w2 y) (emb A w z)
def Op1Ok (K : PySem.W.Frag) (A : Nat → Addr) (r : V → Hp → VK → Prop) (q : P → Option P) (w1 w : W) : Prop := ∀ x z, q x = some z → Op1 K r (emb A w1 x) (emb A w z)
def OpCOk (K : PySem.W.Frag) (A : Nat → Addr) (r : List V → Hp → VK → Prop) (q : List P → Option P) (w1 w : W) : Prop := ∀ xs z, q xs = some z → OpC K r (embs A w1 0 xs) (emb A w z)
theorem map_ok {o : Option P} {p : P} (h : o.map PR.ok = some (.ok p)) : o = some p := by
  cases o with
  | none => cases h
  | some q => cases h; rfl
theorem map_er {o : Option P} {c : Nat} {fe : List (Str × V)} (h : o.map PR.ok = some (.er c fe)) : False := by
  cases o <;> cases h
theorem x_op {r : R2} {q : P → P → Option P} (ho : Op2Ok K A r q w1 w2 w) (ha : XOk K A U ta δ f w1) (hb : XOk K A U tb δ g w2) : XOk K A U (tOp r ta tb) δ (xOp q f g) w := .mk (fun ρ p e => by
  obtain ⟨x, h1, e⟩ := bnd_eq_ok e
  obtain ⟨y, h2, e⟩ := bnd_eq_ok e
  exact ev_op (ha.ok ρ x h1) (hb.ok ρ y h2) (ho x y p (map_ok e))) (fun ρ c fe e => by
  rcases bnd_eq_er e with h1 | ⟨x, h1, e⟩
  · exact evx_op1 (ha.er ρ c fe h1)
  · rcases bnd_eq_er e with h2 | ⟨y, h2, e⟩
    · exact evx_op2 (ha.ok ρ x h1) (hb.er ρ c fe h2)
    · exact (map_er e).elim)
theorem x_un {r : V → Hp → VK → Prop} {q : P → Option P} (ho : Op1Ok K A r q w1 w) (ha : XOk K A U ta δ f w1) : XOk K A U (tUn r ta) δ (xUn q f) w := .mk (fun ρ p e => by
  obtain ⟨x, h1, e⟩ := bnd_eq_ok e
  exact ev_un (ha.ok ρ x h1) (ho x p (map_ok e))) (fun ρ c fe e => by
  rcases bnd_eq_er e with h1 | ⟨x, h1, e⟩
  · exact fun A0 H σ B w rr hW Q => ha.er ρ c fe h1 A0 H σ B w rr hW _
  · exact (map_er e).elim)
theorem a_nil : AOk K A U tNil δ [] w i := ⟨fun ρ ps e => by cases e; rw [embs]; exact ea_nil, fun ρ c fe e => nomatch e⟩
theorem a_cons {tr : TA} (ha : XOk K A U ta δ f (w.kid i)) (hr : AOk K A U tr δ fs w (i + 1)) : AOk K A U (tCons ta tr) δ (f :: fs) w i := .mk (fun ρ ps e => by
  rw [xArgs_cons] at e
  cases hf : f ρ with
  | none => rw [hf] at e; cases e
  | some r => cases r with
    | er c fe => rw [hf] at e; cases e
    | ok p =>
      rw [hf] at e
      cases hg : xArgs fs ρ with
      | none => rw [hg] at e; cases e
      | some r => cases r with
        | er c fe => rw [hg] at e; cases e
        | ok qs =>
          rw [hg] at e
          cases e
          rw [embs]
          exact ea_cons (ha.ok ρ p hf) (hr.ok ρ qs hg)) (fun ρ c fe e A0 H σ B w0 rr hW Q => by
  rw [xArgs_cons] at e
  cases hf : f ρ with
  | none => rw [hf] at e; cases e
  | some r => cases r with
    | er c' fe' =>
      rw [hf] at e
      cases e
      exact ha.er ρ _ _ hf A0 H σ B w0 rr hW _
    | ok p =>
      rw [hf] at e
      cases hg : xArgs fs ρ with
      | none => rw [hg] at e; cases e
      | some r => cases r with
        | er c' fe' =>
          rw [hg] at e
          cases e
          exact ev_more (ha.ok ρ p hf) w0 rr fun v1 H1 C1 e1 f1 p1 w1 r1 => hr.er ρ _ _ hg _ H1 σ B w1 r1 (hW_more e1 hW) _
        | ok qs => rw [hg] at e; cases e)
theorem bnds_eq_ok {r : Option PRs} {k : List P → R} {q : P} (h : bnds r k = some (.ok q)) : ∃ p, r = some (.ok p) ∧ k p = some (.ok q) := by
  match r, h with
  | some (.ok p), h => exact ⟨p, rfl, h⟩
theorem bnds_eq_er {r : Option PRs} {k : List P → R} {c : Nat} {fs : List (Str × V)} (h : bnds r k = some (.er c fs)) : r = some (.er c fs) ∨ ∃ p, r = some (.ok p) ∧ k p = some (.er c fs) := by
  match r, h with
  | some (.ok p), h => exact .inr ⟨p, rfl, h⟩
  | some (.er _ _), h => cases h; exact .inl rfl
theorem x_cb {r : List V → Hp → VK → Prop} {q : List P → Option P} {t : TA} (ho : OpCOk K A r q w1 w) (ha : AOk K A U t δ fs w1 0) : XOk K A U (tCB r t) δ (xCB q fs) w := .mk (fun ρ p e => by
  obtain ⟨x, h1, e⟩ := bnds_eq_ok e
  exact ev_call (ha.ok ρ x h1) (ho x p (map_ok e))) (fun ρ c fe e => by
  rcases bnds_eq_er e with h1 | ⟨x, h1, e⟩
  · exact fun A0 H σ B w rr hW Q => ha.er ρ c fe h1 A0 H σ B w rr hW _
  · exact (map_er e).elim)
theorem x_tup {t : TA} (hw : w.own = true) (ha : AOk K A U t δ fs w 0) : XOk K A U (tTup t) δ (xTup fs) w := .mk (fun ρ p e => by
  obtain ⟨x, h1, e⟩ := bnds_eq_ok e
  split at e
  · rename_i hl
    cases e
    rw [emb_tup, hw]
    exact ev_tup (ha.ok ρ x h1) (by rw [embs_len]; exact hl)
  · cases e) (fun ρ c fe e => by
  rcases bnds_eq_er e with h1 | ⟨x, h1, e⟩
  · exact fun A0 H σ B w rr hW Q => ha.er ρ c fe h1 A0 H σ B w rr hW _
  · split at e <;> cases e)
theorem x_lst {t : TA} (hw : w.own = true) (ha : AOk K A U t δ fs w 0) : XOk K A U (tLst t) δ (xLst fs) w := .mk (fun ρ p e => by
  obtain ⟨x, h1, e⟩ := bnds_eq_ok e
  split at e
  · rename_i hl
    cases e
    rw [emb_lst, hw]
    exact ev_lst (ha.ok ρ x h1) (by rw [embs_len]; exact hl)
  · cases e) (fun ρ c fe e => by
  rcases bnds_eq_er e with h1 | ⟨x, h1, e⟩
  · exact fun A0 H σ B w rr hW Q => ha.er ρ c fe h1 A0 H σ B w rr hW _
  · split at e <;> cases e)
/-- tests -/
theorem tst_ok {r : R} {k : Bool → R} {q : P} (h : tst r k = some (.ok q)) : ∃ b, r = some (.ok (.sc (.bl b))) ∧ k b = some (.ok q) := by
  match r, h with
  | some (.ok (.sc (.bl b))), h => exact ⟨b, rfl, h⟩
theorem tst_eq_er {r : R} {k : Bool → R} {c : Nat} {fs : List (Str × V)} (h : tst r k = some (.er c fs)) : r = some (.er c fs) ∨ ∃ b, r = some (.ok (.sc (.bl b))) ∧ k b = some (.er c fs) := by
  match r, h with
  | some (.ok (.sc (.bl b))), h => exact .inr ⟨b, rfl, h⟩
  | some (.er _ _), h => exact .inl h
theorem ev_testMore {ρ : Env} {b : Bool} {A0 : Own} {H : Hp} {σ : L2.St} {B : List Addr} {Q : Bool → Hp → Prop} (h1 : EvT K tt ρ b) (w : WA A0 H) (rr : EnvR K A0 H σ ρ B)
    (k : ∀ H1, Ex H H1 → WA A0 H1 → EnvR K A0 H1 σ ρ B → Q b H1) : tt σ H Q :=
  h1 A0 H σ B w rr _ fun H1 e => k H1 e (et_step w rr e).1 (et_step w rr e).2
theorem hW_moreT {σ : L2.St} {A0 : Own} {H H1 : Hp} {C : Addr} {fe : List (Str × V)} (e1 : Ex H H1) (hW : ∀ d H', Ex H H' → XdOk A0 H' d fe → U (.ref C) d σ H') : ∀ d H', Ex H1 H' → XdOk A0 H' d fe → U (.ref C) d σ H' := fun d H' e x => hW d H' (e1.tr e) x
theorem x_if (ht : TOk K A U tt δ h) (ha : XOk K A U ta δ f w) (hb : XOk K A U tb δ g w) : XOk K A U (tIf tt ta tb) δ (xIf h f g) w := .mk (fun ρ p e => by
  obtain ⟨b, h1, e⟩ := tst_ok e
  refine ev_if (ht.ok ρ b h1) (fun hb' => ?_) (fun hb' => ?_)
  · rw [if_pos hb'] at e; exact ha.ok ρ p e
  · rw [if_neg (by rw [hb']; exact Bool.false_ne_true)] at e; exact hb.ok ρ p e) (fun ρ c fe e => by
  rcases tst_eq_er e with h1 | ⟨b, h1, e⟩
  · exact fun A0 H σ B w rr hW Q => ht.er ρ c fe h1 A0 H σ B w rr hW _
  · refine fun A0 H σ B w rr hW Q => ev_testMore (ht.ok ρ b h1) w rr fun H1 e1 w1 r1 => ?_
    show if b = true then _ else _
    split
    · rename_i hb'
      rw [if_pos hb'] at e; exact ha.er ρ c fe e A0 H1 σ B w1 r1 (hW_moreT e1 hW) Q
    · rename_i hb'
      rw [if_neg hb'] at e; exact hb.er ρ c fe e A0 H1 σ B w1 r1 (hW_moreT e1 hW) Q)
theorem truP_str {s : Str} : truP (.sc (.str s)) = if s.length ≤ sizeLine then some ((s.length : Int) != 0) else none := rfl
theorem truP_ok {p : P} {b : Bool} (h : truP p = some b) : truOk (emb A w p) ∧ tru (emb A w p) = b := by
  cases p with
  | sc x =>
    rw [emb_sc]
    cases x with
    | str s =>
      rw [truP_str] at h
      by_cases hl : s.length ≤ sizeLine
      · rw [if_pos hl] at h
        cases h
        exact ⟨hl, rfl⟩
      · rw [if_neg hl] at h; cases h
    | _ => cases h <;> exact ⟨True.intro, rfl⟩
  | lst ps =>
    cases h
    rw [emb_lst]
    refine ⟨True.intro, ?_⟩
    show (!(embs A w 0 ps).isEmpty) = _
    rw [isEmpty_len (embs_len ps 0)]
  | tup ps =>
    cases h
    rw [emb_tup]
    refine ⟨True.intro, ?_⟩
    show (!(embs A w 0 ps).isEmpty) = _
    rw [isEmpty_len (embs_len ps 0)]
  | _ => cases h
theorem t_of {t2 : TT} (h2 : ∀ ρ b, f ρ = some (.ok (.sc (.bl b))) → EvT K t2 (embE A δ ρ) b) (h3 : ∀ ρ c fe, f ρ = some (.er c fe) → EvTX K U t2 (embE A δ ρ) (A c) fe) : TOk K A U t2 δ f := ⟨h2, h3⟩
theorem t_test (h : XOk K A U te δ f w) : TOk K A U (tTest te) δ f := ⟨fun ρ b e => et_test (by have := h.ok ρ _ e; rwa [emb_sc] at this), fun ρ c fe e A0 H σ B w0 rr hW Q => h.er ρ c fe e A0 H σ B w0 rr hW _⟩
theorem map_bl_ok {o : Option Bool} {m : Bool → Bool} {b : Bool} (h : (o.map fun b => PR.ok (.bl (m b))) = some (.ok (.sc (.bl b)))) : ∃ c, o = some c ∧ m c = b := by
  cases o with
  | none => cases h
  | some q => cases h; exact ⟨q, rfl, rfl⟩
theorem t_tru (h : XOk K A U te δ f w) : TOk K A U (tTruK K te) δ (xTru f) := .mk (fun ρ b e => by
  obtain ⟨x, h1, e⟩ := bnd_eq_ok e
  obtain ⟨c, h2, rfl⟩ := map_bl_ok (m := fun b => b) e
  obtain ⟨h3, rfl⟩ := truP_ok (A := A) (w := w) h2
  exact et_truK (h.ok ρ x h1) h3) (fun ρ c fe e => by
  rcases bnd_eq_er e with h1 | ⟨x, h1, e⟩
  · exact fun A0 H σ B w0 rr hW Q => h.er ρ c fe h1 A0 H σ B w0 rr hW _
  · cases h2 : truP x with
    | none => rw [h2] at e; cases e
    | some b => rw [h2] at e; cases e)
theorem x_not (h : XOk K A U te δ f w1) : XOk K A U (tNotT K te) δ (xNot f) w := .mk (fun ρ p e => by
  obtain ⟨x, h1, e⟩ := bnd_eq_ok e
  cases h2 : truP x with
  | none => rw [h2] at e; cases e
  | some b =>
    rw [h2] at e
    cases e
    obtain ⟨h3, rfl⟩ := truP_ok (A := A) (w := w1) h2
    rw [emb_sc]
    exact ev_notT (h.ok ρ x h1) h3) (fun ρ c fe e => by
  rcases bnd_eq_er e with h1 | ⟨x, h1, e⟩
  · exact fun A0 H σ B w0 rr hW Q => h.er ρ c fe h1 A0 H σ B w0 rr hW _
  · cases h2 : truP x with
    | none => rw [h2] at e; cases e
    | some b => rw [h2] at e; cases e)
theorem x_and (ha : XOk K A U ta δ f w) (hb : XOk K A U tb δ g w) : XOk K A U (tAndT K ta tb) δ (xAnd f g) w := .mk (fun ρ p e => by
  obtain ⟨x, h1, e⟩ := bnd_eq_ok e
  cases h2 : truP x with
  | none => rw [h2] at e; cases e
  | some b =>
    rw [h2] at e
    obtain ⟨h3, h4⟩ := truP_ok (A := A) (w := w) h2
    cases b with
    | true => exact ev_andT (ha.ok ρ x h1) h3 (fun _ => hb.ok ρ p e) (fun z => by rw [h4] at z; cases z)
    | false => cases e; exact ev_andT (ha.ok ρ p h1) h3 (fun z => by rw [h4] at z; cases z) (fun _ => rfl)) (fun ρ c fe e => by
  rcases bnd_eq_er e with h1 | ⟨x, h1, e⟩
  · exact fun A0 H σ B w0 rr hW Q => ha.er ρ c fe h1 A0 H σ B w0 rr hW _
  · cases h2 : truP x with
    | none => rw [h2] at e; cases e
    | some b =>
      rw [h2] at e
      cases b with
      | false => cases e
      | true =>
        obtain ⟨h3, h4⟩ := truP_ok (A := A) (w := w) h2
        intro A0 H σ B w0 rr hW Q
        refine ev_more (ta := ta) (ha.ok ρ x h1) w0 rr fun v1 H1 C1 e1 f1 p1 w1 r1 => ?_
        refine ⟨true, by rw [← h4]; exact p1.tru h3, ?_⟩
        rw [if_pos rfl]
        exact hb.er ρ c fe e _ H1 σ B w1 r1 (hW_more e1 hW) Q)
theorem x_or (ha : XOk K A U ta δ f w) (hb : XOk K A U tb δ g w) : XOk K A U (tOrT K ta tb) δ (xOr f g) w := .mk (fun ρ p e => by
  obtain ⟨x, h1, e⟩ := bnd_eq_ok e
  cases h2 : truP x with
  | none => rw [h2] at e; cases e
  | some b =>
    rw [h2] at e
    obtain ⟨h3, h4⟩ := truP_ok (A := A) (w := w) h2
    cases b with
    | false => exact ev_orT (ha.ok ρ x h1) h3 (fun _ => hb.ok ρ p e) (fun z => by rw [h4] at z; cases z)
    | true => cases e; exact ev_orT (ha.ok ρ p h1) h3 (fun z => by rw [h4] at z; cases z) (fun _ => rfl)) (fun ρ c fe e => by
  rcases bnd_eq_er e with h1 | ⟨x, h1, e⟩
  · exact fun A0 H σ B w0 rr hW Q => ha.er ρ c fe h1 A0 H σ B w0 rr hW _
  · cases h2 : truP x with
    | none => rw [h2] at e; cases e
    | some b =>
      rw [h2] at e
      cases b with
      | true => cases e
      | false =>
        obtain ⟨h3, h4⟩ := truP_ok (A := A) (w := w) h2
        intro A0 H σ B w0 rr hW Q
        refine ev_more (ta := ta) (ha.ok ρ x h1) w0 rr fun v1 H1 C1 e1 f1 p1 w1 r1 => ?_
        refine ⟨false, by rw [← h4]; exact p1.tru h3, ?_⟩
        rw [if_neg Bool.false_ne_true]
        exact hb.er ρ c fe e _ H1 σ B w1 r1 (hW_more e1 hW) Q)
theorem t_not (ht : TOk K A U tt δ f) : TOk K A U (tNot tt) δ (xTNot f) := .mk (fun ρ b e => by
  obtain ⟨c, h1, e⟩ := tst_ok e
  cases e
  exact et_not (ht.ok ρ c h1)) (fun ρ c fe e => by
  rcases tst_eq_er e with h1 | ⟨b, h1, e⟩
  · exact fun A0 H σ B w rr hW Q => ht.er ρ c fe h1 A0 H σ B w rr hW _
  · cases e)
theorem t_and (ht : TOk K A U tt δ f) (hu : TOk K A U tu δ g) : TOk K A U (tAnd tt tu) δ (xTAnd f g) := .mk (fun ρ b e => by
  obtain ⟨c, h1, e⟩ := tst_ok e
  cases c with
  | true => exact et_and (a := true) (b := b) (ht.ok ρ true h1) fun _ => hu.ok ρ b (by simpa using e)
  | false =>
    have : b = false := by cases e; rfl
    subst this
    exact et_and (a := false) (b := false) (ht.ok ρ false h1) fun z => nomatch z) (fun ρ c fe e => by
  rcases tst_eq_er e with h1 | ⟨b, h1, e⟩
  · exact fun A0 H σ B w rr hW Q => ht.er ρ c fe h1 A0 H σ B w rr hW _
  · cases b with
    | false => cases e
    | true =>
      intro A0 H σ B w rr hW Q
      refine ev_testMore (tt := tt) (ht.ok ρ true h1) w rr fun H1 e1 w1 r1 => ?_
      exact hu.er ρ c fe (by simpa using e) A0 H1 σ B w1 r1 (hW_moreT e1 hW) Q)
theorem t_or (ht : TOk K A U tt δ f) (hu : TOk K A U tu δ g) : TOk K A U (tOr tt tu) δ (xTOr f g) := .mk (fun ρ b e => by
  obtain ⟨c, h1, e⟩ := tst_ok e
  cases c with
  | false => exact et_or (a := false) (b := b) (ht.ok ρ false h1) fun _ => hu.ok ρ b (by simpa using e)
  | true =>
    have : b = true := by cases e; rfl
    subst this
    exact et_or (a := true) (b := true) (ht.ok ρ true h1) fun z => nomatch z) (fun ρ c fe e => by
  rcases tst_eq_er e with h1 | ⟨b, h1, e⟩
  · exact fun A0 H σ B w rr hW Q => ht.er ρ c fe h1 A0 H σ B w rr hW _
  · cases b with
    | true => cases e
    | false =>
      intro A0 H σ B w rr hW Q
      refine ev_testMore (tt := tt) (ht.ok ρ false h1) w rr fun H1 e1 w1 r1 => ?_
      exact hu.er ρ c fe (by simpa using e) A0 H1 σ B w1 r1 (hW_moreT e1 hW) Q)
/-- a test that reads what names own: nothing may be raised in it -/
def xTs (f : X) : X := fun ρ => match f ρ with
  | some (.ok p) => some (.ok p)
  | _ => none
theorem t_of0 (ht : TOk K A U tt [] f) : TOk K A U tt δ (xTs f) := .mk (fun ρ b e => by
  unfold xTs at e
  split at e
  · rename_i p hp
    refine et_of ?_
    rw [frzE_embE]
    exact ht.ok ρ b (by rw [hp]; exact e)
  · cases e) (fun ρ c fe e => by
  unfold xTs at e
  split at e <;> cases e)
/-- a call of a def of one's own -/
def rX (A : Nat → Addr) (q : List P → R) (w : W) (n : Nat) : List D → Res → Prop := fun ds r => ∃ ps, ps.length = n ∧ ds = ps.map (emb A .s) ∧ match q ps with
  | some (.ok p) => r = .ok (emb A w p)
  | some (.er c fe) => r = .er (A c) fe
  | none => False
theorem xArgs_len : ∀ {fs : List X} {ρ : PEnv} {ps : List P}, xArgs fs ρ = some (.ok ps) → ps.length = fs.length
  | [], ρ, ps, e => by cases e; rfl
  | f :: fs, ρ, ps, e => by
    rw [xArgs_cons] at e
    cases hf : f ρ with
    | none => rw [hf] at e; cases e
    | some r => cases r with
      | er c fe => rw [hf] at e; cases e
      | ok p =>
        rw [hf] at e
        cases hg : xArgs fs ρ with
        | none => rw [hg] at e; cases e
        | some r => cases r with
          | er c fe => rw [hg] at e; cases e
          | ok qs =>
            rw [hg] at e
            cases e
            rw [List.length_cons, List.length_cons, xArgs_len hg]
theorem x_call {q : List P → R} {t : TA} {n : Nat} (ha : AOk K A U t δ fs .s 0) (hn : fs.length = n) : XOk K A U (tCallS (spX K (rX A q w n)) (WE U) t) δ (xCall q fs) w := .mk (fun ρ p e => by
  obtain ⟨x, h1, e⟩ := bnds_eq_ok e
  exact ev_fnX (ha.ok ρ x h1) ⟨x, by rw [xArgs_len h1, hn], frzs_embs, by rw [e]⟩) (fun ρ c fe e => by
  rcases bnds_eq_er e with h1 | ⟨x, h1, e⟩
  · exact fun A0 H σ B w rr hW Q => ha.er ρ c fe h1 A0 H σ B w rr hW _
  · exact evx_fn (ha.ok ρ x h1) ⟨x, by rw [xArgs_len h1, hn], frzs_embs, by rw [e]⟩)
end
end FP

namespace FP
open PySem PySem.Spec PyProof.Rows L2

/-! ### statements, told of pure data -/
inductive PO where
  | nx (ρ : PEnv)
  | rt (p : P)
  | bk (ρ : PEnv)
  | ct (ρ : PEnv)
  | er (c : Nat) (fs : List (Str × V)) (ρ : PEnv)
abbrev S := PEnv → Option PO
/-- an expression's answer within a statement at ρ -/
def ans (ρ : PEnv) : R → (P → Option PO) → Option PO
  | some (.ok p), k => k p
  | some (.er c fs), _ => some (.er c fs ρ)
  | none, _ => none
@[simp] theorem ans_ok {ρ : PEnv} {p : P} {k : P → Option PO} : ans ρ (some (.ok p)) k = k p := rfl
@[simp] theorem ans_er {ρ : PEnv} {c : Nat} {fs : List (Str × V)} {k : P → Option PO} : ans ρ (some (.er c fs)) k = some (.er c fs ρ) := rfl
def xNext : S := fun ρ => some (.nx ρ)
def xBreak : S := fun ρ => some (.bk ρ)
def xCont : S := fun ρ => some (.ct ρ)
def thn : Option PO → S → Option PO
  | some (.nx ρ), g => g ρ
  | o, _ => o
@[simp] theorem thn_nx {ρ : PEnv} {g : S} : thn (some (.nx ρ)) g = g ρ := rfl
@[simp] theorem thn_rt {p : P} {g : S} : thn (some (.rt p)) g = some (.rt p) := rfl
@[simp] theorem thn_er {c : Nat} {fs : List (Str × V)} {ρ : PEnv} {g : S} : thn (some (.er c fs ρ)) g = some (.er c fs ρ) := rfl
@[simp] theorem thn_bk {ρ : PEnv} {g : S} : thn (some (.bk ρ)) g = some (.bk ρ) := rfl
@[simp] theorem thn_ct {ρ : PEnv} {g : S} : thn (some (.ct ρ)) g = some (.ct ρ) := rfl
def xSeq (f g : S) : S := fun ρ => thn (f ρ) g
def xSet (i : Nat) (f : X) : S := fun ρ => ans ρ (f ρ) fun p => some (.nx (ρ.set i (some p)))
def xDo (f : X) : S := fun ρ => ans ρ (f ρ) fun _ => some (.nx ρ)
def xRet (f : X) : S := fun ρ => ans ρ (f ρ) fun p => some (.rt p)
def xRetN : S := fun _ => some (.rt .non)
def xIfS (t : X) (f g : S) : S := fun ρ => ans ρ (t ρ) fun b => match b with
  | .sc (.bl true) => f ρ
  | .sc (.bl false) => g ρ
  | _ => none
def xApp (i : Nat) (f : X) : S := fun ρ => match ρ.getD i none with
  | some (.lst ps) => ans ρ (f ρ) fun p => if ps.length < sizeLine then some (.nx (ρ.set i (some (.lst (ps ++ [p]))))) else none
  | _ => none
/-- names forgotten -/
def wipeP (ρ : PEnv) : List Nat → PEnv
  | [] => ρ
  | v :: vs => (wipeP ρ vs).set v none
def xFg (vs : List Nat) (f : S) : S := fun ρ => match f ρ with
  | some (.nx ρ') => some (.nx (wipeP ρ' vs))
  | o => o
/-- what a body may come to: w of what is returned, δL at a break or a continue, G of what stands when it is raised -/
structure SOk (K : PySem.W.Frag) (A : Nat → Addr) (U : WX) (w : W) (δL : List W) (G : List W → Prop) (t : TS) (δ δ' : List W) (f : S) : Prop where
  nx : ∀ ρ ρ', f ρ = some (.nx ρ') → Run K U t (embE A δ ρ) (.nx (embE A δ' ρ'))
  rt : ∀ ρ p, f ρ = some (.rt p) → Run K U t (embE A δ ρ) (.rt (emb A w p))
  bk : ∀ ρ ρ', f ρ = some (.bk ρ') → Run K U t (embE A δ ρ) (.bk (embE A δL ρ'))
  ct : ∀ ρ ρ', f ρ = some (.ct ρ') → Run K U t (embE A δ ρ) (.ct (embE A δL ρ'))
  er : ∀ ρ c fs ρ', f ρ = some (.er c fs ρ') → ∃ δe, G δe ∧ Run K U t (embE A δ ρ) (.er (A c) fs (embE A δe ρ'))
section
variable {K : PySem.W.Frag} {A : Nat → Addr} {U : WX} {te : TE} {tt : TT} {t u : TS} {δ δ' δ2 δL : List W} {G : List W → Prop} {f g : S} {x y : X} {w wr : W} {i : Nat} {vs : List Nat}
theorem ans_eq {ρ : PEnv} {r : R} {k : P → Option PO} {o : PO} (h : ans ρ r k = some o) : (∃ p, r = some (.ok p) ∧ k p = some o) ∨ ∃ c fs, r = some (.er c fs) ∧ o = .er c fs ρ := by
  match r, h with
  | some (.ok p), h => exact .inl ⟨p, rfl, h⟩
  | some (.er c fs), h => cases h; exact .inr ⟨c, fs, rfl, rfl⟩
/-- a statement that reckons one expression -/
theorem s_of (k : P → PEnv → Option PO) (hk : ∀ p ρ o, k p ρ = some o → (∃ ρ', o = .nx ρ') ∨ ∃ q, o = .rt q) (hG : G δ) (he : ∀ ρ c fs, x ρ = some (.er c fs) → Run K U t (embE A δ ρ) (.er (A c) fs (embE A δ ρ)))
    (hn : ∀ ρ p ρ', x ρ = some (.ok p) → k p ρ = some (.nx ρ') → Run K U t (embE A δ ρ) (.nx (embE A δ' ρ')))
    (hr : ∀ ρ p q, x ρ = some (.ok p) → k p ρ = some (.rt q) → Run K U t (embE A δ ρ) (.rt (emb A wr q))) : SOk K A U wr δL G t δ δ' fun ρ => ans ρ (x ρ) fun p => k p ρ where
  nx := fun ρ ρ' e => by
    rcases ans_eq e with ⟨p, h1, h2⟩ | ⟨c, fs, h1, h2⟩
    · exact hn ρ p ρ' h1 h2
    · cases h2
  rt := fun ρ q e => by
    rcases ans_eq e with ⟨p, h1, h2⟩ | ⟨c, fs, h1, h2⟩
    · exact hr ρ p q h1 h2
    · cases h2
  bk := fun ρ ρ' e => by
    rcases ans_eq e with ⟨p, h1, h2⟩ | ⟨c, fs, h1, h2⟩
    · rcases hk _ _ _ h2 with ⟨_, h⟩ | ⟨_, h⟩ <;> cases h
    · cases h2
  ct := fun ρ ρ' e => by
    rcases ans_eq e with ⟨p, h1, h2⟩ | ⟨c, fs, h1, h2⟩
    · rcases hk _ _ _ h2 with ⟨_, h⟩ | ⟨_, h⟩ <;> cases h
    · cases h2
  er := fun ρ c fs ρ' e => by
    rcases ans_eq e with ⟨p, h1, h2⟩ | ⟨c', fs', h1, h2⟩
    · rcases hk _ _ _ h2 with ⟨_, h⟩ | ⟨_, h⟩ <;> cases h
    · cases h2
      exact ⟨δ, hG, he ρ c fs h1⟩
theorem s_set (hG : G δ) (h : XOk K A U te δ x w) (hi : (δ.set i w).getD i .s = w) : SOk K A U wr δL G (tAsg te (gName i)) δ (δ.set i w) (xSet i x) :=
  s_of (fun p ρ => some (.nx (ρ.set i (some p)))) (fun _ _ _ e => by cases e; exact .inl ⟨_, rfl⟩) hG (fun ρ c fs e => run_asg_er (h.er ρ c fs e)) (fun ρ p ρ' e e2 => by
    cases e2
    rw [embE_setS hi]
    exact run_asg (h.ok ρ p e)) (fun _ _ _ _ e => nomatch e)
theorem s_do (hG : G δ) (h : XOk K A U te δ x w) : SOk K A U wr δL G (tDrop te) δ δ (xDo x) :=
  s_of (fun p ρ => some (.nx ρ)) (fun _ _ _ e => by cases e; exact .inl ⟨_, rfl⟩) hG (fun ρ c fs e => run_drop_er (h.er ρ c fs e)) (fun ρ p ρ' e e2 => by
    cases e2
    exact run_drop (h.ok ρ p e)) (fun _ _ _ _ e => nomatch e)
theorem s_ret (hG : G δ) (h : XOk K A U te δ x wr) : SOk K A U wr δL G (tRet te) δ δ' (xRet x) :=
  s_of (fun p ρ => some (.rt p)) (fun _ _ _ e => by cases e; exact .inr ⟨_, rfl⟩) hG (fun ρ c fs e => run_ret_er (h.er ρ c fs e)) (fun _ _ _ _ e => nomatch e) (fun ρ p q e e2 => by
    cases e2
    exact run_ret (h.ok ρ p e))
/-- what a name owns is handed back -/
theorem s_retV (hw : δ.getD i .s = wr) : SOk K A U wr δL G (tRet (tVar i)) δ δ' (xRet (xV i)) where
  nx := fun ρ ρ' e => by rcases ans_eq e with ⟨p, h1, h2⟩ | ⟨c, fs, h1, h2⟩ <;> cases h2
  rt := fun ρ q e => by
    rcases ans_eq e with ⟨p, h1, h2⟩ | ⟨c, fs, h1, h2⟩
    · cases h2
      have := embE_some (A := A) (δ := δ) (xV_some h1)
      rw [hw] at this
      exact run_ret_own this
    · cases h2
  bk := fun ρ ρ' e => by rcases ans_eq e with ⟨p, h1, h2⟩ | ⟨c, fs, h1, h2⟩ <;> cases h2
  ct := fun ρ ρ' e => by rcases ans_eq e with ⟨p, h1, h2⟩ | ⟨c, fs, h1, h2⟩ <;> cases h2
  er := fun ρ c fs ρ' e => by
    rcases ans_eq e with ⟨p, h1, h2⟩ | ⟨c, fs, h1, h2⟩
    · cases h2
    · exact (xV_er h1).elim
theorem s_retN : SOk K A U wr δL G tRetN δ δ' xRetN where
  nx := fun _ _ e => nomatch e
  rt := fun ρ q e => by cases e; rw [emb_sc]; exact run_retN
  bk := fun _ _ e => nomatch e
  ct := fun _ _ e => nomatch e
  er := fun _ _ _ _ e => nomatch e
theorem s_next : SOk K A U wr δL G tNext δ δ xNext where
  nx := fun ρ ρ' e => by cases e; exact run_next
  rt := fun _ _ e => nomatch e
  bk := fun _ _ e => nomatch e
  ct := fun _ _ e => nomatch e
  er := fun _ _ _ _ e => nomatch e
theorem s_break : SOk K A U wr δ G tBreak δ δ' xBreak where
  nx := fun _ _ e => nomatch e
  rt := fun _ _ e => nomatch e
  bk := fun ρ ρ' e => by cases e; exact run_brk
  ct := fun _ _ e => nomatch e
  er := fun _ _ _ _ e => nomatch e
theorem s_cont : SOk K A U wr δ G tCont δ δ' xCont where
  nx := fun _ _ e => nomatch e
  rt := fun _ _ e => nomatch e
  bk := fun _ _ e => nomatch e
  ct := fun ρ ρ' e => by cases e; exact run_cont
  er := fun _ _ _ _ e => nomatch e
theorem run_seq_er2 {ρ ρ' : Env} {C : Addr} {fs : List (Str × V)} (h1 : Run K U t ρ (.er C fs ρ')) : Run K U (tSeq t u) ρ (.er C fs ρ') := run_seq_er h1
theorem thn_eq {o : Option PO} {o' : PO} (h : thn o g = some o') : (∃ ρ, o = some (.nx ρ) ∧ g ρ = some o') ∨ (o = some o' ∧ ∀ ρ, o' ≠ .nx ρ) := by
  match o, h with
  | some (.nx ρ), h => exact .inl ⟨ρ, rfl, h⟩
  | some (.rt p), h => cases h; exact .inr ⟨rfl, fun _ z => nomatch z⟩
  | some (.bk p), h => cases h; exact .inr ⟨rfl, fun _ z => nomatch z⟩
  | some (.ct p), h => cases h; exact .inr ⟨rfl, fun _ z => nomatch z⟩
  | some (.er c fs p), h => cases h; exact .inr ⟨rfl, fun _ z => nomatch z⟩
theorem s_seq (h1 : SOk K A U wr δL G t δ δ' f) (h2 : SOk K A U wr δL G u δ' δ2 g) : SOk K A U wr δL G (tSeq t u) δ δ2 (xSeq f g) where
  nx := fun ρ ρ' e => by
    rcases thn_eq e with ⟨ρ1, a, b⟩ | ⟨a, b⟩
    · exact run_seq (h1.nx ρ ρ1 a) (h2.nx ρ1 ρ' b)
    · exact absurd rfl (b _)
  rt := fun ρ p e => by
    rcases thn_eq e with ⟨ρ1, a, b⟩ | ⟨a, b⟩
    · exact run_seq (h1.nx ρ ρ1 a) (h2.rt ρ1 p b)
    · exact run_seq_rt (h1.rt ρ p a)
  bk := fun ρ p e => by
    rcases thn_eq e with ⟨ρ1, a, b⟩ | ⟨a, b⟩
    · exact run_seq (h1.nx ρ ρ1 a) (h2.bk ρ1 p b)
    · exact run_seq_bk (h1.bk ρ p a)
  ct := fun ρ p e => by
    rcases thn_eq e with ⟨ρ1, a, b⟩ | ⟨a, b⟩
    · exact run_seq (h1.nx ρ ρ1 a) (h2.ct ρ1 p b)
    · exact run_seq_ct (h1.ct ρ p a)
  er := fun ρ c fs ρ' e => by
    rcases thn_eq e with ⟨ρ1, a, b⟩ | ⟨a, b⟩
    · obtain ⟨δe, g, r⟩ := h2.er ρ1 c fs ρ' b
      exact ⟨δe, g, run_seq (h1.nx ρ ρ1 a) r⟩
    · obtain ⟨δe, g, r⟩ := h1.er ρ c fs ρ' a
      exact ⟨δe, g, run_seq_er r⟩
theorem run_ifX {ρ ρ' : Env} {C : Addr} {fs : List (Str × V)} (h : EvTX K U tt ρ C fs) : Run K U (tIfS tt t u) ρ (.er C fs ρ) := fun A0 H σ B E w r p =>
  h (A0.and B) H σ B (w.wa r) r (fun d H' e x => p d H' σ B (.ex e fun _ h => .inl h) (et_step (w.wa r) r e).2 x) _
theorem s_if (hG : G δ) (ht : TOk K A U tt δ x) (h1 : SOk K A U wr δL G t δ δ' f) (h2 : SOk K A U wr δL G u δ δ' g) : SOk K A U wr δL G (tIfS tt t u) δ δ' (xIfS x f g) := by
  have key : ∀ ρ o, xIfS x f g ρ = some o → (∃ b, x ρ = some (.ok (.sc (.bl b))) ∧ (if b = true then f ρ else g ρ) = some o) ∨ ∃ c fs, x ρ = some (.er c fs) ∧ o = .er c fs ρ := fun ρ o e => by
    rcases ans_eq e with ⟨p, a, b⟩ | h
    · refine .inl ?_
      split at b
      · exact ⟨true, a, b⟩
      · exact ⟨false, a, b⟩
      · cases b
    · exact .inr h
  refine ⟨fun ρ ρ' e => ?_, fun ρ p e => ?_, fun ρ ρ' e => ?_, fun ρ ρ' e => ?_, fun ρ c fs ρ' e => ?_⟩
  · rcases key _ _ e with ⟨b, a, b'⟩ | ⟨c, fs, a, b⟩
    · exact run_if (ht.ok ρ b a) (fun z => h1.nx ρ ρ' (by rwa [if_pos z] at b')) (fun z => h2.nx ρ ρ' (by rwa [z, if_neg Bool.false_ne_true] at b'))
    · cases b
  · rcases key _ _ e with ⟨b, a, b'⟩ | ⟨c, fs, a, b⟩
    · exact run_if (ht.ok ρ b a) (fun z => h1.rt ρ p (by rwa [if_pos z] at b')) (fun z => h2.rt ρ p (by rwa [z, if_neg Bool.false_ne_true] at b'))
    · cases b
  · rcases key _ _ e with ⟨b, a, b'⟩ | ⟨c, fs, a, b⟩
    · exact run_if (ht.ok ρ b a) (fun z => h1.bk ρ ρ' (by rwa [if_pos z] at b')) (fun z => h2.bk ρ ρ' (by rwa [z, if_neg Bool.false_ne_true] at b'))
    · cases b
  · rcases key _ _ e with ⟨b, a, b'⟩ | ⟨c, fs, a, b⟩
    · exact run_if (ht.ok ρ b a) (fun z => h1.ct ρ ρ' (by rwa [if_pos z] at b')) (fun z => h2.ct ρ ρ' (by rwa [z, if_neg Bool.false_ne_true] at b'))
    · cases b
  · rcases key _ _ e with ⟨b, a, b'⟩ | ⟨c', fs', a, b⟩
    · cases b with
      | true =>
        obtain ⟨δe, g1, r⟩ := h1.er ρ c fs ρ' (by rwa [if_pos rfl] at b')
        exact ⟨δe, g1, run_if (ht.ok ρ true a) (fun _ => r) fun z => nomatch z⟩
      | false =>
        obtain ⟨δe, g1, r⟩ := h2.er ρ c fs ρ' (by rwa [if_neg Bool.false_ne_true] at b')
        exact ⟨δe, g1, run_if (ht.ok ρ false a) (fun z => nomatch z) fun _ => r⟩
    · cases b
      exact ⟨δ, hG, run_ifX (ρ' := embE A δ ρ) (ht.er ρ c fs a)⟩
/-- what a name owns is given up first: only the proof knows -/
theorem s_frz (i : Nat) (h : SOk K A U wr δL G t (δ.set i .s) δ' f) : SOk K A U wr δL G t δ δ' f := by
  have key : ∀ ρ o, Run K U t (embE A (δ.set i .s) ρ) o → Run K U t (embE A δ ρ) o := fun ρ o r => by
    cases hx : ρ[i]? with
    | none =>
      have e : embE A (δ.set i .s) ρ = embE A δ ρ := by
        have hl : ρ.length ≤ i := List.getElem?_eq_none_iff.mp hx
        clear r hx h
        induction ρ generalizing δ i with
        | nil => simp [embE]
        | cons y ρ ih =>
          cases i with
          | zero => simp at hl
          | succ i =>
            cases δ with
            | nil => rfl
            | cons d δ =>
              rw [List.set_cons_succ, embE, embE]
              show _ :: _ = _ :: _
              congr 1
              exact ih (δ := δ) (i := i) (by simpa using hl)
      rw [e] at r
      exact r
    | some y =>
      cases y with
      | none =>
        have e : embE A (δ.set i .s) ρ = embE A δ ρ := by
          clear r h
          induction ρ generalizing δ i with
          | nil => simp [embE]
          | cons z ρ ih =>
            cases i with
            | zero =>
              have : z = none := by simpa using hx
              subst this
              cases δ with
              | nil => rfl
              | cons d δ => rw [List.set_cons_zero, embE, embE]; rfl
            | succ i =>
              cases δ with
              | nil => rfl
              | cons d δ =>
                rw [List.set_cons_succ, embE, embE]
                show _ :: _ = _ :: _
                congr 1
                exact ih (δ := δ) (i := i) (by simpa using hx)
        rw [e] at r
        exact r
      | some p =>
        refine run_frz i (embE_some (A := A) (δ := δ) hx) ?_
        rw [emb_frz, ← embE_set δ (δ.set i .s) ρ i .s p ?_ fun _ hj => getD_set_ne hj]
        · have : ρ.set i (some p) = ρ := by
            refine List.ext_getElem? fun j => ?_
            by_cases hj : i = j
            · subst hj
              rw [List.getElem?_set_self (List.getElem?_eq_some_iff.mp hx).1, hx]
            · rw [List.getElem?_set_ne hj]
          rw [this]
          exact r
        · by_cases hl : i < δ.length
          · exact getD_set hl
          · rw [List.set_eq_of_length_le (by omega), List.getD_eq_getElem?_getD, List.getElem?_eq_none (by omega)]
            rfl
  exact ⟨fun ρ ρ' e => key ρ _ (h.nx ρ ρ' e), fun ρ p e => key ρ _ (h.rt ρ p e), fun ρ ρ' e => key ρ _ (h.bk ρ ρ' e), fun ρ ρ' e => key ρ _ (h.ct ρ ρ' e), fun ρ c fs ρ' e => (h.er ρ c fs ρ' e).imp fun _ z => ⟨z.1, key ρ _ z.2⟩⟩
theorem wipe_emb : ∀ (vs : List Nat) (ρ : PEnv), embE A δ (wipeP ρ vs) = wipeE (embE A δ ρ) vs
  | [], ρ => rfl
  | v :: vs, ρ => by
    rw [wipeP, embE_none, wipe_emb vs]
    rfl
theorem weak_none : ∀ (ρ : Env) (i : Nat), Weak ρ (ρ.set i none)
  | [], _ => .nil
  | x :: ρ, 0 => .drop (Weak.refl ρ)
  | x :: ρ, i + 1 => .same (weak_none ρ i)
theorem Weak.trans {a b c : Env} (h : Weak a b) : Weak b c → Weak a c := by
  induction h generalizing c with
  | nil => exact id
  | drop _ ih =>
    intro k
    cases k with
    | drop k => exact .drop (ih k)
    | same k => exact .drop (ih k)
  | same _ ih =>
    intro k
    cases k with
    | drop k => exact .drop (ih k)
    | same k => exact .same (ih k)
theorem weak_wipe (ρ : Env) : ∀ vs, Weak ρ (wipeE ρ vs)
  | [] => Weak.refl ρ
  | v :: vs => (weak_wipe ρ vs).trans (weak_none _ v)
theorem xFg_eq {ρ : PEnv} {o : PO} (e : xFg vs f ρ = some o) : (∃ ρ', f ρ = some (.nx ρ') ∧ o = .nx (wipeP ρ' vs)) ∨ (f ρ = some o ∧ ∀ ρ', o ≠ .nx ρ') := by
  unfold xFg at e
  split at e
  · rename_i ρ' h
    cases e
    exact .inl ⟨ρ', h, rfl⟩
  · rename_i h
    exact .inr ⟨e, fun ρ' z => h ρ' (by rw [e, z])⟩
theorem s_fg (vs : List Nat) (h : SOk K A U wr δL G t δ δ' f) : SOk K A U wr δL G t δ δ' (xFg vs f) where
  nx := fun ρ ρ' e => by
    rcases xFg_eq e with ⟨ρ1, a, b⟩ | ⟨a, b⟩
    · cases b
      rw [wipe_emb]
      exact run_weak (h.nx ρ ρ1 a) (weak_wipe _ vs)
    · exact absurd rfl (b _)
  rt := fun ρ p e => by
    rcases xFg_eq e with ⟨ρ1, a, b⟩ | ⟨a, b⟩
    · cases b
    · exact h.rt ρ p a
  bk := fun ρ p e => by
    rcases xFg_eq e with ⟨ρ1, a, b⟩ | ⟨a, b⟩
    · cases b
    · exact h.bk ρ p a
  ct := fun ρ p e => by
    rcases xFg_eq e with ⟨ρ1, a, b⟩ | ⟨a, b⟩
    · cases b
    · exact h.ct ρ p a
  er := fun ρ c fs p e => by
    rcases xFg_eq e with ⟨ρ1, a, b⟩ | ⟨a, b⟩
    · cases b
    · exact h.er ρ c fs p a
theorem getD_some {ρ : PEnv} {p : P} (hp : ρ.getD i none = some p) : ρ[i]? = some (some p) := by
  rw [List.getD_eq_getElem?_getD] at hp
  cases h : ρ[i]? with
  | none => rw [h] at hp; cases hp
  | some y => rw [h] at hp; exact congrArg some hp
/-- xs.append(e) of a name's own list -/
theorem s_app (hG : G δ) (hi : δ.getD i .s = .o w) (h : XOk K A U te δ x w) : SOk K A U wr δL G (tDrop (tBM K "list" rAppend (tVar i) (tCons te tNil))) δ δ (xApp i x) := by
  have key : ∀ ρ o, xApp i x ρ = some o → ∃ ps, ρ[i]? = some (some (.lst ps)) ∧ ((∃ p, x ρ = some (.ok p) ∧ ps.length < sizeLine ∧ o = .nx (ρ.set i (some (.lst (ps ++ [p]))))) ∨ ∃ c fs, x ρ = some (.er c fs) ∧ o = .er c fs ρ) := fun ρ o e => by
    unfold xApp at e
    split at e
    · rename_i ps hp
      refine ⟨ps, getD_some hp, ?_⟩
      rcases ans_eq e with ⟨p, h1, h2⟩ | ⟨c, fs, h1, h2⟩
      · split at h2
        · rename_i hl
          cases h2
          exact .inl ⟨p, h1, hl, rfl⟩
        · cases h2
      · exact .inr ⟨c, fs, h1, h2⟩
    · cases e
  refine ⟨fun ρ ρ' e => ?_, fun ρ p e => ?_, fun ρ ρ' e => ?_, fun ρ ρ' e => ?_, fun ρ c fs ρ' e => ?_⟩
  · obtain ⟨ps, hp, ⟨p, h1, hl, h2⟩ | ⟨c, fs, h1, h2⟩⟩ := key _ _ e
    · cases h2
      have e1 := embE_some (A := A) (δ := δ) hp
      rw [hi, emb_lst, embs_o] at e1
      have := run_append (K := K) (W := U) e1 (h.ok ρ p h1) (by rw [List.length_map]; exact hl)
      rw [embE_set δ δ ρ i (.o w) _ hi fun _ _ => rfl, emb_lst, embs_o, List.map_append]
      exact this
    · cases h2
  · obtain ⟨ps, hp, ⟨p, h1, hl, h2⟩ | ⟨c, fs, h1, h2⟩⟩ := key _ _ e <;> cases h2
  · obtain ⟨ps, hp, ⟨p, h1, hl, h2⟩ | ⟨c, fs, h1, h2⟩⟩ := key _ _ e <;> cases h2
  · obtain ⟨ps, hp, ⟨p, h1, hl, h2⟩ | ⟨c, fs, h1, h2⟩⟩ := key _ _ e <;> cases h2
  · obtain ⟨ps, hp, ⟨p, h1, hl, h2⟩ | ⟨c', fs', h1, h2⟩⟩ := key _ _ e
    · cases h2
    · cases h2
      refine ⟨δ, hG, fun A0 H σ B E w0 r p => ?_⟩
      have e1 := embE_some (A := A) (δ := δ) hp
      rw [hi, emb_lst, embs_o] at e1
      obtain ⟨v, Bi, q1, q2, q3, _⟩ := r.mut e1
      cases q2 with
      | @lstO a xs _ B1 ha hA hn r1 =>
      refine ⟨.ref a, q1, .inl ⟨rfl, _, .inl (.inl ha)⟩, ?_⟩
      exact h.er ρ _ _ h1 (A0.and B) H σ B (w0.wa r) r (fun d H' e x => p d H' σ B (.ex e fun _ h => .inl h) (et_step (w0.wa r) r e).2 x) _
end
end FP

namespace FP
open PySem PySem.Spec PyProof.Rows L2

/-! ### targets, walks, loops, comprehensions, try: of pure data -/
abbrev Tk := P → PEnv → Option PEnv
def tkN (j : Nat) : Tk := fun p ρ => some (ρ.set j (some p))
def tkNs : List Tk → List P → PEnv → Option PEnv
  | [], [], ρ => some ρ
  | t :: ts, p :: ps, ρ => match t p ρ with
    | some ρ' => tkNs ts ps ρ'
    | none => none
  | _, _, _ => none
def tkT (ts : List Tk) : Tk := fun p ρ => match p with
  | .tup ps => tkNs ts ps ρ
  | _ => none
structure TkOk (K : PySem.W.Frag) (A : Nat → Addr) (own : Option (List Nat)) (g : TG) (δ : List W) (t : Tk) : Prop where
  ok : ∀ p ρ ρ', t p ρ = some ρ' → Takes K g own (emb A .s p) (embE A δ ρ) (embE A δ ρ')
structure TksOk (K : PySem.W.Frag) (A : Nat → Addr) (own : Option (List Nat)) (g : TGs) (δ : List W) (ts : List Tk) : Prop where
  ok : ∀ ps ρ ρ', tkNs ts ps ρ = some ρ' → TakesS K g own (ps.map (emb A .s)) (embE A δ ρ) (embE A δ ρ') ∧ ps.length = ts.length
abbrev It' := PEnv → Option (List P)
def IOk (K : PySem.W.Frag) (A : Nat → Addr) (wi : TI) (δ : List W) (it : It') : Prop := ∀ ρ xs, it ρ = some xs → Walks K wi (embE A δ ρ) (xs.map (emb A .s))
def forL (t : Tk) (body : S) : List P → PEnv → Option PO
  | [], ρ => some (.nx ρ)
  | x :: xs, ρ => match t x ρ with
    | some ρ1 => match body ρ1 with
      | some (.nx ρ2) => forL t body xs ρ2
      | some (.ct ρ2) => forL t body xs ρ2
      | some (.bk ρ2) => some (.nx ρ2)
      | o => o
    | none => none
def xFor (it : It') (t : Tk) (body : S) : S := fun ρ => match it ρ with
  | some xs => forL t body xs ρ
  | none => none
def whileL (c : X) (body : S) : Nat → PEnv → Option PO
  | 0, _ => none
  | n + 1, ρ => match c ρ with
    | some (.ok (.sc (.bl true))) => match body ρ with
      | some (.nx ρ') => whileL c body n ρ'
      | _ => none
    | some (.ok (.sc (.bl false))) => some (.nx ρ)
    | _ => none
def xWhile (n : Nat) (c : X) (body : S) : S := whileL c body n
/-- a comprehension's turn: nothing where its test says no -/
def lcStep (t : Tk) (c : Option X) (e : X) (ρ : PEnv) (x : P) : Option (Option P) := match t x ρ with
  | none => none
  | some ρ1 => match c with
    | none => match e ρ1 with
      | some (.ok p) => some (some p)
      | _ => none
    | some c => match c ρ1 with
      | some (.ok (.sc (.bl true))) => match e ρ1 with
        | some (.ok p) => some (some p)
        | _ => none
      | some (.ok (.sc (.bl false))) => some none
      | _ => none
def lcL (f : P → Option (Option P)) : List P → Option (List P)
  | [] => some []
  | x :: xs => match f x with
    | none => none
    | some y => match lcL f xs with
      | none => none
      | some ys => some (y.toList ++ ys)
def xLc (it : It') (t : Tk) (c : Option X) (e : X) (vs : List Nat) : X := fun ρ => match it ρ with
  | none => none
  | some xs => if xs.length ≤ 1000000 then match lcL (lcStep t c e (wipeP ρ vs)) xs with
    | none => none
    | some ys => ret (.lst ys)
  else none
def xTry (sub : Nat → Bool) (i j : Nat) (body : S) : S := fun ρ => match body ρ with
  | some (.er c fs ρ') => if sub c = true then some (.nx (((ρ'.set i none).set j (some (.exc c fs))).set i none)) else none
  | o => o
section
variable {K : PySem.W.Frag} {A : Nat → Addr} {U : WX} {te : TE} {tt : TT} {ta : TA} {t u tb : TS} {δ δ' δ2 δL : List W} {G : List W → Prop} {f : S} {x y : X} {w wr : W} {i j : Nat} {vs : List Nat} {own : Option (List Nat)} {g : TG} {gs : TGs} {tk : Tk} {tks : List Tk} {wi : TI} {it : It'} {xs : List X}
theorem tk_n (h : ∀ vs, own = some vs → j ∈ vs) (hd : δ.getD j .s = .s) : TkOk K A own (gName j) δ (tkN j) := ⟨fun p ρ ρ' e => by
  cases e
  rw [embE_set δ δ ρ j .s p hd fun _ _ => rfl]
  exact takes_name h⟩
theorem tks_nil : TksOk K A own gNil δ [] := ⟨fun ps ρ ρ' e => by
  cases ps with
  | nil => cases e; exact ⟨takes_nil, rfl⟩
  | cons p ps => cases e⟩
theorem tks_cons (h : TkOk K A own g δ tk) (hs : TksOk K A own gs δ tks) : TksOk K A own (gCons g gs) δ (tk :: tks) := ⟨fun ps ρ ρ' e => by
  cases ps with
  | nil => cases e
  | cons p ps =>
    unfold tkNs at e
    split at e
    · rename_i ρ1 h1
      obtain ⟨a, b⟩ := hs.ok ps ρ1 ρ' e
      exact ⟨takes_cons (h.ok p ρ ρ1 h1) a, by rw [List.length_cons, List.length_cons, b]⟩
    · cases e⟩
theorem tk_tup {n : Nat} (hn : tks.length = n) (hs : TksOk K A own gs δ tks) : TkOk K A own (gTup K n gs) δ (tkT tks) := ⟨fun p ρ ρ' e => by
  unfold tkT at e
  split at e
  · rename_i ps
    obtain ⟨a, b⟩ := hs.ok ps ρ ρ' e
    rw [emb_tup, embs_s]
    exact takes_tup (by rw [List.length_map, b, hn]) a
  · cases e⟩
/-- x, y = e -/
def xAsT (tk : Tk) (f : X) : S := fun ρ => ans ρ (f ρ) fun p => match tk p ρ with
  | some ρ' => some (.nx ρ')
  | none => none
theorem s_asT (hG : G δ) (h : XOk K A U te δ x .s) (ht : TkOk K A none g δ tk) : SOk K A U wr δL G (tAsg te g) δ δ (xAsT tk x) :=
  s_of (fun p ρ => match tk p ρ with
    | some ρ' => some (.nx ρ')
    | none => none) (fun p ρ o e => by
      split at e
      · cases e; exact .inl ⟨_, rfl⟩
      · cases e) hG (fun ρ c fs e => run_asg_er (h.er ρ c fs e)) (fun ρ p ρ' e e2 => by
      split at e2
      · rename_i ρ1 h1
        cases e2
        exact run_asgT (h.ok ρ p e) (emb_shd p) (ht.ok p ρ _ h1)
      · cases e2) (fun ρ p q e e2 => by
      split at e2 <;> cases e2)
/-! sources -/
def itL (f : X) : It' := fun ρ => match f ρ with
  | some (.ok (.lst ps)) => some ps
  | _ => none
def itT (f : X) : It' := fun ρ => match f ρ with
  | some (.ok (.tup ps)) => some ps
  | _ => none
def itS (f : X) : It' := fun ρ => match f ρ with
  | some (.ok (.sc (.str a))) => some (a.cps.toList.map fun c => .str ⟨#[c]⟩)
  | _ => none
def rngP (lo : Int) (n : Nat) : List P := (List.range n).map fun k => .int (lo + (k : Nat))
def itR1 (fs : List X) : It' := fun ρ => match xArgs fs ρ with
  | some (.ok [.sc (.int j)]) => if -2 ^ 62 ≤ j ∧ j < 2 ^ 62 then some (rngP 0 j.toNat) else none
  | _ => none
def itR2 (fs : List X) : It' := fun ρ => match xArgs fs ρ with
  | some (.ok [.sc (.int i), .sc (.int j)]) => if -2 ^ 62 ≤ i ∧ i < 2 ^ 62 ∧ -2 ^ 62 ≤ j ∧ j < 2 ^ 62 then some (rngP i (j - i).toNat) else none
  | _ => none
def enumP (k : Int) (ps : List P) : List P := ps.mapIdx fun i d => .tup [.int (k + (i : Nat)), d]
def itE (fs : List X) : It' := fun ρ => match xArgs fs ρ with
  | some (.ok [.lst ps]) => some (ps.mapIdx fun i d => .tup [.int (i : Nat), d])
  | _ => none
def itES (k : Int) (fs : List X) : It' := fun ρ => match xArgs fs ρ with
  | some (.ok [.lst ps]) => some (enumP k ps)
  | _ => none
def itZ (fs : List X) : It' := fun ρ => match xArgs fs ρ with
  | some (.ok [.lst ps, .lst qs]) => some (List.zipWith (fun a b => .tup [a, b]) ps qs)
  | _ => none
def itRev (fs : List X) : It' := fun ρ => match xArgs fs ρ with
  | some (.ok [.lst ps]) => some ps.reverse
  | _ => none
theorem i_list (h : XOk K A U te δ x .s) : IOk K A (iList K te) δ (itL x) := fun ρ xs e => by
  unfold itL at e
  split at e
  · rename_i ps hp
    cases e
    have := h.ok ρ _ hp
    rw [emb_lst, embs_s] at this
    exact walks_list this
  · cases e
theorem i_tup (h : XOk K A U te δ x .s) : IOk K A (iTup K te) δ (itT x) := fun ρ xs e => by
  unfold itT at e
  split at e
  · rename_i ps hp
    cases e
    have := h.ok ρ _ hp
    rw [emb_tup, embs_s] at this
    exact walks_tup this
  · cases e
theorem i_str (h : XOk K A U te δ x .s) : IOk K A (iStr te) δ (itS x) := fun ρ xs e => by
  unfold itS at e
  split at e
  · rename_i ps hp
    cases e
    have := h.ok ρ _ hp
    rw [emb_sc] at this
    have := walks_str this
    unfold sgns at this
    rw [List.map_map]
    simpa [Function.comp_def] using this
  · cases e
theorem rngP_emb {lo : Int} {n : Nat} : (rngP lo n).map (emb A .s) = rng lo n := by
  unfold rngP rng
  rw [List.map_map]
  refine List.map_congr_left fun k _ => ?_
  show emb A .s (.sc _) = _
  rw [emb_sc]
theorem i_rng1 (h : AOk K A U ta δ xs .s 0) : IOk K A (iRng1 ta) δ (itR1 xs) := fun ρ ys e => by
  unfold itR1 at e
  split at e
  · rename_i j hp
    split at e
    · rename_i hj
      cases e
      have := h.ok ρ _ hp
      rw [embs_s] at this
      simp only [List.map_cons, List.map_nil, emb_sc] at this
      rw [rngP_emb]
      exact walks_rng1 this hj.1 hj.2
    · cases e
  · cases e
theorem i_rng2 (h : AOk K A U ta δ xs .s 0) : IOk K A (iRng2 ta) δ (itR2 xs) := fun ρ ys e => by
  unfold itR2 at e
  split at e
  · rename_i i j hp
    split at e
    · rename_i hj
      cases e
      have := h.ok ρ _ hp
      rw [embs_s] at this
      simp only [List.map_cons, List.map_nil, emb_sc] at this
      rw [rngP_emb]
      exact walks_rng2 this hj
    · cases e
  · cases e
theorem emb_tup2 {a b : P} : emb A .s (.tup [a, b]) = .tup false [emb A .s a, emb A .s b] := by
  rw [emb_tup, embs_s]
  rfl
theorem i_enum (h : AOk K A U ta δ xs .s 0) : IOk K A (iEnum K ta) δ (itE xs) := fun ρ ys e => by
  unfold itE at e
  split at e
  · rename_i ps hp
    cases e
    have := h.ok ρ _ hp
    rw [embs_s] at this
    simp only [List.map_cons, List.map_nil, emb_lst, embs_s] at this
    have := walks_enum this
    rwa [show enumd (ps.map (emb A .s)) = (ps.mapIdx fun i d => P.tup [.int (i : Nat), d]).map (emb A .s) from ?_] at this
    refine List.ext_getElem? fun i => ?_
    rw [enumd, List.getElem?_mapIdx, List.getElem?_map, List.getElem?_map, List.getElem?_mapIdx]
    cases ps[i]? with
    | none => rfl
    | some p => simp only [Option.map_some, emb_tup2, emb_sc]
  · cases e
theorem i_enumS {k : Int} (h : AOk K A U ta δ xs .s 0) : IOk K A (iEnumS K k ta) δ (itES k xs) := fun ρ ys e => by
  unfold itES at e
  split at e
  · rename_i ps hp
    cases e
    have := h.ok ρ _ hp
    rw [embs_s] at this
    simp only [List.map_cons, List.map_nil, emb_lst, embs_s] at this
    have := walks_enumS (k := k) this
    rwa [show enumS k (ps.map (emb A .s)) = (enumP k ps).map (emb A .s) from ?_] at this
    refine List.ext_getElem? fun i => ?_
    rw [enumS, enumP, List.getElem?_mapIdx, List.getElem?_map, List.getElem?_map, List.getElem?_mapIdx]
    cases ps[i]? with
    | none => rfl
    | some p => simp only [Option.map_some, emb_tup2, emb_sc]
  · cases e
theorem i_zip (h : AOk K A U ta δ xs .s 0) : IOk K A (iZip K ta) δ (itZ xs) := fun ρ ys e => by
  unfold itZ at e
  split at e
  · rename_i ps qs hp
    cases e
    have := h.ok ρ _ hp
    rw [embs_s] at this
    simp only [List.map_cons, List.map_nil, emb_lst, embs_s] at this
    have := walks_zip this
    unfold zipd at this
    rw [List.map_zipWith]
    simp only [emb_tup2]
    rw [List.zipWith_map] at this
    exact this
  · cases e
theorem i_rev (h : AOk K A U ta δ xs .s 0) : IOk K A (iRev K ta) δ (itRev xs) := fun ρ ys e => by
  unfold itRev at e
  split at e
  · rename_i ps hp
    cases e
    have := h.ok ρ _ hp
    rw [embs_s] at this
    simp only [List.map_cons, List.map_nil, emb_lst, embs_s] at this
    rw [List.map_reverse]
    exact walks_rev this
  · cases e
/-! loops -/
theorem forL_runs : ∀ (xs : List P) (ρ : PEnv) (o : PO), forL tk f xs ρ = some o → ∃ (m : Nat) (r : Nat → PEnv), m ≤ xs.length ∧ r 0 = ρ ∧
    (∀ k, k < m → ∃ x ρ1, xs[k]? = some x ∧ tk x (r k) = some ρ1 ∧ (f ρ1 = some (.nx (r (k + 1))) ∨ f ρ1 = some (.ct (r (k + 1))))) ∧
    ((m = xs.length ∧ o = .nx (r m)) ∨ ∃ x ρ1, xs[m]? = some x ∧ tk x (r m) = some ρ1 ∧ ((∃ ρ2, f ρ1 = some (.bk ρ2) ∧ o = .nx ρ2) ∨ (f ρ1 = some o ∧ ((∃ p, o = .rt p) ∨ ∃ c fs ρ', o = .er c fs ρ'))))
  | [], ρ, o, e => by
    cases e
    exact ⟨0, fun _ => ρ, Nat.le_refl _, rfl, fun k hk => absurd hk (Nat.not_lt_zero _), .inl ⟨rfl, rfl⟩⟩
  | x :: xs, ρ, o, e => by
    unfold forL at e
    cases h1 : tk x ρ with
    | none => rw [h1] at e; cases e
    | some ρ1 =>
      rw [h1] at e
      simp only at e
      have leaf : ∀ (_ : (∃ ρ2, f ρ1 = some (.bk ρ2) ∧ o = .nx ρ2) ∨ (f ρ1 = some o ∧ ((∃ p, o = .rt p) ∨ ∃ c fs ρ', o = .er c fs ρ'))), ∃ (m : Nat) (r : Nat → PEnv), m ≤ (x :: xs).length ∧ r 0 = ρ ∧
    (∀ k, k < m → ∃ x' ρ1, (x :: xs)[k]? = some x' ∧ tk x' (r k) = some ρ1 ∧ (f ρ1 = some (.nx (r (k + 1))) ∨ f ρ1 = some (.ct (r (k + 1))))) ∧
    ((m = (x :: xs).length ∧ o = .nx (r m)) ∨ ∃ x' ρ1, (x :: xs)[m]? = some x' ∧ tk x' (r m) = some ρ1 ∧ ((∃ ρ2, f ρ1 = some (.bk ρ2) ∧ o = .nx ρ2) ∨ (f ρ1 = some o ∧ ((∃ p, o = .rt p) ∨ ∃ c fs ρ', o = .er c fs ρ')))) := fun h =>
        ⟨0, fun _ => ρ, Nat.zero_le _, rfl, fun k hk => absurd hk (Nat.not_lt_zero _), .inr ⟨x, ρ1, rfl, h1, h⟩⟩
      have more : ∀ ρ2, (f ρ1 = some (.nx ρ2) ∨ f ρ1 = some (.ct ρ2)) → forL tk f xs ρ2 = some o → ∃ (m : Nat) (r : Nat → PEnv), m ≤ (x :: xs).length ∧ r 0 = ρ ∧
    (∀ k, k < m → ∃ x' ρ1, (x :: xs)[k]? = some x' ∧ tk x' (r k) = some ρ1 ∧ (f ρ1 = some (.nx (r (k + 1))) ∨ f ρ1 = some (.ct (r (k + 1))))) ∧
    ((m = (x :: xs).length ∧ o = .nx (r m)) ∨ ∃ x' ρ1, (x :: xs)[m]? = some x' ∧ tk x' (r m) = some ρ1 ∧ ((∃ ρ2, f ρ1 = some (.bk ρ2) ∧ o = .nx ρ2) ∨ (f ρ1 = some o ∧ ((∃ p, o = .rt p) ∨ ∃ c fs ρ', o = .er c fs ρ')))) := fun ρ2 h e2 => by
        obtain ⟨m, r, hm, r0, hk, hend⟩ := forL_runs xs ρ2 o e2
        refine ⟨m + 1, fun k => match k with | 0 => ρ | k + 1 => r k, by simpa using hm, rfl, fun k hk' => ?_, ?_⟩
        · cases k with
          | zero => exact ⟨x, ρ1, rfl, h1, by rw [← r0] at h; exact h⟩
          | succ k =>
            obtain ⟨x', ρ1', a, b, c⟩ := hk k (by omega)
            exact ⟨x', ρ1', by simpa using a, b, c⟩
        · rcases hend with ⟨a, b⟩ | ⟨x', ρ1', a, b, c⟩
          · exact .inl ⟨by rw [List.length_cons, a], b⟩
          · exact .inr ⟨x', ρ1', by simpa using a, b, c⟩
      cases h2 : f ρ1 with
      | none => rw [h2] at e; cases e
      | some o2 =>
        cases o2 with
        | nx ρ2 => rw [h2] at e; exact more ρ2 (.inl h2) e
        | ct ρ2 => rw [h2] at e; exact more ρ2 (.inr h2) e
        | bk ρ2 => rw [h2] at e; cases e; exact leaf (.inl ⟨ρ2, h2, rfl⟩)
        | rt p => rw [h2] at e; cases e; exact leaf (.inr ⟨h2, .inl ⟨p, rfl⟩⟩)
        | er c fs ρ' => rw [h2] at e; cases e; exact leaf (.inr ⟨h2, .inr ⟨c, fs, ρ', rfl⟩⟩)
theorem s_for (hi : IOk K A wi δ it) (ht : TkOk K A none g δ tk) (hb : SOk K A U wr δ G tb δ δ f) : SOk K A U wr δL G (tFor wi g tb) δ δ (xFor it tk f) := by
  have key : ∀ ρ o, xFor it tk f ρ = some o → (∃ ρ', o = .nx ρ' ∧ Run K U (tFor wi g tb) (embE A δ ρ) (.nx (embE A δ ρ'))) ∨ (∃ p, o = .rt p ∧ Run K U (tFor wi g tb) (embE A δ ρ) (.rt (emb A wr p))) ∨
      ∃ c fs ρ', o = .er c fs ρ' ∧ ∃ δe, G δe ∧ Run K U (tFor wi g tb) (embE A δ ρ) (.er (A c) fs (embE A δe ρ')) := fun ρ o e => by
    unfold xFor at e
    cases hx : it ρ with
    | none => rw [hx] at e; cases e
    | some xs =>
      rw [hx] at e
      have hw := hi ρ xs hx
      obtain ⟨m, r, hm, r0, hk, hend⟩ := forL_runs xs ρ o e
      have go : ∀ o', After K U g tb (xs.map (emb A .s)) (embE A δ (r m)) m o' → Run K U (tFor wi g tb) (embE A δ ρ) o' := fun o' ha => by
        refine run_for hw (fun k => embE A δ (r k)) m (by rw [List.length_map]; exact hm) (by rw [r0]; exact Weak.refl _) (fun k d hk' hd => ?_) ha
        obtain ⟨x', ρ1, a, b, c⟩ := hk k hk'
        rw [List.getElem?_map, a] at hd
        cases hd
        refine ⟨_, ht.ok x' _ _ b, ?_⟩
        rcases c with c | c
        · exact .inl (hb.nx _ _ c)
        · exact .inr (hb.ct _ _ c)
      rcases hend with ⟨a, rfl⟩ | ⟨x', ρ1, a, b, ⟨ρ2, c, rfl⟩ | ⟨c, ⟨p, rfl⟩ | ⟨c', fs, ρ', rfl⟩⟩⟩
      · exact .inl ⟨_, rfl, go _ (.all (by rw [List.length_map]; exact a))⟩
      · exact .inl ⟨_, rfl, go _ (.brk (by rw [List.getElem?_map, a]; rfl) (ht.ok x' _ _ b) (hb.bk _ _ c))⟩
      · exact .inr (.inl ⟨_, rfl, go _ (.ret (by rw [List.getElem?_map, a]; rfl) (ht.ok x' _ _ b) (hb.rt _ _ c))⟩)
      · obtain ⟨δe, g1, hr⟩ := hb.er _ _ _ _ c
        exact .inr (.inr ⟨_, _, _, rfl, δe, g1, go _ (.err (by rw [List.getElem?_map, a]; rfl) (ht.ok x' _ _ b) hr)⟩)
  refine ⟨fun ρ ρ' e => ?_, fun ρ p e => ?_, fun ρ ρ' e => ?_, fun ρ ρ' e => ?_, fun ρ c fs ρ' e => ?_⟩ <;>
    rcases key _ _ e with ⟨_, h, hr⟩ | ⟨_, h, hr⟩ | ⟨_, _, _, h, hr⟩ <;> cases h <;> exact hr
theorem whileL_runs : ∀ (n : Nat) (ρ : PEnv) (o : PO), whileL x f n ρ = some o → ∃ (m : Nat) (r : Nat → PEnv), r 0 = ρ ∧ o = .nx (r m) ∧ (∀ k, k ≤ m → x (r k) = some (.ok (.bl (decide (k < m))))) ∧ ∀ k, k < m → f (r k) = some (.nx (r (k + 1)))
  | 0, _, _, e => nomatch e
  | n + 1, ρ, o, e => by
    unfold whileL at e
    split at e
    · rename_i h1
      split at e
      · rename_i ρ' h2
        obtain ⟨m, r, r0, ho, hc, hs⟩ := whileL_runs n ρ' o e
        refine ⟨m + 1, fun k => match k with | 0 => ρ | k + 1 => r k, rfl, ho, fun k hk => ?_, fun k hk => ?_⟩
        · cases k with
          | zero => rw [decide_eq_true (Nat.succ_pos m)]; exact h1
          | succ k => rw [show decide (k + 1 < m + 1) = decide (k < m) from decide_eq_decide.mpr (by omega)]; exact hc k (by omega)
        · cases k with
          | zero => show f ρ = some (.nx (r 0)); rw [r0]; exact h2
          | succ k => exact hs k (by omega)
      · cases e
    · rename_i h1
      cases e
      exact ⟨0, fun _ => ρ, rfl, rfl, fun k hk => by rw [decide_eq_false (Nat.not_lt_zero k)]; exact h1, fun k hk => absurd hk (Nat.not_lt_zero _)⟩
    · cases e
theorem s_while {n : Nat} (hc : TOk K A U tt δ x) (hb : SOk K A U wr δ G tb δ δ f) : SOk K A U wr δL G (tWhile tt tb) δ δ (xWhile n x f) := by
  have key : ∀ ρ o, xWhile n x f ρ = some o → ∃ ρ', o = .nx ρ' ∧ Run K U (tWhile tt tb) (embE A δ ρ) (.nx (embE A δ ρ')) := fun ρ o e => by
    obtain ⟨m, r, r0, ho, hk, hs⟩ := whileL_runs n ρ o e
    refine ⟨r m, ho, ?_⟩
    exact run_while m (fun k => embE A δ (r k)) (by rw [r0]; exact Weak.refl _) (fun k hk' => hc.ok _ _ (hk k hk')) fun k hk' => hb.nx _ _ (hs k hk')
  refine ⟨fun ρ ρ' e => ?_, fun ρ p e => ?_, fun ρ ρ' e => ?_, fun ρ ρ' e => ?_, fun ρ c fs ρ' e => ?_⟩ <;>
    obtain ⟨_, h, hr⟩ := key _ _ e <;> cases h
  exact hr
/-! comprehensions -/
theorem lcL_runs {h : P → Option (Option P)} : ∀ (xs ys : List P), lcL h xs = some ys → (∀ x ∈ xs, ∃ y, h x = some y) ∧ ys = (xs.filter fun x => ((h x).getD none).isSome).map fun x => ((h x).getD none).getD .non
  | [], ys, e => by cases e; exact ⟨(fun _ h => nomatch h), rfl⟩
  | x :: xs, ys, e => by
    unfold lcL at e
    cases h1 : h x with
    | none => rw [h1] at e; cases e
    | some y =>
      rw [h1] at e
      simp only at e
      cases h2 : lcL h xs with
      | none => rw [h2] at e; cases e
      | some zs =>
        rw [h2] at e
        cases e
        obtain ⟨a, b⟩ := lcL_runs xs zs h2
        refine ⟨fun z hz => ?_, ?_⟩
        · rcases List.mem_cons.mp hz with rfl | hz
          · exact ⟨y, h1⟩
          · exact a z hz
        · cases y with
          | none => simp [h1, List.filter_cons, ← b]
          | some p => simp [h1, List.filter_cons, ← b]
theorem lc_frame {p : P} (hf : XOk K A (fun _ _ _ _ => False) te δ y w) {ρ : PEnv} (e : y ρ = some (.ok p)) : EvS K te (embE A δ ρ) (emb A w p) := hf.ok ρ p e
theorem x_lc {c : Option X} (hi : IOk K A wi δ it) (hw : w.own = true) (hk : ∀ n, w.kid n = w.kid 0) (ht : TkOk K A (some vs) g δ tk) (hc : match c with | none => tt = tYes | some c => TOk K A (fun _ _ _ _ => False) tt δ c) (he : XOk K A (fun _ _ _ _ => False) te δ y (w.kid 0)) :
    XOk K A U (tLc wi g tt te vs) δ (xLc it tk c y vs) w := .mk (fun ρ p e => by
  unfold xLc at e
  cases h1 : it ρ with
  | none => rw [h1] at e; cases e
  | some xs =>
    rw [h1] at e
    simp only at e
    split at e
    · rename_i hl
      cases h2 : lcL (lcStep tk c y (wipeP ρ vs)) xs with
      | none => rw [h2] at e; cases e
      | some ys =>
        rw [h2] at e
        cases e
        obtain ⟨a, b⟩ := lcL_runs xs ys h2
        have hW := hi ρ xs h1
        have e1 : emb A w (.lst ys) = .lst true (ys.map (emb A (w.kid 0))) := by
          rw [emb_lst, hw]
          refine congrArg _ ?_
          have : ∀ (i : Nat) (zs : List P), embs A w i zs = zs.map (emb A (w.kid 0)) := fun i zs => by
            induction zs generalizing i with
            | nil => rw [embs]; rfl
            | cons z zs ih => rw [embs, ih, hk i]; rfl
          exact this 0 ys
        rw [e1, b, List.map_map]
        have fact : ∀ x ∈ xs, ∃ ρ1, tk x (wipeP ρ vs) = some ρ1 ∧ EvT K tt (embE A δ ρ1) ((lcStep tk c y (wipeP ρ vs) x).getD none).isSome ∧ (((lcStep tk c y (wipeP ρ vs) x).getD none).isSome = true → EvS K te (embE A δ ρ1) (emb A (w.kid 0) (((lcStep tk c y (wipeP ρ vs) x).getD none).getD .non))) := fun x hx => by
          obtain ⟨z, hz⟩ := a x hx
          rw [hz]
          unfold lcStep at hz
          cases h3 : tk x (wipeP ρ vs) with
          | none => rw [h3] at hz; cases hz
          | some ρ1 =>
            rw [h3] at hz
            refine ⟨ρ1, rfl, ?_⟩
            cases c with
            | none =>
              simp only at hz hc
              split at hz
              · rename_i q hq
                cases hz
                subst hc
                exact ⟨et_yes, fun _ => he.ok ρ1 q hq⟩
              · cases hz
            | some c =>
              simp only at hz hc
              split at hz
              · rename_i hb
                split at hz
                · rename_i q hq
                  cases hz
                  exact ⟨hc.ok ρ1 true hb, fun _ => he.ok ρ1 q hq⟩
                · cases hz
              · rename_i hb
                cases hz
                exact ⟨hc.ok ρ1 false hb, fun z => nomatch z⟩
              · cases hz
        refine ev_lc (inj := emb A .s) hW (fun x => embE A δ ((tk x (wipeP ρ vs)).getD [])) (fun x => ((lcStep tk c y (wipeP ρ vs) x).getD none).isSome) (fun x => emb A (w.kid 0) (((lcStep tk c y (wipeP ρ vs) x).getD none).getD .non)) hl (fun x hx => ?_) (fun x hx => ?_) (fun x hx hp => ?_)
        · obtain ⟨ρ1, h3, _⟩ := fact x hx
          rw [h3, ← wipe_emb]
          exact ht.ok x _ _ h3
        · obtain ⟨ρ1, h3, h4, _⟩ := fact x hx
          rw [h3]
          exact h4
        · obtain ⟨ρ1, h3, _, h5⟩ := fact x hx
          rw [h3]
          exact h5 hp
    · cases e) (fun ρ c' fs e => by
  unfold xLc at e
  split at e
  · cases e
  · split at e
    · split at e <;> cases e
    · cases e)
/-! try: x = .. except C as e: y = e -/
theorem xTry_eq {sub : Nat → Bool} {ρ : PEnv} {o : PO} (e : xTry sub i j f ρ = some o) : (∃ c fs ρ', f ρ = some (.er c fs ρ') ∧ sub c = true ∧ o = .nx (((ρ'.set i none).set j (some (.exc c fs))).set i none)) ∨ (f ρ = some o ∧ ∀ c fs ρ', o ≠ .er c fs ρ') := by
  unfold xTry at e
  split at e
  · rename_i c fs ρ' h
    split at e
    · rename_i hs
      cases e
      exact .inl ⟨c, fs, ρ', h, hs, rfl⟩
    · cases e
  · rename_i h
    exact .inr ⟨e, fun c fs ρ' z => h c fs ρ' (by rw [e, z])⟩
theorem s_try {sub : Nat → Bool} {cV : Value} {tw : WX → TS} (hs : ∀ c, sub c = true → PySem.W.exmOne K (.ref (A c)) cV = some true) (hj : δ.getD j .s = .s) (h : ∀ U', SOk K A U' wr δL (fun δe => δe = δ) (tw U') δ δ f)
    (hb : ∀ ρ ρ', f ρ ≠ some (.bk ρ')) (hc : ∀ ρ ρ', f ρ ≠ some (.ct ρ')) : SOk K A U wr δL G (tKeep K cV i j tw) δ δ (xTry sub i j f) where
  nx := fun ρ ρ' e => by
    rcases xTry_eq e with ⟨c, fs, ρ1, h1, h2, h3⟩ | ⟨h1, _⟩
    · cases h3
      have := run_keep_er (K := K) (W := U) (i := i) (j := j) (fun U' => by
        obtain ⟨δe, g, r⟩ := (h U').er ρ c fs ρ1 h1
        rw [g] at r
        exact r) (hs c h2)
      rw [embE_none, embE_set δ δ (ρ1.set i none) j .s _ hj fun _ _ => rfl, embE_none, emb_exc]
      exact this
    · exact run_keep_ok fun U' => (h U').nx ρ ρ' h1
  rt := fun ρ p e => by
    rcases xTry_eq e with ⟨c, fs, ρ1, h1, h2, h3⟩ | ⟨h1, _⟩
    · cases h3
    · exact run_keep_rt fun U' => (h U').rt ρ p h1
  bk := fun ρ ρ' e => by
    rcases xTry_eq e with ⟨c, fs, ρ1, h1, h2, h3⟩ | ⟨h1, _⟩
    · cases h3
    · exact absurd h1 (hb ρ ρ')
  ct := fun ρ ρ' e => by
    rcases xTry_eq e with ⟨c, fs, ρ1, h1, h2, h3⟩ | ⟨h1, _⟩
    · cases h3
    · exact absurd h1 (hc ρ ρ')
  er := fun ρ c fs ρ' e => by
    rcases xTry_eq e with ⟨c, fs, ρ1, h1, h2, h3⟩ | ⟨_, h1⟩
    · cases h3
    · exact absurd rfl (h1 _ _ _)
end
end FP

namespace FP
open PySem PySem.Spec PyProof.Rows L2

/-! ### operators, built-ins: of pure data -/
def qAdd : P → P → Option P
  | .sc (.int i), .sc (.int j) => some (.int (i + j))
  | .sc (.str a), .sc (.str b) => if a.length + b.length ≤ sizeLine then some (.str (a ++ b)) else none
  | .lst xs, .lst ys => if xs.length + ys.length ≤ sizeLine then some (.lst (xs ++ ys)) else none
  | .tup xs, .tup ys => if xs ≠ [] ∧ xs.length + ys.length ≤ sizeLine then some (.tup (xs ++ ys)) else none
  | _, _ => none
/-- + of lists alone -/
def qCat : P → P → Option P
  | .lst xs, .lst ys => if xs.length + ys.length ≤ sizeLine then some (.lst (xs ++ ys)) else none
  | _, _ => none
def qSub : P → P → Option P
  | .sc (.int i), .sc (.int j) => some (.int (i - j))
  | _, _ => none
def mulOk (i j : Int) : Prop := (-(2 ^ 64) < i ∧ i < 2 ^ 64) ∨ (-(2 ^ 64) < j ∧ j < 2 ^ 64)
instance {i j : Int} : Decidable (mulOk i j) := by unfold mulOk; infer_instance
def qMul : P → P → Option P
  | .sc (.int i), .sc (.int j) => if mulOk i j then some (.int (i * j)) else none
  | _, _ => none
def qRep : P → P → Option P
  | .lst xs, .sc (.int k) => if -(2 ^ 63) ≤ k ∧ k < 2 ^ 63 ∧ xs.length * k.toNat ≤ sizeLine then some (.lst (List.replicate k.toNat xs).flatten) else none
  | _, _ => none
def qFd : P → P → Option P
  | .sc (.int i), .sc (.int j) => if 0 < j ∧ j < 1073741824 then some (.int (i / j)) else none
  | _, _ => none
def qMd : P → P → Option P
  | .sc (.int i), .sc (.int j) => if 0 < j then some (.int (i % j)) else none
  | _, _ => none
def qPw : P → P → Option P
  | .sc (.int i), .sc (.int j) => if 0 ≤ j ∧ j ≤ 1000000 ∧ i.natAbs < 2 ^ 64 then some (.int (i ^ j.toNat)) else none
  | _, _ => none
def qNg : P → Option P
  | .sc (.int i) => some (.int (-i))
  | _ => none
mutual
def pyP : P → PyData
  | .sc .non => .none
  | .sc (.bl b) => .bool b
  | .sc (.int i) => .int i
  | .sc (.str s) => .str s
  | .sc _ => .none
  | .lst ps => .list (pyPs ps)
  | .tup ps => .tuple (pyPs ps)
  | _ => .none
def pyPs : List P → List PyData
  | [] => []
  | p :: ps => pyP p :: pyPs ps
end
mutual
/-- how deep, and that == may be asked of it -/
def fitP : Nat → P → Bool
  | _, .sc .non => true
  | _, .sc (.bl _) => true
  | _, .sc (.int _) => true
  | _, .sc (.str s) => PyData.strOk s
  | n + 1, .lst ps => fitPs n ps
  | n + 1, .tup ps => fitPs n ps
  | _, _ => false
def fitPs : Nat → List P → Bool
  | _, [] => true
  | n, p :: ps => fitP n p && fitPs n ps
end
def eqP (p q : P) : Bool := PyData.eqv (pyP p) (pyP q)
def eqOk : P → P → Option Bool
  | .sc x, .sc y => if scal x y = true then some (decide (x = y)) else none
  | p, q => if fitP 60 p = true ∧ fitP 60 q = true then some (eqP p q) else none
def qEq (p q : P) : Option P := (eqOk p q).map fun b => .bl b
def qNe (p q : P) : Option P := (eqOk p q).map fun b => .bl !b
def qLt : P → P → Option P
  | .sc (.int i), .sc (.int j) => some (.bl (decide (i < j)))
  | .sc (.str a), .sc (.str b) => some (.bl (decide (a.cps.toList < b.cps.toList)))
  | _, _ => none
def qLe : P → P → Option P
  | .sc (.int i), .sc (.int j) => some (.bl (decide (i ≤ j)))
  | .sc (.str a), .sc (.str b) => some (.bl !decide (b.cps.toList < a.cps.toList))
  | _, _ => none
def qGt : P → P → Option P
  | .sc (.int i), .sc (.int j) => some (.bl (decide (j < i)))
  | _, _ => none
def qGe : P → P → Option P
  | .sc (.int i), .sc (.int j) => some (.bl (decide (j ≤ i)))
  | _, _ => none
def scs : List P → Option (List V)
  | [] => some []
  | .sc x :: ps => match scs ps with
    | some xs => some (x :: xs)
    | none => none
  | _ => none
def inOk : P → P → Option Bool
  | .sc x, .lst ps => match scs ps with
    | some xs => if flatV x = true ∧ xs.all flatV = true then some (inV x xs) else none
    | none => none
  | .sc x, .tup ps => match scs ps with
    | some xs => if flatV x = true ∧ xs.all flatV = true then some (inV x xs) else none
    | none => none
  | .sc (.str a), .sc (.str b) => match a.cps.toList with
    | [c] => some (decide (c ∈ b.cps.toList))
    | _ => none
  | _, _ => none
def qIn (p q : P) : Option P := (inOk p q).map fun b => .bl b
def qNi (p q : P) : Option P := (inOk p q).map fun b => .bl !b
def isNoP : P → Bool
  | .sc .non => true
  | _ => false
def isOk : P → P → Option Bool
  | p, .sc .non => some (isNoP p)
  | .sc (.bl a), .sc (.bl b) => some (decide (a = b))
  | _, _ => none
def qIs (p q : P) : Option P := (isOk p q).map fun b => .bl b
def qIsn (p q : P) : Option P := (isOk p q).map fun b => .bl !b
def qIx : P → P → Option P
  | .lst ps, .sc (.int i) => atI ps i
  | .tup ps, .sc (.int i) => atI ps i
  | .sc (.str a), .sc (.int i) => if a.length ≤ sizeLine then (atI a.cps.toList i).map fun c => .str ⟨#[c]⟩ else none
  | _, _ => none
/-! calls -/
def qLen : List P → Option P
  | [.lst ps] => some (.int (ps.length : Nat))
  | [.tup ps] => some (.int (ps.length : Nat))
  | [.sc (.str a)] => if a.length ≤ sizeLine then some (.int (a.length : Nat)) else none
  | _ => none
def qInt : List P → Option P
  | [.sc (.int i)] => some (.int i)
  | [.sc (.bl k)] => some (.int (if k = true then 1 else 0))
  | [.sc (.str a)] => match intText? a with
    | some n => if a.length ≤ 640 then some (.int n) else none
    | none => none
  | _ => none
def qStr : List P → Option P
  | [.sc (.int i)] => if i.natAbs.log2 < 1920 then some (.str (Str.ofString (toString i))) else none
  | _ => none
def qList : List P → Option P
  | [.lst ps] => some (.lst ps)
  | [.tup ps] => some (.lst ps)
  | _ => none
def qTuple : List P → Option P
  | [.lst ps] => some (.tup ps)
  | _ => none
def intsP : List P → Option (List Int)
  | [] => some []
  | .sc (.int i) :: ps => match intsP ps with
    | some xs => some (i :: xs)
    | none => none
  | _ => none
def blsP : List P → Option (List Bool)
  | [] => some []
  | .sc (.bl i) :: ps => match blsP ps with
    | some xs => some (i :: xs)
    | none => none
  | _ => none
def strsP : List P → Option (List Str)
  | [] => some []
  | .sc (.str i) :: ps => match strsP ps with
    | some xs => some (i :: xs)
    | none => none
  | _ => none
def qSum : List P → Option P
  | [.lst ps] => (intsP ps).map fun ns => .int ns.sum
  | _ => none
def qAll : List P → Option P
  | [.lst ps] => (blsP ps).map fun ns => .bl (ns.all id)
  | _ => none
def qAny : List P → Option P
  | [.lst ps] => (blsP ps).map fun ns => .bl (ns.any id)
  | _ => none
def maxL : List Int → Int
  | [] => 0
  | x :: xs => xs.foldl max x
def minL : List Int → Int
  | [] => 0
  | x :: xs => xs.foldl min x
def qMax : List P → Option P
  | [.sc (.int i), .sc (.int j)] => some (.int (if j > i then j else i))
  | [.lst ps] => match intsP ps with
    | some (n :: ns) => some (.int (maxL (n :: ns)))
    | _ => none
  | _ => none
def qMin : List P → Option P
  | [.sc (.int i), .sc (.int j)] => some (.int (if j < i then j else i))
  | [.lst ps] => match intsP ps with
    | some (n :: ns) => some (.int (minL (n :: ns)))
    | _ => none
  | _ => none
def qAbs : List P → Option P
  | [.sc (.int i)] => some (.int (if i < 0 then -i else i))
  | _ => none
def tyP : P → String
  | .sc .non => "NoneType"
  | .sc (.bl _) => "bool"
  | .sc (.int _) => "int"
  | .sc (.str _) => "str"
  | .lst _ => "list"
  | .tup _ => "tuple"
  | .dK _ _ => "dict"
  | _ => ""
/-- isinstance(x, b), b a built-in class -/
def qIsi : List P → Option P
  | [x, .sc (.ty b)] => if tyP x = "" then none else (kitB (tyP x) b).map fun r => .bl r
  | _ => none
section
variable {K : PySem.W.Frag} {A : Nat → Addr} {w w1 w2 : W}
theorem o_sub : Op2Ok K A rSb qSub w1 w2 w := fun x y z e => by
  unfold qSub at e
  split at e <;> cases e
  simp only [emb_sc]
  exact sub_int'
theorem o_mul : Op2Ok K A rTimes qMul w1 w2 w := fun x y z e => by
  unfold qMul at e
  split at e
  · split at e
    · rename_i h
      cases e
      simp only [emb_sc]
      exact times_int h
    · cases e
  · cases e
theorem o_fd : Op2Ok K A rFd qFd w1 w2 w := fun x y z e => by
  unfold qFd at e
  split at e
  · split at e
    · rename_i h
      cases e
      simp only [emb_sc]
      exact fd_int h
    · cases e
  · cases e
theorem o_md : Op2Ok K A rMd qMd w1 w2 w := fun x y z e => by
  unfold qMd at e
  split at e
  · split at e
    · rename_i h
      cases e
      simp only [emb_sc]
      exact md_int h
    · cases e
  · cases e
theorem o_pw : Op2Ok K A rPw qPw w1 w2 w := fun x y z e => by
  unfold qPw at e
  split at e
  · split at e
    · rename_i h
      cases e
      simp only [emb_sc]
      exact pw_int h
    · cases e
  · cases e
theorem o_ng : Op1Ok K A rNg qNg w1 w := fun x z e => by
  unfold qNg at e
  split at e <;> cases e
  simp only [emb_sc]
  exact ng_int
/-- of lists each operand's items are alike in who owns them -/
def elW : W → W → Prop
  | .s, w => w = .s
  | .o u, w => w = u
  | _, _ => False
theorem emb_el {w w' : W} {ps : List P} (h : elW w w') : emb A w (.lst ps) = .lst w.own (ps.map (emb A w')) := by
  cases w with
  | s => rw [emb_lst, embs_s, show w' = .s from h]
  | o u => rw [emb_lst, embs_o, show w' = u from h]
  | _ => exact h.elim
theorem opt_ite {α : Type} {c : Prop} [Decidable c] {a z : α} (e : (if c then some a else none) = some z) : c ∧ a = z := by
  by_cases h : c
  · rw [if_pos h] at e; cases e; exact ⟨h, rfl⟩
  · rw [if_neg h] at e; cases e
/-- + of lists -/
theorem o_addL (h1 : elW w1 w) (h2 : elW w2 w) : Op2Ok K A (rPlus K) qCat w1 w2 (.o w) := fun x y z e => by
  unfold qCat at e
  split at e
  · rename_i xs ys
    obtain ⟨hl, rfl⟩ := opt_ite e
    rw [emb_el h1, emb_el h2, emb_lst, embs_o, List.map_append]
    exact plus_lst (by rw [List.length_map, List.length_map]; exact hl)
  · cases e
theorem plus_tup {ds es : List D} (hn : ds ≠ []) (h : ds.length + es.length ≤ sizeLine) : Op2 K (rPlus K) (.tup false ds) (.tup false es) (.tup false (ds ++ es)) := fun A0 H x y B C w p1 p2 n Q q => by
  obtain rfl := p1.shd _ rfl
  obtain rfl := p2.shd _ rfl
  cases p1 with
  | @tupS a xs _ hs ra =>
  cases p2 with
  | @tupS b ys _ hs' rb =>
  have h1 : SqT K H a xs := hs.elim (fun h => .inl h.1) .inr
  have h2 : SqT K H b ys := hs'.elim (fun h => .inl h.1) .inr
  refine .inr (.inr (.inr ⟨a, b, xs, ys, rfl, rfl, h1, h2, fun z => hn (List.eq_nil_of_length_eq_zero (by rw [← ra.len, z]; rfl)), by rw [ra.len, rb.len]; exact h, fun hz => ?_, fun hz p hp => ?_⟩))
  · subst hz
    cases rb
    refine q _ H [] Ex.rfl' (fun _ h => nomatch h) ?_
    rw [Own.and_nil, List.append_nil]
    exact .tupS hs ra
  · refine q _ _ [] (Ex.new hp) (fun _ h => nomatch h) ?_
    rw [Own.and_nil]
    have np : ¬ A0 p := fun z => w p z hp
    have r := (ra.app rb fun _ h => nomatch h).keep _ (⟨fun c o e m => ⟨Ex.new hp c o e, m⟩, fun _ _ h => nomatch h⟩ : Keep A0 H ([] ++ []) A0 (upd H p (.tup (xs ++ ys))))
    exact .tupS (.inl ⟨.inl upd_same, np⟩) r
theorem o_add : Op2Ok K A (rPlus K) qAdd .s .s .s := fun x y z e => by
  unfold qAdd at e
  split at e
  · cases e
    simp only [emb_sc]
    exact plus_int
  · obtain ⟨hl, rfl⟩ := opt_ite e
    simp only [emb_sc]
    exact plus_str hl
  · obtain ⟨hl, rfl⟩ := opt_ite e
    rename_i xs ys
    have h := plus_lst (K := K) (o := false) (o' := false) (ds := xs.map (emb A .s)) (es := ys.map (emb A .s)) (by rw [List.length_map, List.length_map]; exact hl)
    rw [emb_lst, emb_lst, emb_lst, embs_s, embs_s, embs_s, List.map_append]
    intro A0 H x y B C w p1 p2 n Q q
    refine h A0 H x y B C w p1 p2 n Q fun v H' E e1 f1 p => ?_
    refine q v H' [] e1 (fun _ h => nomatch h) ?_
    rw [Own.and_nil]
    have := p.loose (A' := A0) (H' := H') _ ⟨fun a o e n => ⟨e, fun z => n (.inl z)⟩, fun a o hc e => ⟨e, fun z => ?_⟩⟩
    · rw [D.frz] at this
      have e2 : D.frzs (List.map (emb A .s) xs ++ List.map (emb A .s) ys) = List.map (emb A .s) xs ++ List.map (emb A .s) ys := by
        rw [← List.map_append]
        exact frzs_map_s
      rw [e2] at this
      exact this
    · rcases f1 a hc with h | h | h
      · exact w a z h
      · have := p1.shd _ rfl; rw [this] at h; cases h
      · have := p2.shd _ rfl; rw [this] at h; cases h
  · obtain ⟨⟨hn, hl⟩, rfl⟩ := opt_ite e
    rename_i xs ys
    rw [emb_tup, emb_tup, emb_tup, embs_s, embs_s, embs_s, List.map_append]
    exact plus_tup (fun z => hn (List.map_eq_nil_iff.mp z)) (by rw [List.length_map, List.length_map]; exact hl)
  · cases e
theorem rep_lst {o : Bool} {xs : List P} {k : Int} (h : -(2 ^ 63) ≤ k ∧ k < 2 ^ 63 ∧ xs.length * k.toNat ≤ sizeLine) : Op2 K rTimes (emb A (.o .s) (.lst xs)) (.int k) (emb A (.o .s) (.lst (List.replicate k.toNat xs).flatten)) := fun A0 H x y B C w p1 p2 n Q q => by
  rw [emb_lst, embs_o] at p1
  rw [emb_lst, embs_o] at q
  cases p2
  cases p1 with
  | @lstO a ys _ B1 ha hA hna r1 =>
  have hB : B1 = [] := by
    have : ∀ (zs : List P) {vs : List V} {B : List Addr}, RpAll K A0 H vs (zs.map (emb A .s)) B → B = [] := fun zs => by
      induction zs with
      | nil => intro vs B r; cases r; rfl
      | cons z zs ih =>
        intro vs B r
        cases r with
        | cons r t n =>
          rw [r.shd _ (emb_shd z), ih t]
          rfl
    exact this _ r1
  subst hB
  refine .inr (.inr ⟨a, k, ys, rfl, rfl, ha, h.1, h.2.1, by rw [r1.len, List.length_map]; exact h.2.2, fun p hp => ?_⟩)
  have rr : ∀ m, RpAll K A0 H (List.replicate m ys).flatten ((List.replicate m xs).flatten.map (emb A .s)) [] := fun m => by
    induction m with
    | zero => exact .nil
    | succ m ih =>
      rw [List.replicate_succ, List.flatten_cons, List.replicate_succ, List.flatten_cons, List.map_append]
      exact r1.app ih fun _ h => nomatch h
  refine q _ _ [p] (Ex.new hp) (fun c hc => ?_) (Rp.newL hp (rr _))
  rw [List.mem_singleton.mp hc]
  exact .inl hp
theorem o_rep : Op2Ok K A rTimes qRep (.o .s) w2 (.o .s) := fun x y z e => by
  unfold qRep at e
  split at e
  · obtain ⟨hl, rfl⟩ := opt_ite e
    rw [emb_sc]
    exact rep_lst (o := true) hl
  · cases e
/-! == -/
mutual
theorem py_emb : ∀ (w : W) (p : P), py (emb A w p) = pyP p
  | _, .sc x => by rw [emb_sc]; cases x <;> rfl
  | _, .cls c => by rw [emb_cls]; rfl
  | w, .lst ps => by rw [emb_lst, py, pyP, pys_embs w 0 ps]
  | w, .tup ps => by rw [emb_tup, py, pyP, pys_embs w 0 ps]
  | w, .ins c fs ps => by rw [emb_ins, py]; rfl
  | w, .dK c ps => by rw [emb, py]; rfl
  | w, .dT c ps => by rw [emb, py]; rfl
  | w, .exc c ps => by rw [emb, py]; rfl
theorem pys_embs : ∀ (w : W) (i : Nat) (ps : List P), pys (embs A w i ps) = pyPs ps
  | _, _, [] => by rw [embs, pys, pyPs]
  | w, i, p :: ps => by rw [embs, pys, pyPs, py_emb, pys_embs]
end
theorem fitPs_mem : ∀ {n : Nat} {ps : List P}, fitPs n ps = true → ∀ p ∈ ps, fitP n p = true
  | n, [], h, p, hp => nomatch hp
  | n, q :: ps, h, p, hp => by
    rw [fitPs, Bool.and_eq_true] at h
    rcases List.mem_cons.mp hp with rfl | hp
    · exact h.1
    · exact fitPs_mem h.2 p hp
theorem fit_emb : ∀ (n : Nat) {p : P}, fitP n p = true → fit n (emb A .s p)
  | 0, .sc x, h => by rw [emb_sc]; cases x <;> simp_all [fitP, fit, PyData.canLay0]
  | n + 1, .sc x, h => by rw [emb_sc]; cases x <;> simp_all [fitP, fit, PyData.canLay0]
  | n + 1, .lst ps, h => by
    rw [emb_lst, embs_s]
    intro d hd
    obtain ⟨p, hp, rfl⟩ := List.mem_map.mp hd
    rw [fitP] at h
    exact fit_emb n (fitPs_mem h p hp)
  | n + 1, .tup ps, h => by
    rw [emb_tup, embs_s]
    intro d hd
    obtain ⟨p, hp, rfl⟩ := List.mem_map.mp hd
    rw [fitP] at h
    exact fit_emb n (fitPs_mem h p hp)
  | 0, .lst _, h => by simp [fitP] at h
  | 0, .tup _, h => by simp [fitP] at h
  | 0, .cls _, h => by simp [fitP] at h
  | n + 1, .cls _, h => by simp [fitP] at h
  | 0, .ins _ _ _, h => by simp [fitP] at h
  | n + 1, .ins _ _ _, h => by simp [fitP] at h
  | 0, .dK _ _, h => by simp [fitP] at h
  | n + 1, .dK _ _, h => by simp [fitP] at h
  | 0, .dT _ _, h => by simp [fitP] at h
  | n + 1, .dT _ _, h => by simp [fitP] at h
  | 0, .exc _ _, h => by simp [fitP] at h
  | n + 1, .exc _ _, h => by simp [fitP] at h
theorem eqOk_eq {x y : P} {b : Bool} (e : eqOk x y = some b) : (∃ a c, x = .sc a ∧ y = .sc c ∧ scal a c = true ∧ b = decide (a = c)) ∨ (fitP 60 x = true ∧ fitP 60 y = true ∧ b = eqP x y) := by
  unfold eqOk at e
  split at e
  · obtain ⟨h, rfl⟩ := opt_ite e
    exact .inl ⟨_, _, rfl, rfl, h, rfl⟩
  · obtain ⟨⟨h1, h2⟩, rfl⟩ := opt_ite e
    exact .inr ⟨h1, h2, rfl⟩
theorem map_blE {o : Option Bool} {m : Bool → Bool} {z : P} (e : (o.map fun b => P.bl (m b)) = some z) : ∃ b, o = some b ∧ z = .bl (m b) := by
  cases o with
  | none => cases e
  | some b => cases e; exact ⟨b, rfl, rfl⟩
theorem o_eq : Op2Ok K A (rEqq K) qEq .s .s w := fun x y z e => by
  obtain ⟨b, e', rfl⟩ := map_blE (m := fun b => b) e
  clear e
  rw [emb_sc]
  rcases eqOk_eq e' with ⟨a, c, rfl, rfl, h, rfl⟩ | ⟨h1, h2, rfl⟩
  · rw [emb_sc, emb_sc]
    exact eq_sc h
  · have := eq_data (K := K) (fit_emb (A := A) 60 h1) (fit_emb (A := A) 60 h2) (by decide) (by decide)
    unfold eqD at this
    rwa [py_emb, py_emb] at this
theorem o_ne : Op2Ok K A (rNee K) qNe .s .s w := fun x y z e => by
  obtain ⟨b, e', rfl⟩ := map_blE (m := fun b => !b) e
  clear e
  rw [emb_sc]
  rcases eqOk_eq e' with ⟨a, c, rfl, rfl, h, rfl⟩ | ⟨h1, h2, rfl⟩
  · rw [emb_sc, emb_sc]
    exact ne_sc h
  · have := ne_data (K := K) (fit_emb (A := A) 60 h1) (fit_emb (A := A) 60 h2) (by decide) (by decide)
    unfold eqD at this
    rwa [py_emb, py_emb] at this
theorem o_lt : Op2Ok K A (rLtt K) qLt w1 w2 w := fun x y z e => by
  unfold qLt at e
  split at e <;> cases e <;> simp only [emb_sc]
  · exact lt_int'
  · exact lt_str'
theorem o_le : Op2Ok K A rLee qLe w1 w2 w := fun x y z e => by
  unfold qLe at e
  split at e <;> cases e <;> simp only [emb_sc]
  · exact le_int'
  · exact le_str'
theorem o_gt : Op2Ok K A rGtt qGt w1 w2 w := fun x y z e => by
  unfold qGt at e
  split at e <;> cases e <;> simp only [emb_sc]
  exact gt_int'
theorem o_ge : Op2Ok K A rGee qGe w1 w2 w := fun x y z e => by
  unfold qGe at e
  split at e <;> cases e <;> simp only [emb_sc]
  exact ge_int'
theorem scs_eq : ∀ {ps : List P} {xs : List V}, scs ps = some xs → ps = xs.map P.sc
  | [], xs, e => by cases e; rfl
  | .sc x :: ps, xs, e => by
    unfold scs at e
    split at e
    · rename_i ys h
      cases e
      rw [List.map_cons, ← scs_eq h]
    · cases e
theorem emb_scs (xs : List V) : (xs.map P.sc).map (emb A w) = xs.map D.sc := by
  rw [List.map_map]
  exact List.map_congr_left fun x _ => emb_sc
theorem inOk_eq {x y : P} {b : Bool} (e : inOk x y = some b) : Op2 K (rInn K) (emb A .s x) (emb A .s y) (.bl b) ∧ Op2 K (rNii K) (emb A .s x) (emb A .s y) (.bl !b) := by
  unfold inOk at e
  split at e
  · split at e
    · rename_i xs h
      obtain ⟨⟨h1, h2⟩, rfl⟩ := opt_ite e
      rw [scs_eq h, emb_sc, emb_lst, embs_s, emb_scs]
      exact ⟨in_lst h1 h2, ni_lst h1 h2⟩
    · cases e
  · split at e
    · rename_i xs h
      obtain ⟨⟨h1, h2⟩, rfl⟩ := opt_ite e
      rw [scs_eq h, emb_sc, emb_tup, embs_s, emb_scs]
      exact ⟨in_tp h1 h2, ni_tp h1 h2⟩
    · cases e
  · rename_i a b'
    split at e
    · rename_i c h
      cases e
      have : a = ⟨#[c]⟩ := by
        cases a
        simp only at h
        congr
        exact Array.toList_inj.mp h
      subst this
      rw [emb_sc, emb_sc]
      exact ⟨in_sign', ni_sign'⟩
    · cases e
  · cases e
theorem o_in : Op2Ok K A (rInn K) qIn .s .s w := fun x y z e => by
  obtain ⟨b, e', rfl⟩ := map_blE (m := fun b => b) e
  clear e
  rw [emb_sc]
  exact (inOk_eq e').1
theorem o_ni : Op2Ok K A (rNii K) qNi .s .s w := fun x y z e => by
  obtain ⟨b, e', rfl⟩ := map_blE (m := fun b => !b) e
  clear e
  rw [emb_sc]
  exact (inOk_eq e').2
theorem isNo_emb {p : P} : isNo (emb A w p) = isNoP p := by
  cases p with
  | sc x => rw [emb_sc]; cases x <;> rfl
  | _ => rw [emb]; rfl
theorem o_is : Op2Ok K A rIss qIs w1 w2 w := fun x y z e => by
  obtain ⟨b, e', rfl⟩ := map_blE (m := fun b => b) e
  clear e
  unfold isOk at e'
  split at e' <;> cases e'
  · rw [emb_sc, emb_sc, ← isNo_emb (A := A) (w := w1)]
    exact is_no
  · simp only [emb_sc]
    exact is_bl
theorem o_isn : Op2Ok K A rIsn qIsn w1 w2 w := fun x y z e => by
  obtain ⟨b, e', rfl⟩ := map_blE (m := fun b => !b) e
  clear e
  unfold isOk at e'
  split at e' <;> cases e'
  · rw [emb_sc, emb_sc, ← isNo_emb (A := A) (w := w1)]
    exact isn_no
  · simp only [emb_sc]
    exact isn_bl
theorem atI_map {α β : Type} {f : α → β} {xs : List α} {i : Int} {y : α} (h : atI xs i = some y) : atI (xs.map f) i = some (f y) := by
  unfold atI at h ⊢
  rw [List.length_map]
  cases e : ixN xs.length i with
  | none => rw [e] at h; cases h
  | some j =>
    rw [e] at h
    show (xs.map f)[j]? = _
    rw [List.getElem?_map, show xs[j]? = some y from h]
    rfl
theorem embs_kid {w : W} (hk : ∀ n, w.kid n = w.kid 0) : ∀ (ps : List P) (i : Nat), embs A w i ps = ps.map (emb A (w.kid 0))
  | [], _ => by rw [embs]; rfl
  | p :: ps, i => by rw [embs, embs_kid hk ps, hk i]; rfl
theorem o_ix (hk : ∀ n, w1.kid n = w1.kid 0) : Op2Ok K A (rIx K) qIx w1 w2 (w1.kid 0) := fun x y z e => by
  unfold qIx at e
  split at e
  · rw [emb_sc, emb_lst, embs_kid hk]
    exact ix_lst (atI_map e)
  · rw [emb_sc, emb_tup, embs_kid hk]
    exact ix_tp (atI_map e)
  · split at e
    · rename_i hl
      rename_i a i
      cases h : atI a.cps.toList i with
      | none => rw [h] at e; cases e
      | some c =>
        rw [h] at e
        cases e
        simp only [emb_sc]
        exact ix_st hl h
    · cases e
  · cases e
/-! calls -/
theorem embs1 {p : P} : embs A w 0 [p] = [emb A (w.kid 0) p] := by rw [embs, embs]
theorem embs2 {p q : P} : embs A w 0 [p, q] = [emb A (w.kid 0) p, emb A (w.kid 1) q] := by rw [embs, embs, embs]
theorem c_len : OpCOk K A (rLen K) qLen w1 w := fun xs z e => by
  unfold qLen at e
  split at e
  · cases e
    rw [embs1, emb_sc, emb_lst]
    have := len_lst (K := K) (o := (w1.kid 0).own) (ds := embs A (w1.kid 0) 0 (by assumption))
    rwa [embs_len] at this
  · cases e
    rw [embs1, emb_sc, emb_tup]
    have := len_tp (K := K) (o := (w1.kid 0).own) (ds := embs A (w1.kid 0) 0 (by assumption))
    rwa [embs_len] at this
  · obtain ⟨h, rfl⟩ := opt_ite e
    rw [embs1, emb_sc, emb_sc]
    exact len_st h
  · cases e
theorem c_int : OpCOk K A rIntt qInt w1 w := fun xs z e => by
  unfold qInt at e
  split at e
  · cases e
    rw [embs1, emb_sc, emb_sc]
    exact int_int
  · cases e
    rw [embs1, emb_sc, emb_sc]
    exact int_bl
  · split at e
    · rename_i h
      obtain ⟨h2, rfl⟩ := opt_ite e
      rw [embs1, emb_sc, emb_sc]
      exact int_st h h2
    · cases e
  · cases e
theorem c_str : OpCOk K A rStrI qStr w1 w := fun xs z e => by
  unfold qStr at e
  split at e
  · obtain ⟨h2, rfl⟩ := opt_ite e
    rw [embs1, emb_sc, emb_sc]
    exact str_int h2
  · cases e
theorem emb_eq_kids {u : W} {b : Bool} {ps : List P} (hb : u.own = b) : emb A u (.lst ps) = .lst b (embs A u 0 ps) := by rw [emb_lst, hb]
/-- list(xs): a new list; its items are owned as those of xs are -/
theorem c_list (hk : ∀ n, (w1.kid 0).kid n = (w1.kid 0).kid 0) : OpCOk K A (rListOf K) qList w1 (.o ((w1.kid 0).kid 0)) := fun xs z e => by
  unfold qList at e
  split at e
  · cases e
    rw [embs1, emb_lst, emb_lst, embs_kid hk, embs_o]
    exact list_lst
  · cases e
    rw [embs1, emb_tup, emb_lst, embs_kid hk, embs_o]
    exact list_tp
  · cases e
theorem emb_tup_o {u : W} {ps : List P} : emb A (.o u) (.tup ps) = .tup true (ps.map (emb A u)) := by rw [emb_tup, embs_o]; rfl
theorem c_tuple (hk : ∀ n, (w1.kid 0).kid n = (w1.kid 0).kid 0) : OpCOk K A (rTupOf K) qTuple w1 (.o ((w1.kid 0).kid 0)) := fun xs z e => by
  unfold qTuple at e
  split at e
  · cases e
    rw [embs1, emb_lst, emb_tup_o, embs_kid hk]
    exact tup_lst
  · cases e
theorem intsP_eq : ∀ {ps : List P} {xs : List Int}, intsP ps = some xs → ps = xs.map P.int
  | [], xs, e => by cases e; rfl
  | .sc (.int x) :: ps, xs, e => by
    unfold intsP at e
    split at e
    · rename_i ys h
      cases e
      rw [List.map_cons, ← intsP_eq h]
    · cases e
theorem blsP_eq : ∀ {ps : List P} {xs : List Bool}, blsP ps = some xs → ps = xs.map P.bl
  | [], xs, e => by cases e; rfl
  | .sc (.bl x) :: ps, xs, e => by
    unfold blsP at e
    split at e
    · rename_i ys h
      cases e
      rw [List.map_cons, ← blsP_eq h]
    · cases e
theorem strsP_eq : ∀ {ps : List P} {xs : List Str}, strsP ps = some xs → ps = xs.map P.str
  | [], xs, e => by cases e; rfl
  | .sc (.str x) :: ps, xs, e => by
    unfold strsP at e
    split at e
    · rename_i ys h
      cases e
      rw [List.map_cons, ← strsP_eq h]
    · cases e
theorem embs_scal {u : W} {i : Nat} {f : α → V} : ∀ (xs : List α) (i : Nat), embs A u i (xs.map fun x => P.sc (f x)) = xs.map fun x => D.sc (f x)
  | [], _ => by rw [List.map_nil, embs]; rfl
  | x :: xs, i => by rw [List.map_cons, embs, emb_sc, embs_scal (i := i) xs (i + 1)]; rfl
theorem c_sum : OpCOk K A (rSum K) qSum w1 w := fun xs z e => by
  unfold qSum at e
  split at e
  · rename_i ps
    cases h : intsP ps with
    | none => rw [h] at e; cases e
    | some ns =>
      rw [h] at e
      cases e
      rw [embs1, emb_sc, emb_lst, intsP_eq h, embs_scal (i := 0) (f := V.int)]
      exact sum_ints
  · cases e
theorem c_all : OpCOk K A (rAll K) qAll w1 w := fun xs z e => by
  unfold qAll at e
  split at e
  · rename_i ps
    cases h : blsP ps with
    | none => rw [h] at e; cases e
    | some ns =>
      rw [h] at e
      cases e
      rw [embs1, emb_sc, emb_lst, blsP_eq h, embs_scal (i := 0) (f := V.bl)]
      exact all_bls
  · cases e
theorem c_any : OpCOk K A (rAny K) qAny w1 w := fun xs z e => by
  unfold qAny at e
  split at e
  · rename_i ps
    cases h : blsP ps with
    | none => rw [h] at e; cases e
    | some ns =>
      rw [h] at e
      cases e
      rw [embs1, emb_sc, emb_lst, blsP_eq h, embs_scal (i := 0) (f := V.bl)]
      exact any_bls
  · cases e
theorem foldl_max : ∀ (ns : List Int) (n : Int), n ≤ ns.foldl max n ∧ ∀ y ∈ ns, y ≤ ns.foldl max n
  | [], n => ⟨Int.le_refl _, fun _ h => nomatch h⟩
  | m :: ns, n => by
    obtain ⟨a, b⟩ := foldl_max ns (max n m)
    rw [List.foldl_cons]
    refine ⟨by omega, fun y hy => ?_⟩
    rcases List.mem_cons.mp hy with rfl | hy
    · omega
    · exact b y hy
theorem foldl_min : ∀ (ns : List Int) (n : Int), ns.foldl min n ≤ n ∧ ∀ y ∈ ns, ns.foldl min n ≤ y
  | [], n => ⟨Int.le_refl _, fun _ h => nomatch h⟩
  | m :: ns, n => by
    obtain ⟨a, b⟩ := foldl_min ns (min n m)
    rw [List.foldl_cons]
    refine ⟨by omega, fun y hy => ?_⟩
    rcases List.mem_cons.mp hy with rfl | hy
    · omega
    · exact b y hy
theorem foldl_max_mem : ∀ (ns : List Int) (n : Int), ns.foldl max n = n ∨ ns.foldl max n ∈ ns
  | [], n => .inl rfl
  | m :: ns, n => by
    rw [List.foldl_cons]
    rcases foldl_max_mem ns (max n m) with h | h
    · rw [h]
      by_cases hm : m ≤ n
      · exact .inl (by omega)
      · exact .inr (List.mem_cons.mpr (.inl (by omega)))
    · exact .inr (List.mem_cons_of_mem _ h)
theorem foldl_min_mem : ∀ (ns : List Int) (n : Int), ns.foldl min n = n ∨ ns.foldl min n ∈ ns
  | [], n => .inl rfl
  | m :: ns, n => by
    rw [List.foldl_cons]
    rcases foldl_min_mem ns (min n m) with h | h
    · rw [h]
      by_cases hm : n ≤ m
      · exact .inl (by omega)
      · exact .inr (List.mem_cons.mpr (.inl (by omega)))
    · exact .inr (List.mem_cons_of_mem _ h)
theorem max_ints {o : Bool} {n : Int} {ns : List Int} : OpC K (rMaxx K) [.lst o ((n :: ns).map D.int)] (.int (maxL (n :: ns))) := opc_sc fun A0 H xs B p Q q => by
  obtain ⟨x, rfl, p1⟩ := p.one
  obtain ⟨a, xs, B1, rfl, h1, r1, _⟩ := p1.lst
  rw [r1.ints] at h1
  refine .inr ⟨a, n :: ns, rfl, h1, Nat.succ_pos _, fun m hm hall => ?_⟩
  have e : m = maxL (n :: ns) := by
    obtain ⟨b1, b2⟩ := foldl_max ns n
    have h2 : m ≤ ns.foldl max n := (List.mem_cons.mp hm).elim (fun z => z ▸ b1) (b2 m)
    have h3 : ns.foldl max n ≤ m := (foldl_max_mem ns n).elim (fun z => by rw [z]; exact hall n List.mem_cons_self) fun z => hall _ (List.mem_cons_of_mem _ z)
    show m = ns.foldl max n
    omega
  rw [e]
  exact q
theorem min_ints {o : Bool} {n : Int} {ns : List Int} : OpC K (rMinn K) [.lst o ((n :: ns).map D.int)] (.int (minL (n :: ns))) := opc_sc fun A0 H xs B p Q q => by
  obtain ⟨x, rfl, p1⟩ := p.one
  obtain ⟨a, xs, B1, rfl, h1, r1, _⟩ := p1.lst
  rw [r1.ints] at h1
  refine .inr ⟨a, n :: ns, rfl, h1, Nat.succ_pos _, fun m hm hall => ?_⟩
  have e : m = minL (n :: ns) := by
    obtain ⟨b1, b2⟩ := foldl_min ns n
    have h2 : ns.foldl min n ≤ m := (List.mem_cons.mp hm).elim (fun z => z ▸ b1) (b2 m)
    have h3 : m ≤ ns.foldl min n := (foldl_min_mem ns n).elim (fun z => by rw [z]; exact hall n List.mem_cons_self) fun z => hall _ (List.mem_cons_of_mem _ z)
    show m = ns.foldl min n
    omega
  rw [e]
  exact q
theorem c_max : OpCOk K A (rMaxx K) qMax w1 w := fun xs z e => by
  unfold qMax at e
  split at e
  · cases e
    rw [embs2, emb_sc, emb_sc, emb_sc]
    exact max_int
  · split at e
    · rename_i h
      cases e
      rw [embs1, emb_sc, emb_lst, intsP_eq h, embs_scal (i := 0) (f := V.int)]
      exact max_ints
    · cases e
  · cases e
theorem c_min : OpCOk K A (rMinn K) qMin w1 w := fun xs z e => by
  unfold qMin at e
  split at e
  · cases e
    rw [embs2, emb_sc, emb_sc, emb_sc]
    exact min_int
  · split at e
    · rename_i h
      cases e
      rw [embs1, emb_sc, emb_lst, intsP_eq h, embs_scal (i := 0) (f := V.int)]
      exact min_ints
    · cases e
  · cases e
theorem tyP_emb {p : P} (h : tyP p ≠ "") : tyN (emb A w p) = tyP p := by
  cases p with
  | sc x => rw [emb_sc]; cases x <;> first | rfl | exact absurd rfl h
  | lst ps => rw [emb_lst]; rfl
  | tup ps => rw [emb_tup]; rfl
  | dK ks ps => rw [emb]; rfl
  | _ => exact absurd rfl h
theorem c_isi : OpCOk K A (rIsis K) qIsi w1 w := fun xs z e => by
  unfold qIsi at e
  split at e
  · split at e
    · cases e
    · rename_i x b hn
      cases h : kitB (tyP x) b with
      | none => rw [h] at e; cases e
      | some r =>
        rw [h] at e
        cases e
        rw [embs2, emb_sc, emb_sc]
        refine isi_ty (by rw [tyP_emb hn]; exact hn) (by rw [tyP_emb hn]; exact h)
  · cases e
end
end FP

namespace FP
open PySem PySem.Spec PyProof.Rows L2

/-! ### defs, objects, raising, texts: of pure data -/
def start0 (N : Nat) (ps : List P) : PEnv := ps.map some ++ List.replicate (N - ps.length) none
def fin : Option PO → R
  | some (.rt p) => ret p
  | some (.nx _) => ret .non
  | some (.er c fs _) => some (.er c fs)
  | _ => none
@[simp] theorem fin_rt {p : P} : fin (some (.rt p)) = ret p := rfl
@[simp] theorem fin_nx {ρ : PEnv} : fin (some (.nx ρ)) = ret .non := rfl
@[simp] theorem fin_er {c : Nat} {fs : List (Str × V)} {ρ : PEnv} : fin (some (.er c fs ρ)) = some (.er c fs) := rfl
/-- a def of n parameters and N names -/
def xDef (N n : Nat) (f : S) (ps : List P) : R := if ps.length = n then fin (f (start0 N ps)) else none
/-- an __init__ of the class c -/
def fin0 (c : Nat) : Option PO → R
  | some (.nx ρ) => match ρ.getD 0 none with
    | some (.ins c' fs ps) => if c' = c ∧ fs.length = ps.length then ret (.ins c fs ps) else none
    | _ => none
  | some (.er c fs _) => some (.er c fs)
  | _ => none
def xInit (c N n : Nat) (f : S) (ps : List P) : R := if ps.length + 1 = n then fin0 c (f (start0 N (.ins c [] [] :: ps))) else none
theorem fin_ok {o : Option PO} {p : P} (h : fin o = some (.ok p)) : o = some (.rt p) ∨ ∃ ρ, o = some (.nx ρ) ∧ p = .non := by
  match o, h with
  | some (.rt q), h => cases h; exact .inl rfl
  | some (.nx ρ), h => cases h; exact .inr ⟨ρ, rfl, rfl⟩
theorem fin_erE {o : Option PO} {c : Nat} {fs : List (Str × V)} (h : fin o = some (.er c fs)) : ∃ ρ, o = some (.er c fs ρ) := by
  match o, h with
  | some (.er c' fs' ρ), h => cases h; exact ⟨ρ, rfl⟩
section
variable {K : PySem.W.Frag} {A : Nat → Addr} {U : WX} {te ta tb to : TE} {tt : TT} {t : TS} {δ δ' δ2 δL : List W} {G : List W → Prop} {f : S} {x y : X} {w wr w1 : W} {i j : Nat} {xs : List X} {tr : TA}
theorem allS {δ : List W} (h : ∀ j, δ.getD j .s = .s) (ρ : PEnv) : embE A δ ρ = ρ.map fun o => o.map (emb A .s) := by
  rw [embE_congr [] δ ρ fun j => by rw [h j]; rfl]
  induction ρ with
  | nil => rw [embE]; rfl
  | cons x ρ ih => rw [embE, List.map_cons]; exact congrArg _ ih
theorem env0_embE {N : List Str} {n : Nat} {ps : List P} (hN : N.length = n) (h : ∀ j, δ.getD j .s = .s) : env0 N (ps.map (emb A .s)) = embE A δ (start0 n ps) := by
  rw [allS h]
  unfold env0 start0
  rw [hN, List.length_map, List.map_append, List.map_map, List.map_map, List.map_replicate]
  rfl
theorem def_X {N : List Str} {n : Nat} (h : SOk K A U w δL (fun _ => True) t δ δ' f) (hδ : ∀ j, δ.getD j .s = .s) (m : Nat) (hm : N.length = m) : ∀ ds r, rX A (xDef m n f) w n ds r → ∃ o, FP.Run K U t (env0 N ds) o ∧ EndsX r o := by
  rintro ds r ⟨ps, hn, rfl, hr⟩
  rw [env0_embE hm hδ]
  have e : xDef m n f ps = fin (f (start0 m ps)) := if_pos hn
  rw [e] at hr
  split at hr
  · rename_i p hp
    subst hr
    rcases fin_ok hp with h1 | ⟨ρ, h1, rfl⟩
    · exact ⟨_, h.rt _ _ h1, .inl rfl⟩
    · refine ⟨_, h.nx _ _ h1, .inr ⟨?_, _, rfl⟩⟩
      rw [emb_sc]
  · rename_i c fe hp
    subst hr
    obtain ⟨ρ, h1⟩ := fin_erE hp
    obtain ⟨δe, _, h2⟩ := h.er _ _ _ _ h1
    exact ⟨_, h2, _, rfl⟩
  · exact hr.elim
theorem rX_len {q : List P → R} {n : Nat} : ∀ ds z, rX A q w n ds z → ds.length = n := by
  rintro ds z ⟨ps, h, rfl, _⟩
  rw [List.length_map, h]
/-- a def that never raises (the law) -/
def rF (A : Nat → Addr) (q : List P → R) (w : W) (n : Nat) : List D → D → Prop := fun ds z => ∃ ps p, ps.length = n ∧ ds = ps.map (emb A .s) ∧ q ps = some (.ok p) ∧ z = emb A w p
theorem rF_len {q : List P → R} {n : Nat} : ∀ ds z, rF A q w n ds z → ds.length = n := by
  rintro ds z ⟨ps, _, h, rfl, _⟩
  rw [List.length_map, h]
theorem def_F {N : List Str} {n : Nat} (h : SOk K A U w δL (fun _ => True) t δ δ' f) (hδ : ∀ j, δ.getD j .s = .s) (m : Nat) (hm : N.length = m) : ∀ ds z, rF A (xDef m n f) w n ds z → ∃ o, FP.Run K U t (env0 N ds) o ∧ Ends' z o := by
  rintro ds z ⟨ps, p, hn, rfl, hr, rfl⟩
  rw [env0_embE hm hδ]
  have e : xDef m n f ps = fin (f (start0 m ps)) := if_pos hn
  rw [e] at hr
  rcases fin_ok hr with h1 | ⟨ρ, h1, rfl⟩
  · exact ⟨_, h.rt _ _ h1, rfl⟩
  · refine ⟨_, h.nx _ _ h1, ?_⟩
    rw [emb_sc]
    rfl
/-! classes -/
def rI (A : Nat → Addr) (q : List P → R) (ws : List W) (n : Nat) : List D → Mkd → Prop := fun ds r => ∃ ps, ps.length + 1 = n ∧ ds = ps.map (emb A .s) ∧ match q ps with
  | some (.ok (.ins _ fs qs)) => r = .ok fs (embs A (.f ws) 0 qs)
  | some (.er c fe) => r = .er (A c) fe
  | _ => False
theorem embs_me {a : Addr} {ws : List W} : ∀ (ps : List P) (i : Nat), embs A (.me a ws) i ps = embs A (.f ws) i ps
  | [], _ => by rw [embs, embs]
  | p :: ps, i => by rw [embs, embs, embs_me]; rfl
theorem rI_len {q : List P → R} {ws : List W} {n : Nat} : ∀ ds z, rI A q ws n ds z → ds.length + 1 = n := by
  rintro ds z ⟨ps, h, rfl, _⟩
  rw [List.length_map, h]
theorem envI_embE {N : List Str} {n c : Nat} {a : Addr} {ws : List W} {ps : List P} (hN : N.length = n) (h0 : δ.getD 0 .s = .me a ws) (h : ∀ j, j ≠ 0 → δ.getD j .s = .s) : envI N a (A c) (ps.map (emb A .s)) = embE A δ (start0 n (.ins c [] [] :: ps)) := by
  unfold envI start0
  rw [List.map_cons, List.map_cons, List.cons_append, List.cons_append, embE]
  have e0 : δ.headD .s = .me a ws := by rw [← h0]; cases δ <;> rfl
  rw [e0, Option.map_some, emb_ins, embs]
  refine congrArg _ ?_
  rw [allS (δ := δ.tail) fun j => by have := h (j + 1) (by omega); cases δ <;> simpa using this]
  rw [hN, List.length_map, List.length_cons, List.map_append, List.map_map, List.map_map, List.map_replicate]
  rfl
theorem fin0_ok {c : Nat} {o : Option PO} {p : P} (h : fin0 c o = some (.ok p)) : ∃ ρ fs ps, o = some (.nx ρ) ∧ ρ.getD 0 none = some (.ins c fs ps) ∧ p = .ins c fs ps := by
  unfold fin0 at h
  split at h
  · rename_i ρ
    split at h
    · rename_i c' fs ps h1
      obtain ⟨⟨rfl, _⟩, h2⟩ := opt_ite h
      cases h2
      exact ⟨ρ, fs, ps, rfl, h1, rfl⟩
    · cases h
  · cases h
  · cases h
theorem fin0_er {c d : Nat} {o : Option PO} {fe : List (Str × V)} (h : fin0 c o = some (.er d fe)) : ∃ ρ, o = some (.er d fe ρ) := by
  unfold fin0 at h
  split at h
  · split at h
    · split at h <;> cases h
    · cases h
  · cases h
    exact ⟨_, rfl⟩
  · cases h
theorem def_I {N : List Str} {n c m : Nat} {ws : List W} {δs : Addr → List W} (h : ∀ a, SOk K A U .s δL (fun _ => True) t (δs a) (δs a) f) (h0 : ∀ a, (δs a).getD 0 .s = .me a ws) (hδ : ∀ a j, j ≠ 0 → (δs a).getD j .s = .s) (hm : N.length = m) :
    ∀ a ds r, rI A (xInit c m n f) ws n ds r → ∃ o, FP.Run K U t (envI N a (A c) ds) o ∧ EndsI a (A c) r o := by
  rintro a ds r ⟨ps, hn, rfl, hr⟩
  rw [envI_embE hm (h0 a) (hδ a)]
  have e : xInit c m n f ps = fin0 c (f (start0 m (.ins c [] [] :: ps))) := if_pos hn
  rw [e] at hr
  split at hr
  · rename_i c' fs qs hp
    subst hr
    obtain ⟨ρ, fs', ps', h1, h2, h3⟩ := fin0_ok hp
    cases h3
    refine ⟨_, (h a).nx _ _ h1, _, rfl, ?_⟩
    have := embE_some (A := A) (δ := δs a) (getD_some h2)
    rw [h0, emb_ins, embs_me] at this
    exact this
  · rename_i c' fe hp
    subst hr
    obtain ⟨ρ, h1⟩ := fin0_er hp
    obtain ⟨δe, _, h2⟩ := (h a).er _ _ _ _ h1
    exact ⟨_, h2, _, rfl⟩
  · exact hr.elim
/-- C(..) -/
theorem x_make {q : List P → R} {ws : List W} {n c : Nat} (hq : ∀ ps c' fs qs, q ps = some (.ok (.ins c' fs qs)) → c' = c) (hi : ∀ ps p, q ps = some (.ok p) → ∃ fs qs, p = .ins c fs qs) (ha : AOk K A U tr δ xs .s 0) (hn : xs.length + 1 = n) :
    XOk K A U (tMakeS (A c) (spI K (A c) (rI A q ws n)) (WE U) tr) δ (xCall q xs) (.f ws) := .mk (fun ρ p e => by
  obtain ⟨ps, h1, e⟩ := bnds_eq_ok e
  obtain ⟨fs, qs, rfl⟩ := hi ps p e
  rw [emb_ins]
  exact ev_make (ha.ok ρ ps h1) ⟨ps, by rw [xArgs_len h1, hn], frzs_embs, by rw [e]⟩) (fun ρ c' fe e => by
  rcases bnds_eq_er e with h1 | ⟨ps, h1, e⟩
  · exact fun A0 H σ B w rr hW Q => ha.er ρ c' fe h1 A0 H σ B w rr hW _
  · exact evx_make (ha.ok ρ ps h1) ⟨ps, by rw [xArgs_len h1, hn], frzs_embs, by rw [e]⟩)
theorem xInit_ins {c m n : Nat} {ps : List P} {p : P} (h : xInit c m n f ps = some (.ok p)) : ∃ fs qs, p = .ins c fs qs := by
  unfold xInit at h
  split at h
  · obtain ⟨_, fs, qs, _, _, rfl⟩ := fin0_ok h
    exact ⟨fs, qs, rfl⟩
  · cases h
theorem x_mk {ws : List W} {n c m : Nat} (ha : AOk K A U tr δ xs .s 0) (hn : xs.length + 1 = n) : XOk K A U (tMakeS (A c) (spI K (A c) (rI A (xInit c m n f) ws n)) (WE U) tr) δ (xCall (xInit c m n f) xs) (.f ws) :=
  x_make (fun ps c' fs qs h => by obtain ⟨_, _, h2⟩ := xInit_ins h; cases h2; rfl) (fun ps p h => xInit_ins h) ha hn
/-! fields -/
def fldP (fs : List Str) (ps : List P) (f : Str) : Option P := (fs.zip ps).lookup f
def xFld (f : Str) (ci : Nat → Bool) (ce : Nat → Bool) (x : X) : X := fun ρ => bnd (x ρ) fun o => match o with
  | .ins c fs ps => if ci c = true then (fldP fs ps f).map .ok else none
  | .exc c fs => if ce c = true then (fs.lookup f).map fun v => .ok (.sc v) else none
  | _ => none
theorem fld_map {g : P → D} {f : Str} : ∀ {fs : List Str} {ps : List P} {p : P}, fldP fs ps f = some p → fld fs (ps.map g) f = some (g p)
  | [], _, _, h => by simp [fldP] at h
  | _ :: _, [], _, h => by simp [fldP] at h
  | h :: fs, q :: ps, p, e => by
    unfold fldP at e
    unfold fld
    rw [List.zip_cons_cons, List.lookup_cons] at e
    rw [List.map_cons, List.zip_cons_cons, List.lookup_cons]
    split
    · rename_i hb
      rw [hb] at e
      cases e
      rfl
    · rename_i hb
      rw [hb] at e
      exact fld_map e
structure FldOk (K : PySem.W.Frag) (A : Nat → Addr) (f : Str) (ci ce : Nat → Bool) : Prop where
  ins : ∀ c, ci c = true → Cls K (A c) ∧ NoAttr K (A c) f
  exc : ∀ c, ce c = true → XfC K (A c) ∧ PySem.W.findIn K (.ref (A c)) f = some none
theorem x_fld {n : Str} {ci ce : Nat → Bool} (hF : FldOk K A n ci ce) (h : XOk K A U te δ x .s) : XOk K A U (tFldA K te n) δ (xFld n ci ce x) .s := .mk (fun ρ p e => by
  obtain ⟨o, h1, e⟩ := bnd_eq_ok e
  split at e
  · rename_i c fs ps
    split at e
    · rename_i hc
      have e := map_ok e
      have hv := h.ok ρ _ h1
      rw [emb_ins, embs_s] at hv
      exact ev_fld hv (hF.ins c hc).1 (hF.ins c hc).2 (fld_map e)
    · cases e
  · rename_i c fs
    split at e
    · rename_i hc
      cases hl : fs.lookup n with
      | none => rw [hl] at e; cases e
      | some v =>
        rw [hl] at e
        cases e
        have hv := h.ok ρ _ h1
        rw [emb_exc] at hv
        rw [emb_sc]
        exact ev_efld hv (hF.exc c hc).1 (hF.exc c hc).2 hl
    · cases e
  · cases e) (fun ρ c' fe e => by
  rcases bnd_eq_er e with h1 | ⟨ps, h1, e⟩
  · exact fun A0 H σ B w rr hW Q => h.er ρ c' fe h1 A0 H σ B w rr hW _
  · split at e
    · split at e
      · exact (map_er e).elim
      · cases e
    · split at e
      · rename_i fs hc
        cases hl : fs.lookup n with
        | none => rw [hl] at e; cases e
        | some v => rw [hl] at e; cases e
      · cases e
    · cases e)
/-- self.f, of what is shared in an object that is owned -/
def xFldV (i : Nat) (f : Str) (ci : Nat → Bool) (k : Nat) : X := fun ρ => match ρ.getD i none with
  | some (.ins c fs ps) => if ci c = true ∧ fs.idxOf f = k then (fldP fs ps f).map .ok else none
  | _ => none
theorem fld_idx {g : Nat → P → D} {f : Str} : ∀ {fs : List Str} {ps : List P} {p : P} (i : Nat) {w : W}, fldP fs ps f = some p → fld fs (embs A w i ps) f = some (emb A (w.kid (i + fs.idxOf f)) p)
  | [], _, _, _, _, h => by simp [fldP] at h
  | _ :: _, [], _, _, _, h => by simp [fldP] at h
  | h :: fs, q :: ps, p, i, w, e => by
    unfold fldP at e
    unfold fld
    rw [List.zip_cons_cons, List.lookup_cons] at e
    rw [embs, List.zip_cons_cons, List.lookup_cons]
    by_cases hb : h = f
    · subst hb
      simp at e ⊢
      rw [e]
    · have hb' : (f == h) = false := by simpa using Ne.symm hb
      rw [hb'] at e ⊢
      have := fld_idx (g := g) (i + 1) (w := w) e
      unfold fld at this
      simp only at this ⊢
      rw [this, List.idxOf_cons]
      have : (h == f) = false := by simpa using hb
      rw [this]
      simp only [cond_false]
      rw [show i + 1 + fs.idxOf f = i + (fs.idxOf f + 1) by omega]
theorem x_fldV {n : Str} {ci ce : Nat → Bool} {k : Nat} (hF : FldOk K A n ci ce) (hw : (δ.getD i .s).kid k = .s) : XOk K A U (tFldA K (tVar i) n) δ (xFldV i n ci k) .s := .mk (fun ρ p e => by
  unfold xFldV at e
  split at e
  · rename_i c fs ps hp
    split at e
    · rename_i hc
      have e := map_ok e
      have h1 := embE_some (A := A) (δ := δ) (getD_some hp)
      rw [emb_ins] at h1
      have h2 := fld_idx (A := A) (g := fun _ _ => .non) 0 (w := δ.getD i .s) e
      rw [Nat.zero_add, hc.2, hw] at h2
      exact ev_fldV h1 (hF.ins c hc.1).1 (hF.ins c hc.1).2 h2 (emb_shd p)
    · cases e
  · cases e) (fun ρ c' fe e => by
  unfold xFldV at e
  split at e
  · split at e
    · exact (map_er e).elim
    · cases e
  · cases e)
/-- self.f = e -/
def putFP (f : Str) (d : P) : List Str → List P → List Str × List P
  | g :: fs, x :: ps => if g = f then (g :: fs, d :: ps) else ((g :: (putFP f d fs ps).1, x :: (putFP f d fs ps).2))
  | _, _ => ([f], [d])
def xSetF (i : Nat) (f : Str) (ci : Nat → Bool) (k : Nat) (x : X) : S := fun ρ => ans ρ (x ρ) fun p => match ρ.getD i none with
  | some (.ins c fs ps) => if ci c = true ∧ fs.idxOf f = k ∧ fs.length < 1000 ∧ fs.length = ps.length then some (.nx (ρ.set i (some (.ins c (putFP f p fs ps).1 (putFP f p fs ps).2)))) else none
  | _ => none
theorem putFP_emb {f : Str} {p : P} {w : W} : ∀ (fs : List Str) (ps : List P) (i : Nat), fs.length = ps.length → putFD f (emb A (w.kid (i + fs.idxOf f)) p) fs (embs A w i ps) = ((putFP f p fs ps).1, embs A w i (putFP f p fs ps).2)
  | [], [], i, _ => by
    show ([f], [_]) = ([f], embs A w i [p])
    rw [embs, embs]
    rfl
  | [], _ :: _, _, h => by simp at h
  | _ :: _, [], _, h => by simp at h
  | g :: fs, q :: ps, i, h => by
    rw [embs, putFD, putFP]
    by_cases hg : g = f
    · subst hg
      rw [if_pos rfl, if_pos rfl, embs]
      simp
    · rw [if_neg hg, if_neg hg]
      have ih := putFP_emb (f := f) (p := p) (w := w) fs ps (i + 1) (by simpa using h)
      have hb : (g == f) = false := by simpa using hg
      have e1 : i + (g :: fs).idxOf f = i + 1 + fs.idxOf f := by
        rw [List.idxOf_cons, hb]
        simp only [cond_false]
        omega
      rw [e1, ih]
      show (_, _) = (_, _)
      rw [embs]
theorem s_setF {n : Str} {ci ce : Nat → Bool} {k : Nat} (hG : G δ) (hF : FldOk K A n ci ce) (ho : (δ.getD i .s).fl.isSh = false) (h : XOk K A U te δ x ((δ.getD i .s).kid k)) : SOk K A U wr δL G (sFld K (tVar i) te n) δ δ (xSetF i n ci k x) := by
  refine s_of (fun p ρ => match ρ.getD i none with
  | some (.ins c fs ps) => if ci c = true ∧ fs.idxOf n = k ∧ fs.length < 1000 ∧ fs.length = ps.length then some (.nx (ρ.set i (some (.ins c (putFP n p fs ps).1 (putFP n p fs ps).2)))) else none
  | _ => none) (fun p ρ o e => ?_) hG (fun ρ c fs e => ?_) (fun ρ p ρ' e e2 => ?_) (fun ρ p q e e2 => ?_)
  · split at e
    · split at e
      · cases e; exact .inl ⟨_, rfl⟩
      · cases e
    · cases e
  · exact fun A0 H σ B E w r p => evx_run (h.er ρ c fs e) w r p
  · split at e2
    · rename_i c fs ps hp
      split at e2
      · rename_i hc
        cases e2
        have h1 := embE_some (A := A) (δ := δ) (getD_some hp)
        rw [emb_ins] at h1
        have := run_setf (K := K) (W := U) (f := n) h1 ho (h.ok ρ p e) (hF.ins c hc.1).1 (hF.ins c hc.1).2 hc.2.2.1
        rw [embE_set δ δ ρ i _ _ rfl fun _ _ => rfl, emb_ins]
        have e3 := putFP_emb (A := A) (f := n) (p := p) (w := δ.getD i .s) fs ps 0 hc.2.2.2
        rw [Nat.zero_add, hc.2.1] at e3
        rw [e3] at this
        exact this
      · cases e2
    · cases e2
  · split at e2
    · split at e2 <;> cases e2
    · cases e2
/-! o.m(..), nothing of o changed -/
def xMeth (c : Nat) (m : Str) (q : List P → R) (x : X) (fs : List X) : X := fun ρ => bnd (x ρ) fun o => match o with
  | .ins c' ns ps => if c' = c ∧ m ∉ ns then bnds (xArgs fs ρ) fun es => q (.ins c' ns ps :: es) else none
  | _ => none
theorem evx_methO {C : Addr} {m : Str} {sp : Sp} {E : L2.St → XK} {ρ : Env} {Ce : Addr} {fe : List (Str × V)} (h : EvX K U to ρ Ce fe) : EvX K U (tMethS C m sp E to tr) ρ Ce fe := fun A0 H σ B w rr hW Q => h A0 H σ B w rr hW _
theorem x_meth {c n : Nat} {m : Str} {q : List P → R} (ho : XOk K A U to δ x w1) (ha : AOk K A U tr δ xs .s 0) (hn : xs.length + 1 = n) : XOk K A U (tMethS (A c) m (spX K (rX A q w n)) (WE U) to tr) δ (xMeth c m q x xs) w := .mk (fun ρ p e => by
  obtain ⟨o, h1, e⟩ := bnd_eq_ok e
  split at e
  · rename_i c' ns ps
    split at e
    · rename_i hc
      obtain ⟨hc1, hm⟩ := hc
      obtain ⟨es, h2, e⟩ := bnds_eq_ok e
      have h3 := ho.ok ρ _ h1
      rw [emb_ins, hc1] at h3
      refine ev_methX h3 hm (ha.ok ρ es h2) ⟨.ins c' ns ps :: es, by rw [List.length_cons, xArgs_len h2, hn], ?_, by rw [e]⟩
      rw [D.frzs, List.map_cons, frzs_embs, ← hc1, ← emb_ins, emb_frz]
    · cases e
  · cases e) (fun ρ d fe e => by
  rcases bnd_eq_er e with h1 | ⟨o, h1, e⟩
  · exact evx_methO (ho.er ρ d fe h1)
  · split at e
    · rename_i c' ns ps
      split at e
      · rename_i hc
        obtain ⟨hc1, hm⟩ := hc
        have h3 := ho.ok ρ _ h1
        rw [emb_ins, hc1] at h3
        rcases bnds_eq_er e with h2 | ⟨es, h2, e⟩
        · intro A0 H σ B w0 rr hW Q
          refine ev_more (ta := to) h3 w0 rr fun v1 H1 C1 e1 f1 p1 w1 r1 => ?_
          obtain ⟨a, dx, vs, B1, rfl, ha', hlen, ra, _, _, _, _⟩ := p1.ins
          exact ⟨a, dx, ns.zip vs, rfl, ha', zip_no ns vs hm, ha.er ρ d fe h2 _ H1 σ B w1 r1 (hW_more e1 hW) _⟩
        · refine evx_meth h3 hm (ha.ok ρ es h2) ⟨.ins c' ns ps :: es, by rw [List.length_cons, xArgs_len h2, hn], ?_, by rw [e]⟩
          rw [D.frzs, List.map_cons, frzs_embs, ← hc1, ← emb_ins, emb_frz]
      · cases e
    · cases e)
/-! raising -/
abbrev TM := L2.St → Hp → XK → Prop
structure MOk (K : PySem.W.Frag) (A : Nat → Addr) (tm : TM) (δ : List W) (f : X) : Prop where
  er : ∀ ρ c fs, f ρ = some (.er c fs) → EvM K tm (embE A δ ρ) (A c) fs
def xRaise (f : X) : S := fun ρ => match f ρ with
  | some (.er c fs) => some (.er c fs ρ)
  | _ => none
theorem s_raise {tm : TM} (hG : G δ) (h : MOk K A tm δ x) : SOk K A U wr δL G (fun _ σ H => tm σ H fun cls d H1 => U cls d σ H1) δ δ' (xRaise x) := by
  have key : ∀ ρ o, xRaise x ρ = some o → ∃ c fs, x ρ = some (.er c fs) ∧ o = .er c fs ρ := fun ρ o e => by
    unfold xRaise at e
    split at e
    · rename_i c fs h1
      cases e
      exact ⟨c, fs, h1, rfl⟩
    · cases e
  refine ⟨fun ρ ρ' e => ?_, fun ρ p e => ?_, fun ρ ρ' e => ?_, fun ρ ρ' e => ?_, fun ρ c fs ρ' e => ?_⟩ <;> obtain ⟨c', fs', h1, h2⟩ := key _ _ e <;> cases h2
  exact ⟨δ, hG, run_raise (h.er ρ _ _ h1)⟩
/-- an exception that is made, as a value -/
def xMkV (f : X) : X := fun ρ => match f ρ with
  | some (.er c fs) => ret (.exc c fs)
  | _ => none
theorem x_mkV {tm : TM} (h : MOk K A tm δ x) : XOk K A U (tMkV tm) δ (xMkV x) w := .mk (fun ρ p e => by
  unfold xMkV at e
  split at e
  · rename_i c fs h1
    cases e
    rw [emb_exc]
    exact ev_mkV (h.er ρ c fs h1)
  · cases e) (fun ρ c fe e => by
  unfold xMkV at e
  split at e <;> cases e)
/-- an exception without an __init__ of its own, made of a written text -/
def xM0 (c : Nat) : X := fun _ => some (.er c [])
theorem m_0 {c : Nat} : MOk K A (fun _ H Q => Q (.ref (A c)) none H) δ (xM0 c) := ⟨fun ρ c' fs e => by
  cases e
  exact ev_mkT⟩
/-- .. of a text that is reckoned -/
def xM1 (c : Nat) (f : X) : X := fun ρ => match f ρ with
  | some (.ok _) => some (.er c [])
  | _ => none
theorem m_1 {c : Nat} (h : XOk K A (fun _ _ _ _ => False) te δ x w) : MOk K A (fun σ H Q => te σ H fun _ H1 => Q (.ref (A c)) none H1) δ (xM1 c x) := ⟨fun ρ c' fs e => by
  unfold xM1 at e
  split at e
  · rename_i p h1
    cases e
    exact ev_mk1 (h.ok ρ p h1)
  · cases e⟩
/-- an exception with an __init__ of its own -/
def xMI (c : Nat) (mk : List V → Option (List (Str × V))) (fs : List X) : X := fun ρ => match xArgs fs ρ with
  | some (.ok ps) => match scs ps with
    | some vs => match mk vs with
      | some fe => some (.er c fe)
      | none => none
    | none => none
  | _ => none
theorem m_I {c : Nat} {mk : List V → Option (List (Str × V))} {R : List V → List (Str × V) → Prop} (hR : ∀ ws fs, mk ws = some fs → R ws fs) (ha : AOk K A (fun _ _ _ _ => False) tr δ xs .s 0) (hl : xs.length ≤ 1000) : MOk K A (tMkO (A c) (spE (A c) R) [] tr) δ (xMI c mk xs) := ⟨fun ρ c' fs e => by
  unfold xMI at e
  split at e
  · rename_i ps h1
    split at e
    · rename_i vs hv
      split at e
      · rename_i fe hm
        cases e
        have := ha.ok ρ ps h1
        rw [embs_s, scs_eq hv, emb_scs] at this
        exact ev_mko this (by
          have := xArgs_len h1
          rw [scs_eq hv, List.length_map] at this
          omega) (hR _ _ hm)
      · cases e
    · cases e
  · cases e⟩
/-- {} -/
def xDnew : X := fun _ => ret (.dK [] [])
theorem x_dnew (hw : w.own = true) : XOk K A U tDNewK δ xDnew w := .mk (fun ρ p e => by
  cases e
  rw [emb, hw, embs]
  exact ev_dnew) (fun ρ c fe e => nomatch e)
/-! texts -/
def xKT (ws : List Str) : X := fun _ => ret (.tup (ws.map P.str))
theorem x_kt {a : Addr} {ws : List Str} (h : KT K a (ws.map V.str)) : XOk K A U (tC (.ref a)) δ (xKT ws) .s := .mk (fun ρ p e => by
  cases e
  rw [emb_tup, embs_s]
  have := ev_kt (ρ := embE A δ ρ) h
  have e2 : (ws.map P.str).map (emb A .s) = ws.map D.str := by
    rw [List.map_map]
    exact List.map_congr_left fun x _ => emb_sc
  rw [e2]
  exact this) (fun ρ c fe e => nomatch e)
/-- f-strings -/
def fmtP : P → Option Str
  | .sc (.str y) => if y.length ≤ sizeLine then some y else none
  | .sc (.int i) => if i.natAbs.log2 < 1920 then some (toString i) else none
  | _ => none
def xFmt (f : X) : X := fun ρ => bnd (f ρ) fun p => (fmtP p).map fun y => .ok (.str y)
theorem x_fmt (h : XOk K A U te δ x w1) : XOk K A U (tFmt te) δ (xFmt x) w := .mk (fun ρ p e => by
  obtain ⟨q, h1, e⟩ := bnd_eq_ok e
  have hv := h.ok ρ q h1
  unfold fmtP at e
  split at e
  · split at e
    · rename_i hl
      cases e
      rw [emb_sc] at hv ⊢
      exact ev_fmtS hv hl
    · cases e
  · split at e
    · rename_i hl
      cases e
      rw [emb_sc] at hv ⊢
      exact ev_fmtI hv hl
    · cases e
  · cases e) (fun ρ c fe e => by
  rcases bnd_eq_er e with h1 | ⟨q, h1, e⟩
  · exact fun A0 H σ B w rr hW Q => h.er ρ c fe h1 A0 H σ B w rr hW _
  · cases h2 : fmtP q with
    | none => rw [h2] at e; cases e
    | some y => rw [h2] at e; cases e)
def xJs : List X → Str → PEnv → R
  | [], acc, _ => ret (.str acc)
  | f :: fs, acc, ρ => match f ρ with
    | some (.ok (.sc (.str y))) => if (acc ++ y).length ≤ sizeLine then xJs fs (acc ++ y) ρ else none
    | _ => none
inductive JOk (K : PySem.W.Frag) (A : Nat → Addr) (U : WX) (δ : List W) : List TE → List X → Prop
  | nil : JOk K A U δ [] []
  | cons {t : TE} {ts : List TE} {x : X} {xs : List X} {w : W} : XOk K A U t δ x w → JOk K A U δ ts xs → JOk K A U δ (t :: ts) (x :: xs)
theorem JOk.run {ρ : PEnv} : ∀ {ts : List TE} {fs : List X} {acc : Str} {p : P}, JOk K A U δ ts fs → xJs fs acc ρ = some (.ok p) → ∃ out, p = .str out ∧ EvJ K ts (embE A δ ρ) acc out
  | [], [], acc, p, .nil, e => by cases e; exact ⟨acc, rfl, evj_nil⟩
  | t :: ts, f :: fs, acc, p, .cons h hs, e => by
    unfold xJs at e
    split at e
    · rename_i y h1
      split at e
      · rename_i hl
        obtain ⟨out, rfl, h2⟩ := JOk.run hs e
        have hv := h.ok ρ _ h1
        rw [emb_sc] at hv
        exact ⟨out, rfl, evj_cons hv hl h2⟩
      · cases e
    · cases e
theorem xJs_er {ρ : PEnv} {c : Nat} {fe : List (Str × V)} : ∀ {fs : List X} {acc : Str}, xJs fs acc ρ = some (.er c fe) → False
  | [], acc, e => nomatch e
  | f :: fs, acc, e => by
    unfold xJs at e
    split at e
    · split at e
      · exact xJs_er e
      · cases e
    · cases e
def xJoined (fs : List X) : X := fun ρ => xJs fs Str.empty ρ
theorem x_joined {ts : List TE} {fs : List X} (h : JOk K A U δ ts fs) : XOk K A U (fun σ H Q => tJs ts Str.empty σ H fun out H1 => Q (.str out) H1) δ (xJoined fs) w := .mk (fun ρ p e => by
  obtain ⟨out, rfl, h2⟩ := h.run e
  rw [emb_sc]
  exact ev_joined h2) (fun ρ c fe e => (xJs_er e).elim)
/-- slices -/
def qSl (lo hi : Option Int) : P → Option P
  | .lst ps => some (.lst (cutX ps lo hi))
  | .sc (.str a) => if a.length ≤ sizeLine then some (.str (cutS a lo hi)) else none
  | .tup ps => some (.tup (cutX ps lo hi))
  | _ => none
def xSl (x : X) (lo hi : Option X) : X := fun ρ => bnd (x ρ) fun p =>
  match (match lo with | none => some none | some f => match f ρ with | some (.ok (.sc (.int i))) => some (some i) | _ => none) with
  | none => none
  | some l => match (match hi with | none => some none | some f => match f ρ with | some (.ok (.sc (.int i))) => some (some i) | _ => none) with
    | none => none
    | some h => (qSl l h p).map .ok
end
end FP

namespace FP
open PySem PySem.Spec PyProof.Rows L2

/-! ### what lies within what a name owns: reached by a path, changed in place -/
def stepH (H : Hp) : V → Nat → Option V
  | .ref a, j => match H a with
    | some (.lst xs) => xs[j]?
    | some (.tup xs) => xs[j]?
    | some (.ins _ _ kvs) => kvs[j]?.map (·.2)
    | some (.dK kvs) => kvs[j]?.map (·.2)
    | some (.dT kvs) => kvs[j]?.map (·.2)
    | _ => none
  | _, _ => none
def walkH (H : Hp) : V → List Nat → Option V
  | v, [] => some v
  | v, j :: π => match stepH H v j with
    | some u => walkH H u π
    | none => none
/-- an item of a container that is owned -/
def kidD : D → Nat → Option D
  | .lst true ds, j => ds[j]?
  | .tup true ds, j => ds[j]?
  | .ins fl _ fs ds, j => if fl.isSh = false ∧ fs.length = ds.length then ds[j]? else none
  | .dK true ks ds, j => if ks.length = ds.length then ds[j]? else none
  | .dT true ks ds, j => if ks.length = ds.length then ds[j]? else none
  | _, _ => none
def putK : D → Nat → D → D
  | .lst o ds, j, e => .lst o (ds.set j e)
  | .tup o ds, j, e => .tup o (ds.set j e)
  | .ins fl C fs ds, j, e => .ins fl C fs (ds.set j e)
  | .dK o ks ds, j, e => .dK o ks (ds.set j e)
  | .dT o ks ds, j, e => .dT o ks (ds.set j e)
  | d, _, _ => d
def subD : D → List Nat → Option D
  | d, [] => some d
  | d, j :: π => match kidD d j with
    | some e => subD e π
    | none => none
def putD : D → List Nat → D → D
  | _, [], e => e
  | d, j :: π, e => match kidD d j with
    | some d' => putK d j (putD d' π e)
    | none => d
section
variable {K : PySem.W.Frag} {A : Own} {H H' : Hp} {v : V} {d e : D} {B : List Addr} {j : Nat} {σ : L2.St} {ρ : Env} {i : Nat}
theorem stepH_ex (x : Ex H H') {u : V} (h : stepH H v j = some u) : stepH H' v j = some u := by
  unfold stepH at h ⊢
  cases v with
  | ref a =>
    simp only at h ⊢
    cases ha : H a with
    | none => rw [ha] at h; cases h
    | some o => rw [x a o ha]; rw [ha] at h; exact h
  | _ => cases h
theorem walkH_ex (x : Ex H H') : ∀ {π : List Nat} {v u : V}, walkH H v π = some u → walkH H' v π = some u
  | [], _, _, h => h
  | j :: π, v, u, h => by
    unfold walkH at h ⊢
    cases hs : stepH H v j with
    | none => rw [hs] at h; cases h
    | some w =>
      rw [hs] at h
      rw [stepH_ex x hs]
      exact walkH_ex x h
theorem walkH_snoc : ∀ {π : List Nat} {v u w : V}, walkH H v π = some u → stepH H u j = some w → walkH H v (π ++ [j]) = some w
  | [], _, _, _, h, k => by
    cases h
    show walkH H _ [j] = _
    unfold walkH
    rw [k]
    rfl
  | i :: π, v, u, w, h, k => by
    unfold walkH at h
    show walkH H v (i :: (π ++ [j])) = _
    unfold walkH
    cases hs : stepH H v i with
    | none => rw [hs] at h; cases h
    | some x =>
      rw [hs] at h
      exact walkH_snoc h k
/-- a container's items, one of them changed -/
theorem kid_core {a : Addr} {xs : List V} {ds : List D} {B1 : List Addr} (mk : List V → HO) (con : List D → D) (hs : ∀ H : Hp, H a = some (mk xs) → ∀ j, stepH H (.ref a) j = xs[j]?)
    (hmk : ∀ (A' : Own) (H' : Hp) (es : List D) (B' : List Addr), es.length = ds.length → H' a = some (mk xs) → A' a → a ∉ B' → RpAll K A' H' xs es B' → Rp K A' H' (.ref a) (con es) (a :: B'))
    (ha : H a = some (mk xs)) (hA : A a) (hn : a ∉ B1) (r : RpAll K A H xs ds B1) (hj : ds[j]? = some e) :
    ∃ u Bk, stepH H (.ref a) j = some u ∧ Rp K A H u e Bk ∧ (∀ b ∈ Bk, b ∈ a :: B1) ∧ ∀ (A' : Own) (H' : Hp) (e' : D) (B' : List Addr), (∀ B0, (∀ b ∈ B0, b ∈ a :: B1 ∧ b ∉ Bk) → Keep A H B0 A' H') → Rp K A' H' u e' B' → (∀ b ∈ B', b ∈ Bk ∨ b ∉ a :: B1) →
      ∃ B2, Rp K A' H' (.ref a) (con (ds.set j e')) B2 ∧ ∀ b ∈ B2, b ∈ B' ∨ b ∈ a :: B1 := by
  obtain ⟨u, Bk, h1, h2, h3, k⟩ := r.upd1 hj
  have naK : a ∉ Bk := fun z => hn (h3 a z)
  refine ⟨u, Bk, by rw [hs H ha]; exact h1, h2, fun b hb => List.mem_cons_of_mem _ (h3 b hb), fun A' H' e' B' kp p s => ?_⟩
  obtain ⟨B3, r3, s3⟩ := k A' H' e' B' (fun B0 h0 => kp B0 fun b hb => ⟨List.mem_cons_of_mem _ (h0 b hb).1, (h0 b hb).2⟩) p (fun b hb => (s b hb).imp id fun z m => z (List.mem_cons_of_mem _ m))
  obtain ⟨q1, q2⟩ := (kp [a] fun b hb => by rw [List.mem_singleton.mp hb]; exact ⟨List.mem_cons_self, naK⟩).own a _ List.mem_cons_self ha
  have na3 : a ∉ B3 := fun z => (s3 a z).elim (fun z => (s a z).elim naK fun m => m List.mem_cons_self) hn
  exact ⟨a :: B3, hmk A' H' _ B3 (by rw [List.length_set]) q1 q2 na3 r3, fun b hb => (List.mem_cons.mp hb).elim (fun z => .inr (z ▸ List.mem_cons_self)) fun hb => (s3 b hb).imp id (List.mem_cons_of_mem _)⟩
theorem zip_get2 {α β : Type} : ∀ {ks : List α} {xs : List β} {j : Nat}, ks.length = xs.length → (ks.zip xs)[j]?.map (·.2) = xs[j]?
  | [], [], j, _ => by simp
  | k :: ks, x :: xs, 0, _ => by simp
  | k :: ks, x :: xs, j + 1, h => by
    rw [List.zip_cons_cons, List.getElem?_cons_succ, List.getElem?_cons_succ]
    exact zip_get2 (by simpa using h)
theorem Rp.kid (r : Rp K A H v d B) (h : kidD d j = some e) : ∃ u Bk, stepH H v j = some u ∧ Rp K A H u e Bk ∧ (∀ a ∈ Bk, a ∈ B) ∧ ∀ (A' : Own) (H' : Hp) (e' : D) (B' : List Addr), (∀ B0, (∀ a ∈ B0, a ∈ B ∧ a ∉ Bk) → Keep A H B0 A' H') → Rp K A' H' u e' B' → (∀ a ∈ B', a ∈ Bk ∨ a ∉ B) →
    ∃ B2, Rp K A' H' v (putK d j e') B2 ∧ ∀ a ∈ B2, a ∈ B' ∨ a ∈ B := by
  cases r with
  | @lstO a xs ds B1 ha hA hn r1 => exact kid_core HO.lst (D.lst true) (fun H h j => by unfold stepH; simp only; rw [h]) (fun A' H' es B' _ h hA n r => .lstO h hA n r) ha hA hn r1 h
  | @tupO a xs ds B1 ha hA hn r1 => exact kid_core HO.tup (D.tup true) (fun H h j => by unfold stepH; simp only; rw [h]) (fun A' H' es B' _ h hA n r => .tupO h hA n r) ha hA hn r1 h
  | @insO a C dx fs xs ds B1 ha hA hn hl r1 =>
    have h3 : ds[j]? = some e := by
      unfold kidD at h
      simp only at h
      rw [if_pos ⟨rfl, hl.trans r1.len⟩] at h
      exact h
    exact kid_core (fun ys => HO.ins C dx (fs.zip ys)) (D.ins .ow C fs) (fun H h j => by unfold stepH; simp only; rw [h]; exact zip_get2 hl) (fun A' H' es B' _ h hA n r => .insO h hA n hl r) ha hA hn r1 h3
  | @insA a C dx fs xs ds B1 ha hA hn hl r1 =>
    have h3 : ds[j]? = some e := by
      unfold kidD at h
      simp only at h
      rw [if_pos ⟨rfl, hl.trans r1.len⟩] at h
      exact h
    exact kid_core (fun ys => HO.ins C dx (fs.zip ys)) (D.ins (.at a) C fs) (fun H h j => by unfold stepH; simp only; rw [h]; exact zip_get2 hl) (fun A' H' es B' _ h hA n r => .insA h hA n hl r) ha hA hn r1 h3
  | @dKO a ks xs ds B1 ha hA hn hl r1 =>
    have h3 : ds[j]? = some e := by
      unfold kidD at h
      simp only at h
      rw [if_pos (hl.trans r1.len)] at h
      exact h
    exact kid_core (fun ys => HO.dK (ks.zip ys)) (D.dK true ks) (fun H h j => by unfold stepH; simp only; rw [h]; exact zip_get2 hl) (fun A' H' es B' _ h hA n r => .dKO h hA n hl r) ha hA hn r1 h3
  | @dTO a ks xs ds B1 ha hA hn hl r1 =>
    have h3 : ds[j]? = some e := by
      unfold kidD at h
      simp only at h
      rw [if_pos (hl.trans r1.len)] at h
      exact h
    exact kid_core (fun ys => HO.dT (ks.zip ys)) (D.dT true ks) (fun H h j => by unfold stepH; simp only; rw [h]; exact zip_get2 hl) (fun A' H' es B' _ h hA n r => .dTO h hA n hl r) ha hA hn r1 h3
  | sc => cases h
  | lstS => cases h
  | tupS => cases h
  | insS => simp [kidD, Fl.isSh] at h
  | dKS => cases h
  | dTS => cases h
  | exc0 => cases h
  | exc1 => cases h
theorem Rp.focus : ∀ {π : List Nat} {d : D} {v : V} {B : List Addr}, Rp K A H v d B → subD d π = some e → ∃ u Bu, walkH H v π = some u ∧ Rp K A H u e Bu ∧ (∀ a ∈ Bu, a ∈ B) ∧ ∀ (A' : Own) (H' : Hp) (e' : D) (B' : List Addr), (∀ B0, (∀ a ∈ B0, a ∈ B ∧ a ∉ Bu) → Keep A H B0 A' H') → Rp K A' H' u e' B' → (∀ a ∈ B', a ∈ Bu ∨ a ∉ B) →
    ∃ B2, Rp K A' H' v (putD d π e') B2 ∧ ∀ a ∈ B2, a ∈ B' ∨ a ∈ B
  | [], d, v, B, r, h => by
    cases h
    exact ⟨v, B, rfl, r, fun _ h => h, fun A' H' e' B' kp p s => ⟨B', p, fun a h => .inl h⟩⟩
  | j :: π, d, v, B, r, h => by
    unfold subD at h
    cases hk : kidD d j with
    | none => rw [hk] at h; cases h
    | some e1 =>
      rw [hk] at h
      obtain ⟨u1, B1, w1, r1, s1, k1⟩ := r.kid hk
      obtain ⟨u, Bu, w2, r2, s2, k2⟩ := Rp.focus r1 h
      refine ⟨u, Bu, by unfold walkH; rw [w1]; exact w2, r2, fun a h => s1 a (s2 a h), fun A' H' e' B' kp p s => ?_⟩
      obtain ⟨B2, q2, t2⟩ := k2 A' H' e' B' (fun B0 h0 => kp B0 fun a h => ⟨s1 a (h0 a h).1, (h0 a h).2⟩) p (fun a h => (s a h).imp id fun z m => z (s1 a m))
      obtain ⟨B3, q3, t3⟩ := k1 A' H' _ B2 (fun B0 h0 => kp B0 fun a h => ⟨(h0 a h).1, fun z => (h0 a h).2 (s2 a z)⟩) q2 (fun a h => (t2 a h).elim (fun z => (s a z).imp (s2 a) id) .inl)
      refine ⟨B3, by unfold putD; rw [hk]; exact q3, fun a h => (t3 a h).elim (fun z => (t2 a z).imp id (s1 a)) .inr⟩
theorem EnvR.focus {π : List Nat} (r : EnvR K A H σ ρ B) (hi : ρ[i]? = some (some d)) (hd : subD d π = some e) : ∃ v u Bu, σ[i]? = some (some v) ∧ walkH H v π = some u ∧ Rp K A H u e Bu ∧ (∀ a ∈ Bu, a ∈ B) ∧
    ∀ (A' : Own) (H' : Hp) (e' : D) (B' : List Addr), (∀ B0, (∀ a ∈ B0, a ∈ B ∧ a ∉ Bu) → Keep A H B0 A' H') → Rp K A' H' u e' B' → (∀ a ∈ B', a ∈ Bu ∨ a ∉ B) → ∃ B2, EnvR K A' H' σ (ρ.set i (some (putD d π e'))) B2 ∧ ∀ a ∈ B2, a ∈ B' ∨ a ∈ B := by
  obtain ⟨v, Bi, h1, h2, h3, k⟩ := r.mut2 hi
  obtain ⟨u, Bu, w1, r1, s1, k1⟩ := h2.focus hd
  refine ⟨v, u, Bu, h1, w1, r1, fun a h => h3 a (s1 a h), fun A' H' e' B' kp p s => ?_⟩
  obtain ⟨B2, q2, t2⟩ := k1 A' H' e' B' (fun B0 h0 => kp B0 fun a h => ⟨h3 a (h0 a h).1, (h0 a h).2⟩) p (fun a h => (s a h).imp id fun z m => z (h3 a m))
  obtain ⟨B3, q3, t3⟩ := k A' H' _ B2 (fun B0 h0 => kp B0 fun a h => ⟨(h0 a h).1, fun z => (h0 a h).2 (s1 a z)⟩) q2 (fun a h => (t2 a h).elim (fun z => (s a z).imp (s1 a) id) .inl)
  exact ⟨B3, q3, fun a h => (t3 a h).elim (fun z => (t2 a z).imp id (h3 a)) fun z => .inr z.1⟩
end

/-! ### expressions that reach a thing by a path -/
def EvPt (K : PySem.W.Frag) (te : TE) (ρ : Env) (i : Nat) (π : List Nat) : Prop := ∀ (A : Own) (H : Hp) (σ : L2.St) (B : List Addr), WA A H → EnvR K A H σ ρ B → ∀ Q : VK,
  (∀ v u H', Ex H H' → σ[i]? = some (some v) → walkH H' v π = some u → Q u H') → te σ H Q
section
variable {K : PySem.W.Frag} {W : WX} {te to ti : TE} {ρ : Env} {i : Nat} {π : List Nat} {d e z : D} {j : Nat} {ds : List D} {o : Out}
theorem ept_var (h : ρ[i]? = some (some d)) : EvPt K (tVar i) ρ i [] := fun A H σ B w r Q q => by
  obtain ⟨v, C, h1, _, _⟩ := r.get h
  exact ⟨v, h1, q v v H Ex.rfl' h1 rfl⟩
theorem walk_fun {H : Hp} {v u u' : V} {π : List Nat} (h : walkH H v π = some u) (h' : walkH H v π = some u') : u = u' := by
  rw [h] at h'
  exact Option.some.inj h'
theorem ept_ix {n : Int} (h : EvPt K to ρ i π) (hi : ρ[i]? = some (some d)) (hd : subD d π = some e) (he : e = .lst true ds ∨ e = .tup true ds) (ht : EvS K ti ρ (.int n)) (hn : ixN ds.length n = some j) (hj : j < ds.length) : EvPt K (tOp (rIx K) to ti) ρ i (π ++ [j]) := fun A H σ B w r Q q =>
  h A H σ B w r _ fun v u H1 e1 hv hw => by
    obtain ⟨w1, r1⟩ := et_step w r e1
    refine ev_more (ta := ti) ht w1 r1 fun x H2 C2 e2 f2 p2 w2 r2 => ?_
    cases p2
    obtain ⟨v', u', Bu, h1, hw', ru, _⟩ := r2.focus hi hd
    rw [hv] at h1
    cases h1
    have hw2 := walkH_ex e2 hw
    cases walk_fun hw2 hw'
    rcases he with rfl | rfl
    · cases ru with
      | @lstO a xs _ B1 ha hA hna rr =>
      obtain ⟨y, hy⟩ : ∃ y, xs[j]? = some y := ⟨xs[j]'(by rw [rr.len]; exact hj), List.getElem?_eq_getElem _⟩
      refine .inl ⟨a, xs, n, y, rfl, rfl, .inl (.inl ha), by unfold atI; rw [rr.len, hn]; exact hy, q v y H2 (e1.tr e2) hv (walkH_snoc hw2 ?_)⟩
      unfold stepH
      simp only
      rw [ha]
      exact hy
    · cases ru with
      | @tupO a xs _ B1 ha hA hna rr =>
      obtain ⟨y, hy⟩ : ∃ y, xs[j]? = some y := ⟨xs[j]'(by rw [rr.len]; exact hj), List.getElem?_eq_getElem _⟩
      refine .inr (.inl ⟨a, xs, n, y, rfl, rfl, .inl (.inl ha), by unfold atI; rw [rr.len, hn]; exact hy, q v y H2 (e1.tr e2) hv (walkH_snoc hw2 ?_)⟩)
      unfold stepH
      simp only
      rw [ha]
      exact hy
theorem lookup_idx {f : Str} : ∀ {fs : List Str} {xs : List V} {y : V}, (fs.zip xs).lookup f = some y → xs[fs.idxOf f]? = some y
  | [], _, _, h => by simp at h
  | _ :: _, [], _, h => by simp at h
  | g :: fs, x :: xs, y, h => by
    rw [List.zip_cons_cons, List.lookup_cons] at h
    rw [List.idxOf_cons]
    by_cases hg : g = f
    · subst hg
      simp at h
      simp [h]
    · have h1 : (f == g) = false := by simpa using Ne.symm hg
      have h2 : (g == f) = false := by simpa using hg
      rw [h1] at h
      rw [h2]
      simpa using lookup_idx h
theorem lookup_of {f : Str} : ∀ {fs : List Str} {xs : List V}, fs.idxOf f < xs.length → fs.length = xs.length → ∃ y, (fs.zip xs).lookup f = some y
  | [], [], h, _ => by simp at h
  | [], _ :: _, _, h => by simp at h
  | _ :: _, [], _, h => by simp at h
  | g :: fs, x :: xs, h, hl => by
    rw [List.zip_cons_cons, List.lookup_cons]
    by_cases hg : g = f
    · subst hg
      exact ⟨x, by simp⟩
    · have h1 : (f == g) = false := by simpa using Ne.symm hg
      have h2 : (g == f) = false := by simpa using hg
      rw [h1]
      rw [List.idxOf_cons, h2] at h
      exact lookup_of (by simpa using h) (by simpa using hl)
theorem ept_fld {C : Addr} {fs : List Str} {f : Str} {fl : Fl} (h : EvPt K to ρ i π) (hi : ρ[i]? = some (some d)) (hd : subD d π = some (.ins fl C fs ds)) (hc : Cls K C) (hn : NoAttr K C f) (hj : fs.idxOf f < ds.length) : EvPt K (tFldA K to f) ρ i (π ++ [fs.idxOf f]) := fun A H σ B w r Q q =>
  h A H σ B w r _ fun v u H1 e1 hv hw => by
    obtain ⟨w1, r1⟩ := et_step w r e1
    obtain ⟨v', u', Bu, h1, hw', ru, _⟩ := r1.focus hi hd
    rw [hv] at h1
    cases h1
    cases walk_fun hw hw'
    obtain ⟨a, dx, xs, B2, rfl, ha, hl, ra, _, _, _, _⟩ := ru.ins
    obtain ⟨y, hy⟩ := lookup_of (f := f) (fs := fs) (xs := xs) (by rw [ra.len]; exact hj) hl
    refine .inl ⟨a, C, dx, fs.zip xs, y, rfl, ha, hc, hn, hy, q v y H1 e1 hv (walkH_snoc hw ?_)⟩
    unfold stepH
    simp only
    rw [ha]
    show (fs.zip xs)[_]?.map _ = _
    rw [zip_get2 hl]
    exact lookup_idx hy
/-- the list that is reached gets other items -/
theorem chg_core {A0 : Own} {H H1 : Hp} {σ : L2.St} {B C : List Addr} {v u : V} (hi : ρ[i]? = some (some d)) (hd : subD d π = some (.lst true ds)) (hv : σ[i]? = some (some v)) (hw : walkH H1 v π = some u) (w : W0 A0 B H) (ex : Ex H H1) (fr : ∀ a ∈ C, H a = none)
    (r : EnvR K (A0.and (C ++ B)) H1 σ ρ B) (dj : ∀ a ∈ C, a ∉ B) : ∃ l xs B1, u = .ref l ∧ H1 l = some (.lst xs) ∧ RpAll K (A0.and (C ++ B)) H1 xs ds B1 ∧ (∀ a ∈ B1, a ∈ B) ∧ l ∈ B ∧
      ∀ ys ds' B' D' z y, RpAll K (A0.and (C ++ B)) H1 ys ds' B' → (∀ b ∈ B', b ∈ B1 ∨ b ∈ C) → Rp K (A0.and (C ++ B)) H1 y z [] → D' = ([] : List Addr) →
        ∃ B2, EnvR K (A0.and (D' ++ B2)) (upd H1 l (.lst ys)) σ (ρ.set i (some (putD d π (.lst true ds')))) B2 ∧ Step B H (D' ++ B2) (upd H1 l (.lst ys)) ∧ Rp K (A0.and (D' ++ B2)) (upd H1 l (.lst ys)) y z [] := by
  obtain ⟨v', u', Bu, h1, hw', ru, sB, k⟩ := r.focus hi hd
  rw [hv] at h1
  cases h1
  cases walk_fun hw hw'
  cases ru with
  | @lstO l xs _ B1 ha hA hn rr =>
  refine ⟨l, xs, B1, rfl, ha, rr, fun a h => sB a (List.mem_cons_of_mem _ h), sB l List.mem_cons_self, fun ys ds' B' D' z y ry hB' rz hD' => ?_⟩
  subst hD'
  have nl : l ∉ B' := fun z => (hB' l z).elim hn fun z => dj l z (sB l List.mem_cons_self)
  have kp : ∀ B0, l ∉ B0 → (∀ b ∈ B0, (A0.and (C ++ B)) b) → Keep (A0.and (C ++ B)) H1 B0 (A0.and (C ++ B)) (upd H1 l (.lst ys)) := fun B0 z hB => keep_upd hA z hB
  obtain ⟨B2, r2, s2⟩ := k (A0.and (C ++ B)) (upd H1 l (.lst ys)) (.lst true ds') (l :: B') (fun B0 h0 => kp B0 (fun z => (h0 l z).2 List.mem_cons_self) fun b hb => .inr (List.mem_append_right _ (h0 b hb).1))
    (.lstO upd_same hA nl (ry.keep _ (kp _ nl fun b hb => (ry.tracked _ b hb).2))) (fun b hb => (List.mem_cons.mp hb).elim (fun z => .inl (z ▸ List.mem_cons_self)) fun hb => (hB' b hb).imp (List.mem_cons_of_mem _) (dj b))
  have s2' : ∀ b ∈ B2, b ∈ C ∨ b ∈ B := fun b hb => by
    rcases s2 b hb with z | z
    · rcases List.mem_cons.mp z with z | z
      · rw [z]; exact .inr (sB l List.mem_cons_self)
      · exact (hB' b z).elim (fun z => .inr (sB b (List.mem_cons_of_mem _ z))) .inl
    · exact .inr z
  have less : ∀ a, (A0.and ([] ++ B2)) a → (A0.and (C ++ B)) a := fun a z => z.imp id fun z => List.mem_append.mpr (s2' a z)
  refine ⟨B2, r2.keep (keep_less less fun b hb => .inr hb), ⟨fun b o hb nb => ?_, fun b hb => ?_, fun b hb => ?_⟩, (rz.keep _ (kp [] (fun z => nomatch z) fun _ h => nomatch h)).keep _ (keep_less less fun _ h => nomatch h)⟩
  · rw [upd_ne fun z => nb (by rw [z]; exact sB l List.mem_cons_self)]
    exact ex _ _ hb
  · by_cases hz : b = l
    · rw [hz, upd_same]; simp
    · rw [upd_ne hz]; exact ex.ne hb
  · exact (s2' b hb).elim (fun z => .inr (fr b z)) .inl
/-- what a method makes of a list's items -/
def ChgOk (K : PySem.W.Frag) (r : V → List V → Hp → VK → Prop) (ds es ds' : List D) (z : D) : Prop := ∀ (A : Own) (H : Hp) (l : Addr) (xs vs : List V) (B C : List Addr), H l = some (.lst xs) → RpAll K A H xs ds B → RpAll K A H vs es C → (∀ a ∈ B, a ∉ C) → ∀ Q : VK,
  (∀ ys y B', RpAll K A H ys ds' B' → (∀ b ∈ B', b ∈ B ∨ b ∈ C) → Rp K A H y z [] → Q y (upd H l (.lst ys))) → r (.ref l) vs H Q
theorem evu_chg {r : V → List V → Hp → VK → Prop} {ta : TA} {es ds' : List D} (hp : EvPt K to ρ i π) (hi : ρ[i]? = some (some d)) (hd : subD d π = some (.lst true ds)) (ha : EvA K ta ρ es) (hr : ChgOk K r ds es ds' z) : EvU K (tBM K "list" r to ta) ρ i (putD d π (.lst true ds')) z := fun A0 H σ B w rr Q q =>
  hp (A0.and B) H σ B (w.wa rr) rr _ fun v u H1 e1 hv hw => by
    obtain ⟨w1, r1⟩ := et_step (w.wa rr) rr e1
    obtain ⟨v', u', Bu, h1, hw', ru, _⟩ := r1.focus hi hd
    rw [hv] at h1
    cases h1
    cases walk_fun hw hw'
    have ty : tyV K "list" u H1 := by
      cases ru with
      | @lstO l xs _ B1 ha hA hn rr => exact .inl ⟨rfl, _, .inl (.inl ha)⟩
    refine ⟨ty, ha (A0.and B) H1 σ B w1 r1 _ fun vs H2 C2 e2 f2 p2 => ?_⟩
    have r2 : EnvR K (A0.and (C2 ++ B)) H2 σ ρ B := (r1.keep (keep_and w1 e2 f2 fun a h => .inr h)).keep ⟨fun a o h n => ⟨h, fun z => n (and_and.mpr z)⟩, fun a o m h => ⟨h, .inr (List.mem_append_right _ m)⟩⟩
    have p2' : RpAll K (A0.and (C2 ++ B)) H2 vs es C2 := p2.keep _ ⟨fun a o h n => ⟨h, fun z => n (and_and.mpr z)⟩, fun a o m h => ⟨h, .inr (List.mem_append_left _ m)⟩⟩
    have dj : ∀ a ∈ C2, a ∉ B := fun a h z => (r1.tracked a z).1 (f2 a h)
    obtain ⟨l, xs, B1, rfl, hl, rx, sB, lB, k⟩ := chg_core hi hd hv (walkH_ex e2 hw) w (e1.tr e2) (fun a h => e1.back (f2 a h)) r2 dj
    refine hr _ H2 l xs vs B1 C2 hl rx p2' (fun a h z => dj a z (sB a h)) Q fun ys y B' ry hB' ryz => ?_
    obtain ⟨B2, g1, g2, g3⟩ := k ys ds' B' [] z y ry hB' ryz rfl
    exact q y _ B2 [] g2 g1 g3 fun _ h => nomatch h
theorem evu_chg0 {r : V → List V → Hp → VK → Prop} {ds' : List D} (hp : EvPt K to ρ i π) (hi : ρ[i]? = some (some d)) (hd : subD d π = some (.lst true ds)) (hr : ChgOk K r ds [] ds' z) : EvU K (tBM0 K "list" r to) ρ i (putD d π (.lst true ds')) z :=
  evu_chg (ta := tNil) hp hi hd ea_nil hr
theorem chg_append {o : Bool} (h : ds.length < sizeLine) : ChgOk K rAppend ds [e] (ds ++ [e]) .non := fun A H l xs vs B C hl rx rv dj Q q => by
  obtain ⟨y, rfl, ry⟩ := rv.one
  exact ⟨l, xs, y, rfl, rfl, hl, by rw [rx.len]; exact h, q _ .non (B ++ C) (rx.snoc ry dj) (fun b hb => List.mem_append.mp hb) (.sc _)⟩
theorem chg_clear : ChgOk K rClear ds [] [] .non := fun A H l xs vs B C hl rx rv dj Q q => by
  cases rv
  exact ⟨l, xs, rfl, rfl, hl, q [] .non [] .nil (fun _ h => nomatch h) (.sc _)⟩
theorem RpAll.dropLast {A : Own} {H : Hp} : ∀ {xs : List V} {ds : List D} {B : List Addr}, RpAll K A H xs ds B → ∃ C, RpAll K A H xs.dropLast ds.dropLast C ∧ ∀ a ∈ C, a ∈ B := fun {xs ds B} r => by
  have h1 : xs.dropLast = xs.take (xs.length - 1) := List.dropLast_eq_take
  have h2 : ds.dropLast = ds.take (ds.length - 1) := List.dropLast_eq_take
  rw [h1, h2, r.len]
  exact r.take _
theorem chg_pop (hz : ds[ds.length - 1]? = some z) (hs : z.shd = true) : ChgOk K rPop ds [] ds.dropLast z := fun A H l xs vs B C hl rx rv dj Q q => by
  cases rv
  obtain ⟨y, C1, h1, h2, h3⟩ := rx.get hz
  obtain ⟨C3, h4, h5⟩ := rx.dropLast
  obtain rfl := h2.shd _ hs
  exact ⟨l, xs, y, rfl, rfl, hl, by rw [rx.len]; exact h1, q _ y C3 h4 (fun b hb => .inl (h5 b hb)) h2⟩
theorem chg_extend {fs : List D} (h : ds.length + fs.length ≤ sizeLine) : ChgOk K rExtend ds [.lst true fs] (ds ++ fs) .non := fun A H l xs vs B C hl rx rv dj Q q => by
  obtain ⟨y, rfl, ry⟩ := rv.one
  cases ry with
  | @lstO b zs _ B1 hb hA hn rz =>
  exact ⟨l, b, xs, zs, rfl, rfl, hl, hb, by rw [rx.len, rz.len]; exact h, q _ .non (B ++ B1) (rx.app rz fun a h z => dj a h (List.mem_cons_of_mem _ z)) (fun b hb => (List.mem_append.mp hb).imp id (List.mem_cons_of_mem _)) (.sc _)⟩
def rInsert : V → List V → Hp → VK → Prop := fun x vs H Q => ∃ (l : Addr) (xs : List V) (i : Int) (y : V), x = .ref l ∧ vs = [.int i, y] ∧ H l = some (.lst xs) ∧ xs.length < sizeLine ∧ 0 ≤ i ∧ i < 2 ^ 63 ∧ Q .non (upd H l (.lst (xs.take i.toNat ++ [y] ++ xs.drop i.toNat)))
theorem RpAll.splitAt {A : Own} {H : Hp} : ∀ {xs : List V} {ds : List D} {B : List Addr} (n : Nat), RpAll K A H xs ds B → ∃ C1 C2, RpAll K A H (xs.take n) (ds.take n) C1 ∧ RpAll K A H (xs.drop n) (ds.drop n) C2 ∧ (∀ a ∈ C1, a ∈ B) ∧ (∀ a ∈ C2, a ∈ B) ∧ ∀ a ∈ C1, a ∉ C2
  | xs, ds, B, 0, r => ⟨[], B, .nil, r, (fun _ h => nomatch h), (fun _ h => h), (fun _ h => nomatch h)⟩
  | _, _, _, n + 1, .nil => ⟨[], [], .nil, .nil, (fun _ h => nomatch h), (fun _ h => nomatch h), (fun _ h => nomatch h)⟩
  | _, _, _, n + 1, .cons (B := B1) (C := B2) r t m => by
    obtain ⟨C1, C2, h1, h2, h3, h4, h5⟩ := RpAll.splitAt n t
    refine ⟨B1 ++ C1, C2, .cons r h1 fun a h z => m a h (h3 a z), h2, fun a h => (List.mem_append.mp h).elim (List.mem_append_left _) fun z => List.mem_append_right _ (h3 a z), fun a h => List.mem_append_right _ (h4 a h), fun a h z => ?_⟩
    rcases List.mem_append.mp h with h | h
    · exact m a h (h4 a z)
    · exact h5 a h z
theorem chg_insert {n : Int} (h : ds.length < sizeLine) (h0 : 0 ≤ n) (h1 : n < 2 ^ 63) : ChgOk K rInsert ds [.int n, e] (ds.take n.toNat ++ [e] ++ ds.drop n.toNat) .non := fun A H l xs vs B C hl rx rv dj Q q => by
  obtain ⟨x, y, B1, B2, rfl, rx1, ry, rfl, d1⟩ := rv.two
  cases rx1
  obtain ⟨C1, C2, g1, g2, g3, g4, g5⟩ := rx.splitAt n.toNat
  have dj' : ∀ a ∈ B, a ∉ B2 := fun a h z => dj a h (List.mem_append_right _ z)
  refine ⟨l, xs, n, y, rfl, rfl, hl, by rw [rx.len]; exact h, h0, h1, q _ .non ((C1 ++ B2) ++ C2) ((g1.snoc ry fun a h => dj' a (g3 a h)).app g2 fun a h z => ?_) (fun b hb => ?_) (.sc _)⟩
  · rcases List.mem_append.mp h with h | h
    · exact g5 a h z
    · exact dj' a (g4 a z) h
  · rcases List.mem_append.mp hb with hb | hb
    · rcases List.mem_append.mp hb with hb | hb
      · exact .inl (g3 b hb)
      · exact .inr (List.mem_append_right _ hb)
    · exact .inl (g4 b hb)
theorem Rp.set1 {A : Own} {H : Hp} {y : V} {C1 : List Addr} (q : Rp K A H y e C1) : ∀ {xs : List V} {ds : List D} {B1 : List Addr} (j : Nat), RpAll K A H xs ds B1 → (∀ a ∈ C1, a ∉ B1) → ∃ B', RpAll K A H (xs.set j y) (ds.set j e) B' ∧ ∀ b ∈ B', b ∈ B1 ∨ b ∈ C1
  | _, _, _, j, .nil, _ => ⟨[], .nil, fun _ h => nomatch h⟩
  | _, _, _, 0, .cons (B := Ba) (C := Bb) ra ta na, hd => ⟨C1 ++ Bb, .cons q ta fun a h z => hd a h (List.mem_append_right _ z), fun b hb => (List.mem_append.mp hb).elim .inr fun z => .inl (List.mem_append_right _ z)⟩
  | _, _, _, j + 1, .cons (B := Ba) (C := Bb) ra ta na, hd => by
    obtain ⟨B', g1, g2⟩ := Rp.set1 q j ta fun a h z => hd a h (List.mem_append_right _ z)
    refine ⟨Ba ++ B', .cons ra g1 fun a h z => ?_, fun b hb => ?_⟩
    · rcases g2 a z with z | z
      · exact na a h z
      · exact hd a z (List.mem_append_left _ h)
    · rcases List.mem_append.mp hb with hb | hb
      · exact .inl (List.mem_append_left _ hb)
      · exact (g2 b hb).imp (List.mem_append_right _) id
/-- x[..][k] = e -/
theorem run_setp {n : Int} (he : EvS K te ρ e) (hp : EvPt K to ρ i π) (hi : ρ[i]? = some (some d)) (hd : subD d π = some (.lst true ds)) (ht : EvS K ti ρ (.int n)) (hn : ixN ds.length n = some j) :
    Run K W (tAsg te (gSub to ti rSetL)) ρ (.nx (ρ.set i (some (putD d π (.lst true (ds.set j e)))))) := fun A0 H σ B E w r p =>
  he.run w r fun v1 H1 C1 e1 f1 r1 q1 dj1 => by
    have w1 : WA (A0.and (C1 ++ B)) H1 := fun a h => h.elim (fun h => e1.ne (w.live a h)) fun h => (List.mem_append.mp h).elim (fun z => (q1.tracked _ a z).1) fun z => (r1.tracked a z).1
    refine hp (A0.and (C1 ++ B)) H1 σ B w1 r1 _ fun v u H2 e2 hv hw => ?_
    have w2 : WA (A0.and (C1 ++ B)) H2 := fun a h => e2.ne (w1 a h)
    have r2 : EnvR K (A0.and (C1 ++ B)) H2 σ ρ B := r1.keep ⟨fun a o h n => ⟨e2 a o h, n⟩, fun a o m h => ⟨e2 a o h, (r1.tracked a m).2⟩⟩
    have q2 : Rp K (A0.and (C1 ++ B)) H2 v1 e C1 := q1.keep _ ⟨fun a o h n => ⟨e2 a o h, n⟩, fun a o m h => ⟨e2 a o h, (q1.tracked _ a m).2⟩⟩
    refine ht (A0.and (C1 ++ B)) H2 σ B w2 r2 _ fun y H3 C3 e3 f3 p3 => ?_
    cases p3
    have r3 : EnvR K (A0.and (C1 ++ B)) H3 σ ρ B := r2.keep ⟨fun a o h n => ⟨e3 a o h, n⟩, fun a o m h => ⟨e3 a o h, (r2.tracked a m).2⟩⟩
    have q3 : Rp K (A0.and (C1 ++ B)) H3 v1 e C1 := q2.keep _ ⟨fun a o h n => ⟨e3 a o h, n⟩, fun a o m h => ⟨e3 a o h, (q2.tracked _ a m).2⟩⟩
    obtain ⟨l, xs, B1, rfl, hl, rx, sB, lB, k⟩ := chg_core hi hd hv (walkH_ex e3 hw) w ((e1.tr e2).tr e3) f1 r3 dj1
    have hj : j < ds.length := by
      unfold ixN at hn
      split at hn
      · split at hn
        · cases hn; omega
        · cases hn
      · split at hn
        · cases hn; omega
        · cases hn
    obtain ⟨u, Bk, h1, h2, h3, kk⟩ := rx.upd1 (k := j) (e := ds[j]) (List.getElem?_eq_getElem hj)
    refine ⟨l, xs, n, j, rfl, rfl, hl, by rw [rx.len]; exact hn, ?_⟩
    have rset := q3.set1 j rx fun a h z => dj1 a h (sB a z)
    obtain ⟨B', g1, g2⟩ := rset
    obtain ⟨B2, g3, g4, _⟩ := k _ _ B' [] .non .non g1 g2 (.sc _) rfl
    exact p _ σ B2 g4 g3
end
end FP

namespace FP
open PySem PySem.Spec PyProof.Rows L2

/-! ### changes in place, told of pure data -/
def kidP : P → Nat → Option P
  | .lst ps, j => ps[j]?
  | .tup ps, j => ps[j]?
  | .ins _ fs ps, j => if fs.length = ps.length then ps[j]? else none
  | .dK ks ps, j => if ks.length = ps.length then ps[j]? else none
  | .dT ks ps, j => if ks.length = ps.length then ps[j]? else none
  | _, _ => none
def putKP : P → Nat → P → P
  | .lst ps, j, e => .lst (ps.set j e)
  | .tup ps, j, e => .tup (ps.set j e)
  | .ins c fs ps, j, e => .ins c fs (ps.set j e)
  | .dK ks ps, j, e => .dK ks (ps.set j e)
  | .dT ks ps, j, e => .dT ks (ps.set j e)
  | p, _, _ => p
def subP : P → List Nat → Option P
  | p, [] => some p
  | p, j :: π => match kidP p j with
    | some q => subP q π
    | none => none
def putP : P → List Nat → P → P
  | _, [], e => e
  | p, j :: π, e => match kidP p j with
    | some q => putKP p j (putP q π e)
    | none => p
def W.at : W → List Nat → W
  | w, [] => w
  | w, j :: π => W.at (w.kid j) π
def ownAt : W → List Nat → Bool
  | _, [] => true
  | w, j :: π => w.own && ownAt (w.kid j) π
inductive Pth where
  | root
  | ix (p : Pth) (f : X)
  | fld (p : Pth) (n : Str) (ci : Nat → Bool)
def Pth.depth : Pth → Nat
  | .root => 0
  | .ix p _ => p.depth + 1
  | .fld p _ _ => p.depth + 1
def Pth.run : Pth → PEnv → P → Option (List Nat × P)
  | .root, _, v => some ([], v)
  | .ix p f, ρ, v => match p.run ρ v with
    | some (π, .lst ps) => match f ρ with
      | some (.ok (.sc (.int n))) => match ixN ps.length n with
        | some j => match ps[j]? with
          | some q => some (π ++ [j], q)
          | none => none
        | none => none
      | _ => none
    | some (π, .tup ps) => match f ρ with
      | some (.ok (.sc (.int n))) => match ixN ps.length n with
        | some j => match ps[j]? with
          | some q => some (π ++ [j], q)
          | none => none
        | none => none
      | _ => none
    | _ => none
  | .fld p n ci, ρ, v => match p.run ρ v with
    | some (π, .ins c fs ps) => if ci c = true ∧ fs.length = ps.length then match ps[fs.idxOf n]? with
        | some q => some (π ++ [fs.idxOf n], q)
        | none => none
      else none
    | _ => none
section
variable {K : PySem.W.Frag} {A : Nat → Addr} {U : WX} {te to ti : TE} {ta : TA} {δ δ' δL : List W} {G : List W → Prop} {w wr : W} {i j : Nat} {x : X} {xs : List X} {pt : Pth}
theorem fl_own {w : W} (h : w.own = true) : w.fl.isSh = false := by
  cases w with
  | s => cases h
  | _ => rfl
theorem kidD_emb {w : W} {p q : P} {j : Nat} (ho : w.own = true) (h : kidP p j = some q) : kidD (emb A w p) j = some (emb A (w.kid j) q) := by
  have g : ∀ ps : List P, ps[j]? = some q → (embs A w 0 ps)[j]? = some (emb A (w.kid j) q) := fun ps e => by
    rw [embs_get, e, Nat.zero_add]
    rfl
  cases p with
  | lst ps => rw [emb_lst, ho]; exact g ps h
  | tup ps => rw [emb_tup, ho]; exact g ps h
  | ins c fs ps =>
    have hh : fs.length = ps.length ∧ ps[j]? = some q := by
      unfold kidP at h
      simp only at h
      by_cases hl : fs.length = ps.length
      · rw [if_pos hl] at h; exact ⟨hl, h⟩
      · rw [if_neg hl] at h; cases h
    obtain ⟨hl, h⟩ := hh
    rw [emb_ins]
    unfold kidD
    simp only
    rw [if_pos ⟨fl_own ho, by rw [embs_len]; exact hl⟩]
    exact g ps h
  | dK ks ps =>
    have hh : ks.length = ps.length ∧ ps[j]? = some q := by
      unfold kidP at h
      simp only at h
      by_cases hl : ks.length = ps.length
      · rw [if_pos hl] at h; exact ⟨hl, h⟩
      · rw [if_neg hl] at h; cases h
    obtain ⟨hl, h⟩ := hh
    rw [emb, ho]
    unfold kidD
    simp only
    rw [if_pos (by rw [embs_len]; exact hl)]
    exact g ps h
  | dT ks ps =>
    have hh : ks.length = ps.length ∧ ps[j]? = some q := by
      unfold kidP at h
      simp only at h
      by_cases hl : ks.length = ps.length
      · rw [if_pos hl] at h; exact ⟨hl, h⟩
      · rw [if_neg hl] at h; cases h
    obtain ⟨hl, h⟩ := hh
    rw [emb, ho]
    unfold kidD
    simp only
    rw [if_pos (by rw [embs_len]; exact hl)]
    exact g ps h
  | _ => cases h
theorem embs_set {w : W} {q : P} : ∀ (ps : List P) (i j : Nat), embs A w i (ps.set j q) = (embs A w i ps).set j (emb A (w.kid (i + j)) q)
  | [], _, _ => by simp [embs]
  | p :: ps, i, 0 => by rw [List.set_cons_zero, embs, embs, List.set_cons_zero]; rfl
  | p :: ps, i, j + 1 => by rw [List.set_cons_succ, embs, embs, List.set_cons_succ, embs_set ps, show i + 1 + j = i + (j + 1) by omega]
theorem putK_emb {w : W} {p q : P} {j : Nat} : putK (emb A w p) j (emb A (w.kid j) q) = emb A w (putKP p j q) := by
  cases p with
  | lst ps => rw [emb_lst]; show D.lst _ _ = emb A w (.lst _); rw [emb_lst, embs_set, Nat.zero_add]
  | tup ps => rw [emb_tup]; show D.tup _ _ = emb A w (.tup _); rw [emb_tup, embs_set, Nat.zero_add]
  | ins c fs ps => rw [emb_ins]; show D.ins _ _ _ _ = emb A w (.ins _ _ _); rw [emb_ins, embs_set, Nat.zero_add]
  | dK ks ps => rw [emb]; show D.dK _ _ _ = emb A w (.dK _ _); rw [emb, embs_set, Nat.zero_add]
  | dT ks ps => rw [emb]; show D.dT _ _ _ = emb A w (.dT _ _); rw [emb, embs_set, Nat.zero_add]
  | sc x => rw [emb_sc]; show D.sc x = emb A w (.sc x); rw [emb_sc]
  | cls x => rw [emb_cls]; show D.sc _ = emb A w (.cls x); rw [emb_cls]
  | exc c fs => rw [emb_exc]; show D.exc _ _ = emb A w (.exc c fs); rw [emb_exc]
theorem subD_emb : ∀ {π : List Nat} {w : W} {p q : P}, ownAt w π = true → subP p π = some q → subD (emb A w p) π = some (emb A (w.at π) q)
  | [], w, p, q, _, h => by cases h; rfl
  | j :: π, w, p, q, ho, h => by
    unfold ownAt at ho
    rw [Bool.and_eq_true] at ho
    unfold subP at h
    cases hk : kidP p j with
    | none => rw [hk] at h; cases h
    | some r =>
      rw [hk] at h
      unfold subD
      rw [kidD_emb ho.1 hk]
      exact subD_emb ho.2 h
theorem putD_emb : ∀ {π : List Nat} {w : W} {p q e : P}, ownAt w π = true → subP p π = some q → putD (emb A w p) π (emb A (w.at π) e) = emb A w (putP p π e)
  | [], w, p, q, e, _, h => rfl
  | j :: π, w, p, q, e, ho, h => by
    unfold ownAt at ho
    rw [Bool.and_eq_true] at ho
    unfold subP at h
    cases hk : kidP p j with
    | none => rw [hk] at h; cases h
    | some r =>
      rw [hk] at h
      unfold putD putP
      rw [kidD_emb ho.1 hk, hk]
      show putK (emb A w p) j (putD (emb A (w.kid j) r) π (emb A ((w.kid j).at π) e)) = _
      rw [putD_emb ho.2 h, putK_emb]
theorem subP_snoc : ∀ {π : List Nat} {p q r : P} {j : Nat}, subP p π = some q → kidP q j = some r → subP p (π ++ [j]) = some r
  | [], p, q, r, j, h, k => by
    cases h
    show subP _ [j] = _
    unfold subP
    rw [k]
    rfl
  | i :: π, p, q, r, j, h, k => by
    show subP p (i :: (π ++ [j])) = _
    unfold subP at h ⊢
    cases hk : kidP p i with
    | none => rw [hk] at h; cases h
    | some y =>
      rw [hk] at h
      exact subP_snoc h k
theorem ownAt_pre : ∀ {π : List Nat} {w : W} {j : Nat}, ownAt w (π ++ [j]) = true → ownAt w π = true ∧ (w.at π).own = true
  | [], w, j, h => by
    unfold ownAt at h
    rw [List.nil_append, Bool.and_eq_true] at h
    exact ⟨rfl, h.1⟩
  | i :: π, w, j, h => by
    rw [List.cons_append] at h
    unfold ownAt at h ⊢
    rw [Bool.and_eq_true] at h ⊢
    obtain ⟨a, b⟩ := ownAt_pre h.2
    exact ⟨⟨h.1, a⟩, b⟩
theorem Pth.run_len : ∀ {pt : Pth} {ρ : PEnv} {v q : P} {π : List Nat}, pt.run ρ v = some (π, q) → π.length = pt.depth
  | .root, ρ, v, q, π, e => by cases e; rfl
  | .ix p f, ρ, v, q, π, e => by
    unfold Pth.run at e
    split at e
    · rename_i h0
      split at e
      · split at e
        · split at e
          · cases e
            rw [List.length_append, Pth.run_len h0]
            rfl
          · cases e
        · cases e
      · cases e
    · rename_i h0
      split at e
      · split at e
        · split at e
          · cases e
            rw [List.length_append, Pth.run_len h0]
            rfl
          · cases e
        · cases e
      · cases e
    · cases e
  | .fld p n ci, ρ, v, q, π, e => by
    unfold Pth.run at e
    split at e
    · rename_i h0
      split at e
      · split at e
        · cases e
          rw [List.length_append, Pth.run_len h0]
          rfl
        · cases e
      · cases e
    · cases e
structure PtOk (K : PySem.W.Frag) (A : Nat → Addr) (te : TE) (δ : List W) (i : Nat) (pt : Pth) : Prop where
  ok : ∀ ρ v π q, ρ[i]? = some (some v) → pt.run ρ v = some (π, q) → ownAt (δ.getD i .s) π = true → subP v π = some q ∧ EvPt K te (embE A δ ρ) i π
theorem pt_var : PtOk K A (tVar i) δ i .root := ⟨fun ρ v π q hv e ho => by
  cases e
  exact ⟨rfl, ept_var (embE_some hv)⟩⟩
theorem pt_ix (hp : PtOk K A to δ i pt) (hx : XOk K A U ti δ x .s) : PtOk K A (tOp (rIx K) to ti) δ i (.ix pt x) := ⟨fun ρ v π q hv e ho => by
  unfold Pth.run at e
  split at e
  · rename_i π0 ps h0
    split at e
    · rename_i n hn
      split at e
      · rename_i j hj
        split at e
        · rename_i q' hq
          cases e
          obtain ⟨o1, o2⟩ := ownAt_pre ho
          obtain ⟨s1, p1⟩ := hp.ok ρ v π0 _ hv h0 o1
          have s2 := subP_snoc (j := j) s1 hq
          refine ⟨s2, ept_ix p1 (embE_some hv) (subD_emb o1 s1) (ds := embs A ((δ.getD i .s).at π0) 0 ps) (.inl (by rw [emb_lst, o2])) (n := n) ?_ (by rw [embs_len]; exact hj) (by rw [embs_len]; exact (List.getElem?_eq_some_iff.mp hq).1)⟩
          have := hx.ok ρ _ hn
          rwa [emb_sc] at this
        · cases e
      · cases e
    · cases e
  · rename_i π0 ps h0
    split at e
    · rename_i n hn
      split at e
      · rename_i j hj
        split at e
        · rename_i q' hq
          cases e
          obtain ⟨o1, o2⟩ := ownAt_pre ho
          obtain ⟨s1, p1⟩ := hp.ok ρ v π0 _ hv h0 o1
          have s2 := subP_snoc (j := j) s1 hq
          refine ⟨s2, ept_ix p1 (embE_some hv) (subD_emb o1 s1) (ds := embs A ((δ.getD i .s).at π0) 0 ps) (.inr (by rw [emb_tup, o2])) (n := n) ?_ (by rw [embs_len]; exact hj) (by rw [embs_len]; exact (List.getElem?_eq_some_iff.mp hq).1)⟩
          have := hx.ok ρ _ hn
          rwa [emb_sc] at this
        · cases e
      · cases e
    · cases e
  · cases e⟩
theorem pt_fld {n : Str} {ci ce : Nat → Bool} (hF : FldOk K A n ci ce) (hp : PtOk K A to δ i pt) : PtOk K A (tFldA K to n) δ i (.fld pt n ci) := ⟨fun ρ v π q hv e ho => by
  unfold Pth.run at e
  split at e
  · rename_i π0 c fs ps h0
    split at e
    · rename_i hc
      split at e
      · rename_i q' hq
        cases e
        obtain ⟨o1, o2⟩ := ownAt_pre ho
        obtain ⟨s1, p1⟩ := hp.ok ρ v π0 _ hv h0 o1
        have s2 := subP_snoc (j := fs.idxOf n) s1 (by unfold kidP; simp only; rw [if_pos hc.2]; exact hq)
        have hs := subD_emb (A := A) o1 s1
        rw [emb_ins] at hs
        exact ⟨s2, ept_fld p1 (embE_some hv) hs (hF.ins c hc.1).1 (hF.ins c hc.1).2 (by rw [embs_len]; exact (List.getElem?_eq_some_iff.mp hq).1)⟩
      · cases e
    · cases e
  · cases e⟩
/-! methods of a list that is reached -/
abbrev Chg := List P → List P → Option (List P × P)
def qAppend : Chg := fun ps vs => match vs with
  | [v] => if ps.length < sizeLine then some (ps ++ [v], .non) else none
  | _ => none
def qClear : Chg := fun _ vs => match vs with
  | [] => some ([], .non)
  | _ => none
def qPop : Chg := fun ps vs => match vs with
  | [] => match ps[ps.length - 1]? with
    | some y => some (ps.dropLast, y)
    | none => none
  | _ => none
def qExtend : Chg := fun ps vs => match vs with
  | [.lst qs] => if ps.length + qs.length ≤ sizeLine then some (ps ++ qs, .non) else none
  | _ => none
def qInsert : Chg := fun ps vs => match vs with
  | [.sc (.int n), v] => if ps.length < sizeLine ∧ 0 ≤ n ∧ n < 2 ^ 63 then some (ps.take n.toNat ++ [v] ++ ps.drop n.toNat, .non) else none
  | _ => none
/-- wl the list's shape, wa the handed values' -/
def ChgPOk (K : PySem.W.Frag) (A : Nat → Addr) (r : V → List V → Hp → VK → Prop) (q : Chg) (wl wa : W) : Prop := ∀ ps vs ps' z, q ps vs = some (ps', z) → ChgOk K r (embs A wl 0 ps) (embs A wa 0 vs) (embs A wl 0 ps') (emb A .s z)
theorem embs_app {w : W} (hk : ∀ n, w.kid n = w.kid 0) (ps qs : List P) : embs A w 0 (ps ++ qs) = embs A w 0 ps ++ embs A w 0 qs := by
  rw [embs_kid hk, embs_kid hk, embs_kid hk, List.map_append]
theorem g_append {wl : W} (hk : ∀ n, wl.kid n = wl.kid 0) : ChgPOk K A rAppend qAppend wl wl := fun ps vs ps' z e => by
  unfold qAppend at e
  split at e
  · obtain ⟨hl, e⟩ := opt_ite e
    cases e
    rw [embs_app hk, emb_sc, embs1]
    exact chg_append (o := true) (by rw [embs_len]; exact hl)
  · cases e
theorem g_clear {wl wa : W} : ChgPOk K A rClear qClear wl wa := fun ps vs ps' z e => by
  unfold qClear at e
  split at e
  · cases e
    rw [emb_sc, embs, embs]
    exact chg_clear
  · cases e
theorem g_pop {wl wa : W} (hk : ∀ n, wl.kid n = .s) : ChgPOk K A rPop qPop wl wa := fun ps vs ps' z e => by
  unfold qPop at e
  split at e
  · split at e
    · rename_i y hy
      cases e
      have hk' : ∀ n, wl.kid n = wl.kid 0 := fun n => by rw [hk, hk]
      rw [embs_kid hk', embs_kid hk', hk 0, embs, List.map_dropLast]
      exact chg_pop (by rw [List.length_map, List.getElem?_map, hy]; rfl) (emb_shd _)
    · cases e
  · cases e
theorem g_extend {wl wa : W} (hk : ∀ n, wl.kid n = wl.kid 0) (ha : wa.kid 0 = .o (wl.kid 0)) : ChgPOk K A rExtend qExtend wl wa := fun ps vs ps' z e => by
  unfold qExtend at e
  split at e
  · obtain ⟨hl, e⟩ := opt_ite e
    cases e
    rw [embs_app hk, emb_sc, embs1, ha, emb_lst, embs_o, embs_kid hk, embs_kid hk]
    exact chg_extend (by rw [List.length_map, List.length_map]; exact hl)
  · cases e
theorem g_insert {wl : W} (hk : ∀ n, wl.kid n = wl.kid 0) : ChgPOk K A rInsert qInsert wl wl := fun ps vs ps' z e => by
  unfold qInsert at e
  split at e
  · obtain ⟨hl, e⟩ := opt_ite e
    cases e
    rw [embs_app hk, embs_app hk, emb_sc, embs2, emb_sc, embs1, hk 1]
    have := chg_insert (K := K) (ds := embs A wl 0 ps) (e := emb A (wl.kid 0) (by assumption)) (by rw [embs_len]; exact hl.1) hl.2.1 hl.2.2
    rw [embs_kid hk, ← List.map_take, ← List.map_drop] at this
    rw [embs_kid hk, embs_kid hk, embs_kid hk]
    exact this
  · cases e
/-- name[..].m(..): what it leaves, what it tells -/
def chgRun (w : W) (i : Nat) (pt : Pth) (q : Chg) (fs : List X) (ρ : PEnv) : Option (PEnv × P) := match ρ.getD i none with
  | some v => match pt.run ρ v with
    | some (π, .lst ps) => if ownAt w π = true ∧ (w.at π).own = true then match xArgs fs ρ with
        | some (.ok vs) => match q ps vs with
          | some (ps', z) => some (ρ.set i (some (putP v π (.lst ps'))), z)
          | none => none
        | _ => none
      else none
    | _ => none
  | none => none
def xChg (w : W) (i : Nat) (pt : Pth) (q : Chg) (fs : List X) : S := fun ρ => match chgRun w i pt q fs ρ with
  | some (ρ', _) => some (.nx ρ')
  | none => none
def xChgSet (w : W) (i : Nat) (pt : Pth) (q : Chg) (fs : List X) (j : Nat) : S := fun ρ => match chgRun w i pt q fs ρ with
  | some (ρ', z) => some (.nx (ρ'.set j (some z)))
  | none => none
theorem chg_evu {r : V → List V → Hp → VK → Prop} {q : Chg} {wa : W} (hw : δ.getD i .s = w) (hp : PtOk K A to δ i pt) (ha : AOk K A U ta δ xs wa 0) (hq : ∀ π : List Nat, π.length = pt.depth → ownAt w π = true → (w.at π).own = true → ChgPOk K A r q (w.at π) wa) {ρ ρ' : PEnv} {z : P} (e : chgRun w i pt q xs ρ = some (ρ', z)) :
    ∃ v d', ρ' = ρ.set i (some v) ∧ embE A δ ρ' = (embE A δ ρ).set i (some d') ∧ EvU K (tBM K "list" r to ta) (embE A δ ρ) i d' (emb A .s z) := by
  unfold chgRun at e
  split at e
  · rename_i v hv
    split at e
    · rename_i π ps h0
      by_cases h : ownAt w π = true ∧ (w.at π).own = true
      case neg => rw [if_neg h] at e; cases e
      rw [if_pos h] at e
      obtain ⟨o1, o2⟩ := h
      split at e
      · rename_i vs hvs
        split at e
        · rename_i ps' z' h1
          cases e
          subst hw
          have hv' := getD_some hv
          obtain ⟨s1, p1⟩ := hp.ok ρ v π _ hv' h0 o1
          have hs := subD_emb (A := A) o1 s1
          rw [emb_lst, o2] at hs
          have := evu_chg p1 (embE_some hv') hs (ha.ok ρ vs hvs) (hq π (Pth.run_len h0) o1 o2 ps vs ps' z h1)
          refine ⟨_, _, rfl, ?_, this⟩
          have e2 := putD_emb (A := A) (e := .lst ps') o1 s1
          rw [emb_lst, o2] at e2
          rw [e2]
          exact embE_set δ δ ρ i _ _ rfl fun _ _ => rfl
        · cases e
      · cases e
    · cases e
  · cases e
theorem s_chg {r : V → List V → Hp → VK → Prop} {q : Chg} {wa : W} (hw : δ.getD i .s = w) (hp : PtOk K A to δ i pt) (ha : AOk K A U ta δ xs wa 0) (hq : ∀ π : List Nat, π.length = pt.depth → ownAt w π = true → (w.at π).own = true → ChgPOk K A r q (w.at π) wa) : SOk K A U wr δL G (tDrop (tBM K "list" r to ta)) δ δ (xChg w i pt q xs) := by
  have key : ∀ ρ o, xChg w i pt q xs ρ = some o → ∃ ρ', o = .nx ρ' ∧ Run K U (tDrop (tBM K "list" r to ta)) (embE A δ ρ) (.nx (embE A δ ρ')) := fun ρ o e => by
    unfold xChg at e
    split at e
    · rename_i ρ' z h
      cases e
      obtain ⟨v, d', _, h2, h3⟩ := chg_evu hw hp ha hq h
      refine ⟨_, rfl, ?_⟩
      rw [h2]
      exact run_dropU h3
    · cases e
  refine ⟨fun ρ ρ' e => ?_, fun ρ p e => ?_, fun ρ ρ' e => ?_, fun ρ ρ' e => ?_, fun ρ c fs ρ' e => ?_⟩ <;> obtain ⟨_, h, hr⟩ := key _ _ e <;> cases h
  exact hr
theorem s_chg0 {r : V → List V → Hp → VK → Prop} {q : Chg} {wa : W} (hw : δ.getD i .s = w) (hp : PtOk K A to δ i pt) (hq : ∀ π : List Nat, π.length = pt.depth → ownAt w π = true → (w.at π).own = true → ChgPOk K A r q (w.at π) wa) : SOk K A U wr δL G (tDrop (tBM0 K "list" r to)) δ δ (xChg w i pt q []) :=
  s_chg (ta := tNil) (wa := wa) hw hp a_nil hq
theorem s_chgSet {r : V → List V → Hp → VK → Prop} {q : Chg} {wa : W} (hw : δ.getD i .s = w) (hj : δ.getD j .s = .s) (hp : PtOk K A to δ i pt) (ha : AOk K A U ta δ xs wa 0) (hq : ∀ π : List Nat, π.length = pt.depth → ownAt w π = true → (w.at π).own = true → ChgPOk K A r q (w.at π) wa) : SOk K A U wr δL G (tAsg (tBM K "list" r to ta) (gName j)) δ δ (xChgSet w i pt q xs j) := by
  have key : ∀ ρ o, xChgSet w i pt q xs j ρ = some o → ∃ ρ', o = .nx ρ' ∧ Run K U (tAsg (tBM K "list" r to ta) (gName j)) (embE A δ ρ) (.nx (embE A δ ρ')) := fun ρ o e => by
    unfold xChgSet at e
    split at e
    · rename_i ρ' z h
      cases e
      obtain ⟨v, d', _, h2, h3⟩ := chg_evu hw hp ha hq h
      refine ⟨_, rfl, ?_⟩
      rw [embE_set δ δ ρ' j .s z hj fun _ _ => rfl, h2]
      exact run_asgU h3
    · cases e
  refine ⟨fun ρ ρ' e => ?_, fun ρ p e => ?_, fun ρ ρ' e => ?_, fun ρ ρ' e => ?_, fun ρ c fs ρ' e => ?_⟩ <;> obtain ⟨_, h, hr⟩ := key _ _ e <;> cases h
  exact hr
/-- name[..][k] = e -/
def xSetP (w : W) (i : Nat) (pt : Pth) (k : X) (e : X) : S := fun ρ => ans ρ (e ρ) fun y => match ρ.getD i none with
  | some v => match pt.run ρ v with
    | some (π, .lst ps) => if ownAt w π = true ∧ (w.at π).own = true then match k ρ with
        | some (.ok (.sc (.int n))) => match ixN ps.length n with
          | some j => some (.nx (ρ.set i (some (putP v π (.lst (ps.set j y))))))
          | none => none
        | _ => none
      else none
    | _ => none
  | none => none
theorem run_asg_erX {g : TG} {ρ : Env} {C : Addr} {fs : List (Str × V)} (h : EvX K U te ρ C fs) : Run K U (tAsg te g) ρ (.er C fs ρ) := run_asg_er h
theorem s_setP {y : X} (hG : G δ) (hw : δ.getD i .s = w) (hp : PtOk K A to δ i pt) (hk : XOk K A U ti δ x .s) {we : W} (he : XOk K A U te δ y we) (hkid : ∀ (π : List Nat) n, π.length = pt.depth → ownAt w π = true → (w.at π).own = true → (w.at π).kid n = we) : SOk K A U wr δL G (tAsg te (gSub to ti rSetL)) δ δ (xSetP w i pt x y) := by
  refine s_of (fun y ρ => match ρ.getD i none with
  | some v => match pt.run ρ v with
    | some (π, .lst ps) => if ownAt w π = true ∧ (w.at π).own = true then match x ρ with
        | some (.ok (.sc (.int n))) => match ixN ps.length n with
          | some j => some (.nx (ρ.set i (some (putP v π (.lst (ps.set j y))))))
          | none => none
        | _ => none
      else none
    | _ => none
  | none => none) (fun p ρ o e => ?_) hG (fun ρ c fs e => run_asg_er (he.er ρ c fs e)) (fun ρ p ρ' e e2 => ?_) (fun ρ p q e e2 => ?_)
  · repeat' (split at e <;> try cases e)
    exact .inl ⟨_, rfl⟩
  · split at e2
    · rename_i v hv
      split at e2
      · rename_i π ps h0
        split at e2
        · rename_i ho
          split at e2
          · rename_i n hn
            split at e2
            · rename_i j hj
              cases e2
              subst hw
              have hv' := getD_some hv
              obtain ⟨s1, p1⟩ := hp.ok ρ v π _ hv' h0 ho.1
              have hs := subD_emb (A := A) ho.1 s1
              rw [emb_lst, ho.2] at hs
              have h2 := hk.ok ρ _ hn
              rw [emb_sc] at h2
              have := run_setp (W := U) (he.ok ρ p e) p1 (embE_some hv') hs h2 (by rw [embs_len]; exact hj)
              have e2 := putD_emb (A := A) (e := .lst (ps.set j p)) ho.1 s1
              rw [emb_lst, ho.2, embs_set, Nat.zero_add, hkid π j (Pth.run_len h0) ho.1 ho.2] at e2
              rw [e2] at this
              rw [embE_set δ δ ρ i _ _ rfl fun _ _ => rfl]
              exact this
            · cases e2
          · cases e2
        · cases e2
      · cases e2
    · cases e2
  · repeat' (split at e2 <;> try cases e2)
end
end FP

namespace FP
open PySem PySem.Spec PyProof.Rows L2

/-! ### more of pure data: chains, slices, texts, what is raised with fields -/
section
variable {K : PySem.W.Frag} {A : Nat → Addr} {U : WX} {te ta tb tc to : TE} {tt : TT} {t : TS} {δ δ' δ2 δL : List W} {G : List W → Prop} {f : S} {x y : X} {g h z : X} {w wr w1 w2 : W} {i j : Nat} {xs : List X} {tr : TA} {vs : List Nat}
theorem s_setK (hG : G δ) (h : XOk K A U te δ x w) (hi : δ.getD i .s = w) : SOk K A U wr δL G (tAsg te (gName i)) δ δ (xSet i x) :=
  s_of (fun p ρ => some (.nx (ρ.set i (some p)))) (fun _ _ _ e => by cases e; exact .inl ⟨_, rfl⟩) hG (fun ρ c fs e => run_asg_er (h.er ρ c fs e)) (fun ρ p ρ' e e2 => by
    cases e2
    rw [embE_set δ δ ρ i w p hi fun _ _ => rfl]
    exact run_asg (h.ok ρ p e)) (fun _ _ _ _ e => nomatch e)
theorem embE_wipe {δ2 : List W} : ∀ (vs : List Nat) (ρ : PEnv), (∀ j, j ∉ vs → δ2.getD j .s = δ'.getD j .s) → embE A δ2 (wipeP ρ vs) = embE A δ' (wipeP ρ vs) := fun vs ρ hk => by
  have none_at : ∀ (vs : List Nat) (j : Nat), j ∈ vs → ∀ p, (wipeP ρ vs)[j]? ≠ some (some p) := fun vs => by
    induction vs with
    | nil => exact fun j h => nomatch h
    | cons v vs ih =>
      intro j hj p hp
      rw [wipeP] at hp
      by_cases hv : v = j
      · subst hv
        by_cases hl : v < (wipeP ρ vs).length
        · rw [List.getElem?_set_self hl] at hp; cases hp
        · rw [List.getElem?_eq_none (by rw [List.length_set]; omega)] at hp; cases hp
      · rw [List.getElem?_set_ne hv] at hp
        exact ih j ((List.mem_cons.mp hj).elim (fun z => absurd z.symm hv) id) p hp
  refine List.ext_getElem? fun j => ?_
  rw [embE_get, embE_get]
  cases hj : (wipeP ρ vs)[j]? with
  | none => rfl
  | some o =>
    cases o with
    | none => rfl
    | some p =>
      have : j ∉ vs := fun z => none_at vs j z p hj
      rw [hk j this]
theorem s_fgR (vs : List Nat) (h : SOk K A U wr δL G t δ δ' f) (hk : ∀ j, j ∉ vs → δ2.getD j .s = δ'.getD j .s) : SOk K A U wr δL G t δ δ2 (xFg vs f) :=
  let q := s_fg vs h
  ⟨fun ρ ρ' e => by
    have := q.nx ρ ρ' e
    rcases xFg_eq e with ⟨ρ1, a, b⟩ | ⟨a, b⟩
    · cases b
      rw [embE_wipe vs ρ1 hk]
      exact this
    · exact absurd rfl (b _), q.rt, q.bk, q.ct, q.er⟩
theorem start_emb {n : Nat} {ps : List P} (hδ : ∀ j, j < ps.length → δ.getD j .s = .s) (k : Nat) : embE A δ (ps.map some ++ List.replicate k none) = (ps.map (emb A .s)).map some ++ List.replicate k none := by
  induction ps generalizing δ with
  | nil =>
    rw [List.map_nil, List.nil_append, List.map_nil, List.map_nil, List.nil_append]
    clear hδ
    induction k generalizing δ with
    | zero => rw [List.replicate_zero, embE]; rfl
    | succ k ih => rw [List.replicate_succ, embE, ih]; rfl
  | cons p ps ih =>
    rw [List.map_cons, List.cons_append, embE, ih (δ := δ.tail) fun j hj => by
      have := hδ (j + 1) (by rw [List.length_cons]; omega)
      cases δ <;> simpa using this]
    have := hδ 0 (by rw [List.length_cons]; omega)
    have e : δ.headD .s = .s := by cases δ <;> simpa using this
    rw [e]
    rfl
theorem start_env {N : List Str} {m : Nat} {ps : List P} (hN : N.length = m) (hδ : ∀ j, j < ps.length → δ.getD j .s = .s) : env0 N (ps.map (emb A .s)) = embE A δ (start0 m ps) := by
  unfold env0 start0
  rw [start_emb (n := m) hδ, hN, List.length_map]
theorem run_X {N : List Str} {n : Nat} (h : SOk K A U w δL (fun _ => True) t δ δ' f) (m : Nat) (hm : N.length = m) (hδ : ∀ j, j < n → δ.getD j .s = .s) : ∀ ds r, rX A (xDef m n f) w n ds r → ∃ o, FP.Run K U t (env0 N ds) o ∧ EndsX r o := by
  rintro ds r ⟨ps, hn, rfl, hr⟩
  rw [start_env hm (by rw [hn]; exact hδ)]
  have e : xDef m n f ps = fin (f (start0 m ps)) := if_pos hn
  rw [e] at hr
  split at hr
  · rename_i p hp
    subst hr
    rcases fin_ok hp with h1 | ⟨ρ, h1, rfl⟩
    · exact ⟨_, h.rt _ _ h1, .inl rfl⟩
    · refine ⟨_, h.nx _ _ h1, .inr ⟨?_, _, rfl⟩⟩
      rw [emb_sc]
  · rename_i c fe hp
    subst hr
    obtain ⟨ρ, h1⟩ := fin_erE hp
    obtain ⟨δe, _, h2⟩ := h.er _ _ _ _ h1
    exact ⟨_, h2, _, rfl⟩
  · exact hr.elim
theorem run_F {N : List Str} {n : Nat} (h : SOk K A U w δL (fun _ => True) t δ δ' f) (m : Nat) (hm : N.length = m) (hδ : ∀ j, j < n → δ.getD j .s = .s) : ∀ ds z, rF A (xDef m n f) w n ds z → ∃ o, FP.Run K U t (env0 N ds) o ∧ Ends' z o := by
  rintro ds z ⟨ps, p, hn, rfl, hr, rfl⟩
  rw [start_env hm (by rw [hn]; exact hδ)]
  have e : xDef m n f ps = fin (f (start0 m ps)) := if_pos hn
  rw [e] at hr
  rcases fin_ok hr with h1 | ⟨ρ, h1, rfl⟩
  · exact ⟨_, h.rt _ _ h1, rfl⟩
  · refine ⟨_, h.nx _ _ h1, ?_⟩
    rw [emb_sc]
    rfl
theorem run_I {N : List Str} {n c m : Nat} {ws : List W} {δs : Addr → List W} (h : ∀ a, SOk K A U .s δL (fun _ => True) t (δs a) (δs a) f) (hm : N.length = m) (h0 : ∀ a, (δs a).getD 0 .s = .me a ws) (hδ : ∀ a j, j + 1 < n → (δs a).getD (j + 1) .s = .s) :
    ∀ a ds r, rI A (xInit c m n f) ws n ds r → ∃ o, FP.Run K U t (envI N a (A c) ds) o ∧ EndsI a (A c) r o := by
  rintro a ds r ⟨ps, hn, rfl, hr⟩
  have e0 : envI N a (A c) (ps.map (emb A .s)) = embE A (δs a) (start0 m (.ins c [] [] :: ps)) := by
    unfold envI start0
    rw [List.map_cons, List.map_cons, List.cons_append, List.cons_append, embE]
    have e0 : (δs a).headD .s = .me a ws := by rw [← h0 a]; cases (δs a) <;> rfl
    rw [e0, Option.map_some, emb_ins, embs, start_emb (n := m) fun j hj => by
      have := hδ a j (by omega)
      cases hd : δs a with
      | nil => rfl
      | cons b l => rw [hd] at this; simpa using this]
    rw [hm, List.length_map, List.length_cons]
    rfl
  rw [e0]
  have e : xInit c m n f ps = fin0 c (f (start0 m (.ins c [] [] :: ps))) := if_pos hn
  rw [e] at hr
  split at hr
  · rename_i c' fs qs hp
    subst hr
    obtain ⟨ρ, fs', ps', h1, h2, h3⟩ := fin0_ok hp
    cases h3
    refine ⟨_, (h a).nx _ _ h1, _, rfl, ?_⟩
    have := embE_some (A := A) (δ := δs a) (getD_some h2)
    rw [h0, emb_ins, embs_me] at this
    exact this
  · rename_i c' fe hp
    subst hr
    obtain ⟨ρ, h1⟩ := fin0_er hp
    obtain ⟨δe, _, h2⟩ := (h a).er _ _ _ _ h1
    exact ⟨_, h2, _, rfl⟩
  · exact hr.elim
/-! a < b < c of scalars -/
def Op2Sc (K : PySem.W.Frag) (r : R2) (q : P → P → Option P) : Prop := ∀ a b k, q (.sc a) (.sc b) = some (.bl k) → ∀ H (Q : VK), Q (.bl k) H → r a b H Q
theorem sc_le : Op2Sc K rLee qLe := fun a b k e H Q q => by
  unfold qLe at e
  split at e <;> cases e
  · rename_i h1 h2
    cases h1; cases h2
    exact .inl ⟨_, _, rfl, rfl, q⟩
  · rename_i h1 h2
    cases h1; cases h2
    exact .inr ⟨_, _, rfl, rfl, q⟩
theorem sc_lt : Op2Sc K (rLtt K) qLt := fun a b k e H Q q => by
  unfold qLt at e
  split at e <;> cases e
  · rename_i h1 h2
    cases h1; cases h2
    exact .inl ⟨_, _, rfl, rfl, q⟩
  · rename_i h1 h2
    cases h1; cases h2
    exact .inr (.inl ⟨_, _, rfl, rfl, q⟩)
theorem sc_gt : Op2Sc K rGtt qGt := fun a b k e H Q q => by
  unfold qGt at e
  split at e <;> cases e
  rename_i h1 h2
  cases h1; cases h2
  exact .inl ⟨_, _, rfl, rfl, q⟩
theorem sc_ge : Op2Sc K rGee qGe := fun a b k e H Q q => by
  unfold qGe at e
  split at e <;> cases e
  rename_i h1 h2
  cases h1; cases h2
  exact .inl ⟨_, _, rfl, rfl, q⟩
theorem sc_eq : Op2Sc K (rEqq K) qEq := fun a b k e H Q q => by
  unfold qEq eqOk at e
  simp only at e
  by_cases h : scal a b = true
  · rw [if_pos h] at e
    cases e
    exact .inl ⟨h, q⟩
  · rw [if_neg h] at e; cases e
def xChn (q r : P → P → Option P) (f g h : X) : X := fun ρ => bnd (f ρ) fun x => match x with
  | .sc a => bnd (g ρ) fun y => match y with
    | .sc b => match q (.sc a) (.sc b) with
      | some (.sc (.bl true)) => match h ρ with
        | some (.ok (.sc c)) => match r (.sc b) (.sc c) with
          | some (.sc (.bl k)) => ret (.bl k)
          | _ => none
        | _ => none
      | some (.sc (.bl false)) => ret (.bl false)
      | _ => none
    | _ => none
  | _ => none
theorem x_chain {r1 r2 : R2} {q1 q2 : P → P → Option P} (h1 : Op2Sc K r1 q1) (h2 : Op2Sc K r2 q2) (ha : XOk K A U ta δ g .s) (hb : XOk K A U tb δ h .s) (hc : XOk K A U tc δ z .s) : XOk K A U (tChain r1 r2 ta tb tc) δ (xChn q1 q2 g h z) w := .mk (fun ρ p e => by
  obtain ⟨a, e1, e⟩ := bnd_eq_ok e
  split at e
  · rename_i a
    obtain ⟨b, e2, e⟩ := bnd_eq_ok e
    have pa := ha.ok ρ _ e1
    rw [emb_sc] at pa
    split at e
    · rename_i b
      have pb := hb.ok ρ _ e2
      rw [emb_sc] at pb
      split at e
      · rename_i hq
        split at e
        · rename_i c hz
          have pc := hc.ok ρ _ hz
          rw [emb_sc] at pc
          split at e
          · rename_i k hk
            cases e
            rw [emb_sc]
            exact ev_chain (a := true) pa pb (h1 _ _ _ hq) (fun _ => pc) (fun _ => h2 _ _ _ hk)
          · cases e
        · cases e
      · rename_i hq
        cases e
        rw [emb_sc]
        exact ev_chain (a := false) (b' := false) (z' := .non) pa pb (h1 _ _ _ hq) (fun z => nomatch z) (fun z => nomatch z)
      · cases e
    · cases e
  · cases e) (fun ρ c fe e => by
  rcases bnd_eq_er e with e1 | ⟨a, e1, e⟩
  · exact fun A0 H σ B w0 rr hW Q => ha.er ρ c fe e1 A0 H σ B w0 rr hW _
  · split at e
    · rcases bnd_eq_er e with e2 | ⟨b, e2, e⟩
      · intro A0 H σ B w0 rr hW Q
        refine ev_more (ta := ta) (ha.ok ρ _ e1) w0 rr fun v1 H1 C1 x1 f1 p1 w1 r1 => ?_
        exact hb.er ρ c fe e2 _ H1 σ B w1 r1 (hW_more x1 hW) _
      · repeat' (split at e <;> try cases e)
    · cases e)
/-! slices -/
def optI : Option X → PEnv → Option (Option Int)
  | none, _ => some none
  | some g, ρ => match g ρ with | some (.ok (.sc (.int i))) => some (some i) | _ => none
structure POk (K : PySem.W.Frag) (A : Nat → Addr) (to : TO) (δ : List W) (f : Option X) : Prop where
  ok : ∀ ρ l, optI f ρ = some l → EvO K to (embE A δ ρ) l
theorem p_none : POk K A (fun _ H Q => Q none H) δ none := ⟨fun ρ l e => by cases e; exact eo_none⟩
theorem p_some (hx : XOk K A U te δ x .s) : POk K A (tPart te) δ (some x) := ⟨fun ρ l e => by
  rw [show optI (some x) ρ = (match x ρ with | some (.ok (.sc (.int i))) => some (some i) | _ => none) from rfl] at e
  split at e
  · rename_i i hi
    cases e
    have := hx.ok ρ _ hi
    rw [emb_sc] at this
    exact eo_some this
  · cases e⟩
theorem sl_tp {ds : List D} {lo hi : Option Int} (h : ¬ (HT.sIx ds.length 0 lo = 0 ∧ HT.sIx ds.length ds.length hi = ds.length)) {o : Bool} : Op1 K (fun x H Q => rSl K x lo hi H Q) (.tup o ds) (.tup true (cutX ds lo hi)) := fun A H x B w p Q q => by
  obtain ⟨a, xs, B1, rfl, h1, r1, s1, _⟩ := p.tup
  obtain ⟨C, r2, s2⟩ := r1.cut lo hi
  refine .inr (.inl ⟨a, xs, rfl, h1, by rw [r1.len]; exact h, fun p hp => q _ _ _ (Ex.new hp) (fun c hc => ?_) (Rp.newT hp r2)⟩)
  exact (List.mem_cons.mp hc).imp (fun z => by rw [z]; exact hp) fun z => s1 c (s2 c z)
/-- slices of lists and texts; of tuples where something is cut off -/
def qSlc (lo hi : Option Int) : P → Option P
  | .lst ps => some (.lst (cutX ps lo hi))
  | .sc (.str a) => if a.length ≤ sizeLine then some (.str (cutS a lo hi)) else none
  | .tup ps => if ¬ (HT.sIx ps.length 0 lo = 0 ∧ HT.sIx ps.length ps.length hi = ps.length) then some (.tup (cutX ps lo hi)) else none
  | _ => none
def xSlc (x : X) (lo hi : Option X) : X := fun ρ => bnd (x ρ) fun p => match optI lo ρ with
  | none => none
  | some l => match optI hi ρ with
    | none => none
    | some h => (qSlc l h p).map .ok
theorem cutX_map {α β : Type} {f : α → β} {xs : List α} {lo hi : Option Int} : cutX (xs.map f) lo hi = (cutX xs lo hi).map f := by
  unfold cutX
  rw [List.length_map, List.map_take, List.map_drop]
theorem slc_ok {lo hi : Option Int} {p q : P} (hk : ∀ n, w1.kid n = w1.kid 0) (e : qSlc lo hi p = some q) : Op1 K (fun x H Q => rSl K x lo hi H Q) (emb A w1 p) (emb A (.o (w1.kid 0)) q) := by
  unfold qSlc at e
  split at e
  · cases e
    rw [emb_lst, emb_lst, embs_kid hk, embs_o, ← cutX_map]
    exact sl_lst
  · obtain ⟨hl, rfl⟩ := opt_ite e
    rw [emb_sc, emb_sc]
    exact sl_st hl
  · obtain ⟨hl, rfl⟩ := opt_ite e
    rw [emb_tup, emb_tup_o, embs_kid hk, ← cutX_map]
    exact sl_tp (by rw [List.length_map]; exact hl)
  · cases e
theorem x_slc {lo hi : Option X} {tl th : TO} (hk : ∀ n, w1.kid n = w1.kid 0) (hx : XOk K A U te δ x w1) (hl : POk K A tl δ lo) (hh : POk K A th δ hi) : XOk K A U (tSl (rSl K) te tl th) δ (xSlc x lo hi) (.o (w1.kid 0)) := .mk (fun ρ p e => by
  obtain ⟨q, e1, e⟩ := bnd_eq_ok e
  split at e
  · cases e
  · rename_i l hl'
    split at e
    · cases e
    · rename_i h' hh'
      have e := map_ok e
      exact ev_sl (hx.ok ρ q e1) (hl.ok ρ l hl') (hh.ok ρ h' hh') (slc_ok hk e)) (fun ρ c fe e => by
  rcases bnd_eq_er e with e1 | ⟨q, e1, e⟩
  · exact fun A0 H σ B w0 rr hW Q => hx.er ρ c fe e1 A0 H σ B w0 rr hW _
  · split at e
    · cases e
    · split at e
      · cases e
      · exact (map_er e).elim)
/-! texts -/
def qJoin : P → P → Option P
  | .sc (.str a), .lst ps => match strsP ps with
    | some ys => if (ys.map fun x => x.length).sum + ys.length * a.length ≤ 16777216 then some (.str (Txt.join a ys)) else none
    | none => none
  | _, _ => none
def qSplit : P → P → Option P
  | .sc (.str a), .sc (.str b) => if (b.length == 0) = false ∧ a.length + 2 ≤ sizeLine then some (.lst ((Txt.split a b).map P.str)) else none
  | _, _ => none
def xStr1 (q : P → P → Option P) (f g : X) : X := fun ρ => match f ρ with
  | some (.ok x) => match g ρ with
    | some (.ok y) => (q x y).map .ok
    | _ => none
  | _ => none
theorem x_join (ho : XOk K A U to δ x w1) (he : XOk K A U te δ y .s) :
    XOk K A U (tM1 (fun x xs H Q => ∃ a p, ∃ ys : List Str, x = .str a ∧ xs = [.ref p] ∧ (SqL K H p (ys.map V.str) ∨ SqT K H p (ys.map V.str)) ∧ (ys.map (·.length)).sum + ys.length * a.length ≤ 16777216 ∧ Q (.str (Txt.join a ys)) H) to te) δ (xStr1 qJoin x y) w := .mk (fun ρ p e => by
  unfold xStr1 at e
  split at e
  · rename_i u hu
    split at e
    · rename_i v hv
      have e := map_ok e
      unfold qJoin at e
      split at e
      · split at e
        · rename_i a ps ys hys
          obtain ⟨hl, rfl⟩ := opt_ite e
          have h1 := ho.ok ρ _ hu
          have h2 := he.ok ρ _ hv
          rw [emb_sc] at h1 ⊢
          rw [emb_lst, embs_s, strsP_eq hys, List.map_map] at h2
          have e3 : ys.map (emb A .s ∘ P.str) = ys.map D.str := List.map_congr_left fun s _ => emb_sc
          rw [e3] at h2
          exact ev_m1 h1 h2 (join_strs hl)
        · cases e
      · cases e
    · cases e
  · cases e) (fun ρ c fe e => by
  unfold xStr1 at e
  split at e
  · split at e
    · exact (map_er e).elim
    · cases e
  · cases e)
theorem x_split (ho : XOk K A U to δ x w1) (he : XOk K A U te δ y w2) :
    XOk K A U (tM1 (fun x xs H Q => ∃ a b, x = .str a ∧ xs = [.str b] ∧ (b.length == 0) = false ∧ a.length + 2 ≤ sizeLine ∧ rNewStrs (Txt.split a b) H Q) to te) δ (xStr1 qSplit x y) (.o w) := .mk (fun ρ p e => by
  unfold xStr1 at e
  split at e
  · rename_i u hu
    split at e
    · rename_i v hv
      have e := map_ok e
      unfold qSplit at e
      split at e
      · obtain ⟨hl, rfl⟩ := opt_ite e
        have h1 := ho.ok ρ _ hu
        have h2 := he.ok ρ _ hv
        rw [emb_sc] at h1 h2
        rw [emb_lst, embs_o, List.map_map]
        have e3 : ∀ ys : List Str, ys.map (emb A w ∘ P.str) = ys.map D.str := fun ys => List.map_congr_left fun s _ => emb_sc
        rw [e3]
        exact ev_m1 h1 h2 (split_str hl.1 hl.2)
      · cases e
    · cases e
  · cases e) (fun ρ c fe e => by
  unfold xStr1 at e
  split at e
  · split at e
    · exact (map_er e).elim
    · cases e
  · cases e)
/-! isinstance where an exception may be asked -/
structure IsyOk (K : PySem.W.Frag) (A : Nat → Addr) (tb : Nat → Nat → Option Bool) (tv : Nat → Option Bool) : Prop where
  cls : ∀ c d b, tb c d = some b → ExcC K (A c) ∧ PySem.W.kitOne K (.ref (A c)) (.ref (A d)) = some b
  val : ∀ c b, tv c = some b → ExcC K (A c) ∧ PySem.W.kitOne K (.ref (A c)) (.type "ValueError") = some b
def qIsy (tb : Nat → Nat → Option Bool) (tv : Nat → Option Bool) : List P → Option P
  | [.exc c _, y] => match y with
    | .cls d => (tb c d).map fun b => .bl b
    | .sc (.ty n) => if n = "ValueError" then (tv c).map fun b => .bl b else none
    | _ => none
  | xs => qIsi xs
theorem c_isy {tb : Nat → Nat → Option Bool} {tv : Nat → Option Bool} (hI : IsyOk K A tb tv) : OpCOk K A (rIsy K) (qIsy tb tv) w1 w := fun xs z e => by
  unfold qIsy at e
  split at e
  · rename_i c fs y
    split at e
    · rename_i d
      cases h : tb c d with
      | none => rw [h] at e; cases e
      | some b =>
        rw [h] at e
        cases e
        rw [embs2, emb_exc, emb_cls, emb_sc]
        exact isy_exc (hI.cls c d b h).1 (.own _) (hI.cls c d b h).2
    · rename_i n
      by_cases hn : n = "ValueError"
      · rw [if_pos hn] at e
        subst hn
        cases h : tv c with
        | none => rw [h] at e; cases e
        | some b =>
          rw [h] at e
          cases e
          rw [embs2, emb_exc, emb_sc, emb_sc]
          exact isy_exc (hI.val c b h).1 (.ty _) (hI.val c b h).2
      · rw [if_neg hn] at e; cases e
    · cases e
  · have := c_isi (K := K) (A := A) (w1 := w1) (w := w) xs z e
    unfold qIsi at e
    split at e
    · have hz : ∃ r, z = .bl r := by
        split at e
        · cases e
        · cases h : kitB (tyP _) _ with
          | none => rw [h] at e; cases e
          | some r => rw [h] at e; cases e; exact ⟨r, rfl⟩
      obtain ⟨r, rfl⟩ := hz
      rw [embs2] at this ⊢
      rw [emb_sc] at this ⊢
      exact isy_old this
    · cases e
end
/-! blocks of a try leave it by its end, a return or what is raised -/
def NoB (f : S) : Prop := ∀ ρ ρ', f ρ ≠ some (.bk ρ') ∧ f ρ ≠ some (.ct ρ')
theorem ans_nob {ρ : PEnv} {r : R} {k : P → Option PO} (hk : ∀ p ρ', k p ≠ some (.bk ρ') ∧ k p ≠ some (.ct ρ')) : ∀ ρ', ans ρ r k ≠ some (.bk ρ') ∧ ans ρ r k ≠ some (.ct ρ') := fun ρ' => by
  match r with
  | some (.ok p) => exact hk p ρ'
  | some (.er c fs) => exact ⟨(fun h => nomatch h), (fun h => nomatch h)⟩
  | none => exact ⟨(fun h => nomatch h), (fun h => nomatch h)⟩
theorem nob_set {i : Nat} {x : X} : NoB (xSet i x) := fun ρ ρ' => ans_nob (fun p ρ'' => ⟨(by intro h; cases h), (by intro h; cases h)⟩) ρ'
theorem nob_do {x : X} : NoB (xDo x) := fun ρ ρ' => ans_nob (fun p ρ'' => ⟨(by intro h; cases h), (by intro h; cases h)⟩) ρ'
theorem nob_ret {x : X} : NoB (xRet x) := fun ρ ρ' => ans_nob (fun p ρ'' => ⟨(by intro h; cases h), (by intro h; cases h)⟩) ρ'
theorem nob_seq {f g : S} (hf : NoB f) (hg : NoB g) : NoB (xSeq f g) := fun ρ ρ' => by
  have key : ∀ o : PO, (∀ ρ1, f ρ ≠ some o) → (∀ ρ1, g ρ1 ≠ some o) → (∀ ρ1, o ≠ .nx ρ1) → xSeq f g ρ ≠ some o := fun o h1 h2 h3 e => by
    rcases thn_eq e with ⟨ρ1, a, b⟩ | ⟨a, _⟩
    · exact h2 ρ1 b
    · exact h1 ρ a
  exact ⟨key _ (fun _ => (hf ρ ρ').1) (fun ρ1 => (hg ρ1 ρ').1) (fun _ h => nomatch h), key _ (fun _ => (hf ρ ρ').2) (fun ρ1 => (hg ρ1 ρ').2) (fun _ h => nomatch h)⟩
theorem s_tryN {K : PySem.W.Frag} {A : Nat → Addr} {U : WX} {δ δL : List W} {G : List W → Prop} {f : S} {wr : W} {i j : Nat} {sub : Nat → Bool} {cV : Value} {tw : WX → TS} (hs : ∀ c, sub c = true → PySem.W.exmOne K (.ref (A c)) cV = some true) (hj : δ.getD j .s = .s) (h : ∀ U', SOk K A U' wr δL (fun δe => δe = δ) (tw U') δ δ f)
    (hb : NoB f) : SOk K A U wr δL G (tKeep K cV i j tw) δ δ (xTry sub i j f) := s_try hs hj h (fun ρ ρ' => (hb ρ ρ').1) (fun ρ ρ' => (hb ρ ρ').2)
section
variable {X : Cx} {K : PySem.W.Frag} {o e : Expr} {es : List Expr} {to : TE} {t : TA} {name : Str} {apos cpos : Pos} {T id : String} {r : V → List V → Hp → VK → Prop}
theorem pe_bm0N (eK : X.K = K) (pa : PlainAttrs T) (slot : Slot T name id) (hty : typeOf (.builtin id) = pure (.type "method_descriptor")) (hm : MtR X id r) (ho : PE X o to)
    (hbase : attributeBase o name X.env (eval o X.env) = eval o X.env := by rfl) (hline : (apos.endLine == cpos.line) = true := by rfl) : PE X (.Call (.Attribute o name apos) [] [] cpos) (tBM0 K T r to) := eK ▸ pe_bm0 pa slot hty hm ho hbase hline
end
/-! the exceptions with fields -/
theorem log_sm {n : Int} (h : 0 ≤ n) (h1 : n < 1000000000) : n.natAbs.log2 < 1920 := by
  by_cases hz : n.natAbs = 0
  · rw [hz]; decide
  · exact (Nat.log2_lt hz).mpr (Nat.lt_of_lt_of_le (show n.natAbs < 2 ^ 31 by omega) (Nat.pow_le_pow_right (by decide) (show 31 ≤ 1920 by decide)))
theorem txt_len {n : Int} (h : 0 ≤ n) (h1 : n < 1000000000) : (Str.ofString (toString n)).length ≤ 10 := PySem.W.KT.len_num h (by omega)
theorem str_app_len (a b : Str) : (a ++ b).length = a.length + b.length := by
  show (a.cps ++ b.cps).size = a.cps.size + b.cps.size
  rw [Array.size_append]
abbrev fsAt (i : Int) : List (Str × V) := [(("at" : Str), V.int i)]
def R_BadScheme : List V → List (Str × V) → Prop := fun ws fs => ∃ i : Int, ws = [.int i] ∧ 0 ≤ i ∧ i < 1000000000 ∧ fs = fsAt i
def mk_BadScheme : List V → Option (List (Str × V))
  | [.int i] => if 0 ≤ i ∧ i < 1000000000 then some (fsAt i) else none
  | _ => none
theorem mkR_BadScheme : ∀ ws fs, mk_BadScheme ws = some fs → R_BadScheme ws fs := fun ws fs e => by
  unfold mk_BadScheme at e
  split at e
  · obtain ⟨h, rfl⟩ := opt_ite e
    exact ⟨_, rfl, h.1, h.2, rfl⟩
  · cases e
theorem len_BadScheme {C : Addr} : ∀ vs H Q E, spE C R_BadScheme vs H Q E → vs.length = 2 := by
  rintro vs H Q E ⟨_, _, _, rfl, _, ⟨i, rfl, _⟩, _⟩
  rfl
abbrev fsRow (i j : Int) : List (Str × V) := [(("word" : Str), V.int j), (("row" : Str), V.int i)]
def R_BadRow : List V → List (Str × V) → Prop := fun ws fs => ∃ i j : Int, ws = [.int i, .int j] ∧ 0 ≤ i ∧ i < 1000000000 ∧ 0 ≤ j ∧ j < 1000000000 ∧ fs = fsRow i j
def mk_BadRow : List V → Option (List (Str × V))
  | [.int i, .int j] => if 0 ≤ i ∧ i < 1000000000 ∧ 0 ≤ j ∧ j < 1000000000 then some (fsRow i j) else none
  | _ => none
theorem mkR_BadRow : ∀ ws fs, mk_BadRow ws = some fs → R_BadRow ws fs := fun ws fs e => by
  unfold mk_BadRow at e
  split at e
  · obtain ⟨h, rfl⟩ := opt_ite e
    exact ⟨_, _, rfl, h.1, h.2.1, h.2.2.1, h.2.2.2, rfl⟩
  · cases e
theorem len_BadRow {C : Addr} : ∀ vs H Q E, spE C R_BadRow vs H Q E → vs.length = 3 := by
  rintro vs H Q E ⟨_, _, _, rfl, _, ⟨i, j, rfl, _⟩, _⟩
  rfl
end FP

namespace FP
open PySem PySem.Spec PyProof.Rows L2

/-! ### lists that are handed on and changed later: what comes back holds none of them -/
mutual
/-- what is owned are lists alone -/
def lO : D → Bool
  | .sc _ => true
  | .lst o ds => !o || lOs ds
  | .tup o _ => !o
  | .ins o _ _ _ => o.isSh
  | .dK o _ _ => !o
  | .dT o _ _ => !o
  | .exc _ _ => true
def lOs : List D → Bool
  | [] => true
  | d :: ds => lO d && lOs ds
end
mutual
/-- what is shared are no lists -/
def nL : D → Bool
  | .sc _ => true
  | .lst o ds => o && nLs ds
  | .tup _ ds => nLs ds
  | .ins _ _ _ ds => nLs ds
  | .dK _ _ ds => nLs ds
  | .dT _ _ ds => nLs ds
  | .exc _ _ => true
def nLs : List D → Bool
  | [] => true
  | d :: ds => nL d && nLs ds
end
section
variable {K : PySem.W.Frag} {A A1 A2 : Own} {H : Hp}
mutual
theorem Rp.lists : ∀ (d : D) {v : V} {B : List Addr}, Rp K A H v d B → lO d = true → ∀ a ∈ B, ∃ xs, H a = some (.lst xs)
  | .sc x, _, _, .sc _, _ => fun _ h => nomatch h
  | .lst _ ds, _, _, .lstS h r, _ => fun _ h => nomatch h
  | .lst _ ds, _, _, .lstO h a n r, e => fun b hb => (List.mem_cons.mp hb).elim (fun z => z ▸ ⟨_, h⟩) (RpAll.lists ds r (by rw [lO] at e; simpa using e) b)
  | .tup _ ds, _, _, .tupS h r, _ => fun _ h => nomatch h
  | .tup _ ds, _, _, .tupO h a n r, e => by rw [lO] at e; simp at e
  | .ins _ _ _ ds, _, _, .insS h l r, _ => fun _ h => nomatch h
  | .ins _ _ _ ds, _, _, .insO h a n l r, e => by rw [lO] at e; simp [Fl.isSh] at e
  | .ins _ _ _ ds, _, _, .insA h a n l r, e => by rw [lO] at e; simp [Fl.isSh] at e
  | .dK _ _ ds, _, _, .dKS h l r, _ => fun _ h => nomatch h
  | .dK _ _ ds, _, _, .dKO h a n l r, e => by rw [lO] at e; simp at e
  | .dT _ _ ds, _, _, .dTS h l r, _ => fun _ h => nomatch h
  | .dT _ _ ds, _, _, .dTO h a n l r, e => by rw [lO] at e; simp at e
  | .exc _ _, _, _, .exc0 h, _ => fun _ h => nomatch h
  | .exc _ _, _, _, .exc1 h g, _ => fun _ h => nomatch h
theorem RpAll.lists : ∀ (ds : List D) {vs : List V} {B : List Addr}, RpAll K A H vs ds B → lOs ds = true → ∀ a ∈ B, ∃ xs, H a = some (.lst xs)
  | [], _, _, .nil, _ => fun _ h => nomatch h
  | d :: ds, _, _, .cons r t n, e => fun b hb => by
    rw [lOs, Bool.and_eq_true] at e
    exact (List.mem_append.mp hb).elim (Rp.lists d r e.1 b) (RpAll.lists ds t e.2 b)
end
theorem Sh.regain {a : Addr} {u : HO} (h : Sh A1 H a u) (hu : ∀ xs, u ≠ .lst xs) (k : ∀ b, A2 b → A1 b ∨ ∃ xs, H b = some (.lst xs)) : Sh A2 H a u := by
  refine ⟨h.1, fun z => ?_⟩
  rcases k a z with z | ⟨xs, z⟩
  · exact h.2 z
  · rcases h.1 with g | ⟨o, g⟩
    · rw [g] at z
      exact hu xs (Option.some.inj z)
    · rw [g] at z
      cases z
theorem Sh1.regain {a : Addr} {u : HO} (h : Sh1 A1 H a u) (hu : ∀ xs, u ≠ .lst xs) (k : ∀ b, A2 b → A1 b ∨ ∃ xs, H b = some (.lst xs)) : Sh1 A2 H a u := by
  refine ⟨h.1, fun z => ?_⟩
  rcases k a z with z | ⟨xs, z⟩
  · exact h.2 z
  · rw [h.1] at z
    exact hu xs (Option.some.inj z)
mutual
theorem Rp.regain : ∀ (d : D) {v : V} {B : List Addr}, Rp K A1 H v d B → nL d = true → (∀ b, A2 b → A1 b ∨ ∃ xs, H b = some (.lst xs)) → (∀ b ∈ B, A2 b) → Rp K A2 H v d B
  | .sc x, _, _, .sc _, _, _, _ => .sc x
  | .lst _ ds, _, _, .lstS h r, e, _, _ => by rw [nL] at e; simp at e
  | .lst _ ds, _, _, .lstO h a n r, e, k, s => .lstO h (s _ List.mem_cons_self) n (RpAll.regain ds r (by rw [nL] at e; simpa using e) k fun b hb => s b (List.mem_cons_of_mem _ hb))
  | .tup _ ds, _, _, .tupS h r, e, k, s => .tupS (h.imp (fun h => h.regain (fun _ z => nomatch z) k) id) (RpAll.regain ds r (by rw [nL] at e; exact e) k fun _ h => nomatch h)
  | .tup _ ds, _, _, .tupO h a n r, e, k, s => .tupO h (s _ List.mem_cons_self) n (RpAll.regain ds r (by rw [nL] at e; exact e) k fun b hb => s b (List.mem_cons_of_mem _ hb))
  | .ins _ _ _ ds, _, _, .insS h l r, e, k, s => .insS (h.regain (fun _ z => nomatch z) k) l (RpAll.regain ds r (by rw [nL] at e; exact e) k fun _ h => nomatch h)
  | .ins _ _ _ ds, _, _, .insO h a n l r, e, k, s => .insO h (s _ List.mem_cons_self) n l (RpAll.regain ds r (by rw [nL] at e; exact e) k fun b hb => s b (List.mem_cons_of_mem _ hb))
  | .ins _ _ _ ds, _, _, .insA h a n l r, e, k, s => .insA h (s _ List.mem_cons_self) n l (RpAll.regain ds r (by rw [nL] at e; exact e) k fun b hb => s b (List.mem_cons_of_mem _ hb))
  | .dK _ _ ds, _, _, .dKS h l r, e, k, s => .dKS (h.regain (fun _ z => nomatch z) k) l (RpAll.regain ds r (by rw [nL] at e; exact e) k fun _ h => nomatch h)
  | .dK _ _ ds, _, _, .dKO h a n l r, e, k, s => .dKO h (s _ List.mem_cons_self) n l (RpAll.regain ds r (by rw [nL] at e; exact e) k fun b hb => s b (List.mem_cons_of_mem _ hb))
  | .dT _ _ ds, _, _, .dTS h l r, e, k, s => .dTS (h.regain (fun _ z => nomatch z) k) l (RpAll.regain ds r (by rw [nL] at e; exact e) k fun _ h => nomatch h)
  | .dT _ _ ds, _, _, .dTO h a n l r, e, k, s => .dTO h (s _ List.mem_cons_self) n l (RpAll.regain ds r (by rw [nL] at e; exact e) k fun b hb => s b (List.mem_cons_of_mem _ hb))
  | .exc _ _, _, _, .exc0 h, _, k, _ => .exc0 (h.regain (fun _ z => nomatch z) k)
  | .exc _ _, _, _, .exc1 h g, _, k, _ => .exc1 (h.regain (fun _ z => nomatch z) k) (g.regain (fun _ z => nomatch z) k)
theorem RpAll.regain : ∀ (ds : List D) {vs : List V} {B : List Addr}, RpAll K A1 H vs ds B → nLs ds = true → (∀ b, A2 b → A1 b ∨ ∃ xs, H b = some (.lst xs)) → (∀ b ∈ B, A2 b) → RpAll K A2 H vs ds B
  | [], _, _, .nil, _, _, _ => .nil
  | d :: ds, _, _, .cons r t n, e, k, s => by
    rw [nLs, Bool.and_eq_true] at e
    exact .cons (Rp.regain d r e.1 k fun b hb => s b (List.mem_append_left _ hb)) (RpAll.regain ds t e.2 k fun b hb => s b (List.mem_append_right _ hb)) n
end
/-- a name's value is given up for a while: what of B it owned -/
theorem EnvR.frzAt2 {σ : L2.St} {ρ : Env} {B : List Addr} (r : EnvR K A H σ ρ B) : ∀ {i : Nat} {d : D}, ρ[i]? = some (some d) → lO d = true → ∃ B', (∀ a ∈ B', a ∈ B) ∧ (∀ a ∈ B, a ∉ B' → ∃ xs, H a = some (.lst xs)) ∧ ∀ A' : Own, (∀ a, A' a → A a) → (∀ a ∈ B', A' a) → (∀ a ∈ B, a ∉ B' → ¬ A' a) →
    EnvR K A' H σ (ρ.set i (some d.frz)) B' := by
  induction r with
  | nil => intro i d h; simp at h
  | any r ih =>
    intro i d h hl
    cases i with
    | zero => simp at h
    | succ i =>
      obtain ⟨B', s, l, k⟩ := ih (i := i) (by simpa using h) hl
      exact ⟨B', s, l, fun A' h1 h2 h3 => .any (k A' h1 h2 h3)⟩
  | @val v d0 σ ρ B1 B2 r1 r2 n ih =>
    intro i d h hl
    cases i with
    | zero =>
      have e : d0 = d := by simpa using h
      subst e
      refine ⟨B2, fun a h => List.mem_append_right _ h, fun a h m => (List.mem_append.mp h).elim (r1.lists _ hl a) fun z => absurd z m, fun A' h1 h2 h3 => .val (B := []) ?_ (r2.keep (keep_less h1 h2)) (fun _ h => nomatch h)⟩
      refine r1.loose _ ⟨fun a o e n => ⟨e, fun z => n (h1 a z)⟩, fun a o hb e => ⟨e, h3 a (List.mem_append_left _ hb) (n a hb)⟩⟩
    | succ i =>
      obtain ⟨B', s, l, k⟩ := ih (i := i) (by simpa using h) hl
      refine ⟨B1 ++ B', fun a h => (List.mem_append.mp h).elim (List.mem_append_left _) fun h => List.mem_append_right _ (s a h), fun a h m => (List.mem_append.mp h).elim (fun z => absurd (List.mem_append_left _ z) m) fun z => l a z fun y => m (List.mem_append_right _ y), fun A' h1 h2 h3 => .val (r1.keep _ (keep_less h1 fun a h => h2 a (List.mem_append_left _ h))) (k A' h1 (fun a h => h2 a (List.mem_append_right _ h)) fun a h m => h3 a (List.mem_append_right _ h) fun z => ?_) fun a h z => n a h (s a z)⟩
      rcases List.mem_append.mp z with z | z
      · exact n a z h
      · exact m z
end
section
variable {K : PySem.W.Frag} {A : Nat → Addr} {U : WX} {te : TE} {δ : List W} {x : X} {w : W} {i : Nat}
mutual
def lOP : W → P → Bool
  | _, .sc _ => true
  | _, .cls _ => true
  | w, .lst ps => !w.own || lOPs w 0 ps
  | w, .tup _ => !w.own
  | w, .ins _ _ _ => w.fl.isSh
  | w, .dK _ _ => !w.own
  | w, .dT _ _ => !w.own
  | _, .exc _ _ => true
def lOPs : W → Nat → List P → Bool
  | _, _, [] => true
  | w, i, p :: ps => lOP (w.kid i) p && lOPs w (i + 1) ps
end
mutual
def nLP : W → P → Bool
  | _, .sc _ => true
  | _, .cls _ => true
  | w, .lst ps => w.own && nLPs w 0 ps
  | w, .tup ps => nLPs w 0 ps
  | w, .ins _ _ ps => nLPs w 0 ps
  | w, .dK _ ps => nLPs w 0 ps
  | w, .dT _ ps => nLPs w 0 ps
  | _, .exc _ _ => true
def nLPs : W → Nat → List P → Bool
  | _, _, [] => true
  | w, i, p :: ps => nLP (w.kid i) p && nLPs w (i + 1) ps
end
mutual
theorem lO_emb : ∀ (w : W) (p : P), lO (emb A w p) = lOP w p
  | _, .sc x => by rw [emb, lO, lOP]
  | _, .cls x => by rw [emb, lO, lOP]
  | w, .lst ps => by rw [emb, lO, lOP, lO_embs]
  | w, .tup ps => by rw [emb, lO, lOP]
  | w, .ins c fs ps => by rw [emb, lO, lOP]
  | w, .dK ks ps => by rw [emb, lO, lOP]
  | w, .dT ks ps => by rw [emb, lO, lOP]
  | _, .exc c fs => by rw [emb, lO, lOP]
theorem lO_embs : ∀ (w : W) (i : Nat) (ps : List P), lOs (embs A w i ps) = lOPs w i ps
  | _, _, [] => by rw [embs, lOs, lOPs]
  | w, i, p :: ps => by rw [embs, lOs, lOPs, lO_emb, lO_embs]
end
mutual
theorem nL_emb : ∀ (w : W) (p : P), nL (emb A w p) = nLP w p
  | _, .sc x => by rw [emb, nL, nLP]
  | _, .cls x => by rw [emb, nL, nLP]
  | w, .lst ps => by rw [emb, nL, nLP, nL_embs]
  | w, .tup ps => by rw [emb, nL, nLP, nL_embs]
  | w, .ins c fs ps => by rw [emb, nL, nLP, nL_embs]
  | w, .dK ks ps => by rw [emb, nL, nLP, nL_embs]
  | w, .dT ks ps => by rw [emb, nL, nLP, nL_embs]
  | _, .exc c fs => by rw [emb, nL, nLP]
theorem nL_embs : ∀ (w : W) (i : Nat) (ps : List P), nLs (embs A w i ps) = nLPs w i ps
  | _, _, [] => by rw [embs, nLs, nLPs]
  | w, i, p :: ps => by rw [embs, nLs, nLPs, nL_emb, nL_embs]
end
/-- reckoned with what i owns given up for a while; wi its shape, w that of what comes -/
def xKeep (wi w : W) (i : Nat) (f : X) : X := fun ρ => match ρ.getD i none with
  | some v => if lOP wi v = true then match f ρ with
      | some (.ok p) => if nLP w p = true then ret p else none
      | o => o
    else none
  | none => f ρ
theorem x_keep {wi : W} (hi : δ.getD i .s = wi) (h : XOk K A U te (δ.set i .s) x w) : XOk K A U te δ (xKeep wi w i x) w := by
  have key : ∀ ρ, (∃ v, ρ[i]? = some (some v) ∧ lOP wi v = true) → ∀ (A0 : Own) (H : Hp) (σ : L2.St) (B : List Addr), WA A0 H → EnvR K A0 H σ (embE A δ ρ) B → ∃ (A1 : Own) (B' : List Addr), WA A1 H ∧ EnvR K A1 H σ (embE A (δ.set i .s) ρ) B' ∧ (∀ a, A0 a → A1 a ∨ ∃ xs, H a = some (.lst xs)) ∧ ∀ a, A1 a → A0 a := by
    rintro ρ ⟨v, hv, hl⟩ A0 H σ B w0 rr
    have h1 := embE_some (A := A) (δ := δ) hv
    rw [hi] at h1
    obtain ⟨B', s, l, k⟩ := rr.frzAt2 h1 (by rw [lO_emb]; exact hl)
    refine ⟨fun a => A0 a ∧ ¬ (a ∈ B ∧ a ∉ B'), B', fun a h => w0 a h.1, ?_, fun a h => ?_, fun a h => h.1⟩
    · have := k (fun a => A0 a ∧ ¬ (a ∈ B ∧ a ∉ B')) (fun a h => h.1) (fun a h => ⟨(rr.tracked a (s a h)).2, fun z => z.2 h⟩) (fun a h m z => z.2 ⟨h, m⟩)
      rw [emb_frz, ← embE_set δ (δ.set i .s) ρ i .s v ?_ fun _ hj => getD_set_ne hj] at this
      · have e : ρ.set i (some v) = ρ := by
          refine List.ext_getElem? fun j => ?_
          by_cases hj : i = j
          · subst hj
            rw [List.getElem?_set_self (List.getElem?_eq_some_iff.mp hv).1, hv]
          · rw [List.getElem?_set_ne hj]
        rw [e] at this
        exact this
      · by_cases hlen : i < δ.length
        · exact getD_set hlen
        · rw [List.set_eq_of_length_le (by omega), List.getD_eq_getElem?_getD, List.getElem?_eq_none (by omega)]
          rfl
    · by_cases hb : a ∈ B ∧ a ∉ B'
      · exact .inr (l a hb.1 hb.2)
      · exact .inl ⟨h, hb⟩
  have same : ∀ ρ, ρ.getD i none = none → embE A (δ.set i .s) ρ = embE A δ ρ := fun ρ hn => by
    refine List.ext_getElem? fun j => ?_
    rw [embE_get, embE_get]
    by_cases hj : j = i
    · subst hj
      rw [List.getD_eq_getElem?_getD] at hn
      cases hq : ρ[j]? with
      | none => rfl
      | some o => rw [hq] at hn; cases hn; rfl
    · rw [getD_set_ne hj]
  refine .mk (fun ρ p e => ?_) (fun ρ c fe e => ?_)
  · unfold xKeep at e
    split at e
    · rename_i v hv
      split at e
      · rename_i hl
        split at e
        · rename_i q hq
          obtain ⟨hn, e⟩ := opt_ite e
          cases e
          intro A0 H σ B w0 rr Q qq
          obtain ⟨A1, B', w1, r1, g1, g2⟩ := key ρ ⟨v, getD_some hv, hl⟩ A0 H σ B w0 rr
          refine h.ok ρ p hq A1 H σ B' w1 r1 Q fun u H1 C e1 f1 p1 => ?_
          refine qq u H1 C e1 f1 (Rp.regain _ p1 (by rw [nL_emb]; exact hn) (fun b hb => ?_) fun b hb => .inr hb)
          rcases hb with hb | hb
          · rcases g1 b hb with z | ⟨ys, z⟩
            · exact .inl (.inl z)
            · exact .inr ⟨ys, e1 _ _ z⟩
          · exact .inl (.inr hb)
        · rename_i ho
          exact absurd e (ho p)
      · cases e
    · rename_i hn
      rw [← same ρ hn]
      exact h.ok ρ p e
  · unfold xKeep at e
    split at e
    · rename_i v hv
      split at e
      · rename_i hl
        split at e
        · split at e <;> cases e
        · intro A0 H σ B w0 rr hW Q
          obtain ⟨A1, B', w1, r1, g1, g2⟩ := key ρ ⟨v, getD_some hv, hl⟩ A0 H σ B w0 rr
          refine h.er ρ c fe e A1 H σ B' w1 r1 (fun d H' e1 xd => hW d H' e1 ?_) Q
          rcases xd with xd | ⟨dd, x1, x2⟩
          · exact .inl xd
          · refine .inr ⟨dd, x1, x2.1, fun z => ?_⟩
            rcases g1 dd z with y | ⟨ys, y⟩
            · exact x2.2 y
            · have := e1 _ _ y
              rw [x2.1] at this
              cases this
      · cases e
    · rename_i hn
      rw [← same ρ hn]
      exact h.er ρ c fe e
end
end FP

namespace L2
open PySem PySem.Spec PyProof.Rows
namespace HTR
open HT
variable {prog : Program} {w : World} {A : Around} {E : Value → Shared → Prop} {s : Shared}
theorem adjust_rev (n : Nat) : Builtin.Slice.sliceAdjust none none (-1) (n : Int) = ((n : Int) - 1, -1) := by
  unfold Builtin.Slice.sliceAdjust
  simp
theorem places_rev (n : Nat) : Builtin.Slice.slicePlaces ((n : Int) - 1) (-1) (-1) = n := by
  unfold Builtin.Slice.slicePlaces
  simp
  try omega
theorem filterMap_all {α β : Type} {f : α → Option β} {g : α → β} : ∀ l : List α, (∀ k ∈ l, f k = some (g k)) → l.filterMap f = l.map g
  | [], _ => rfl
  | k :: l, h => by
    rw [List.filterMap_cons, h k List.mem_cons_self, List.map_cons, filterMap_all l fun x hx => h x (List.mem_cons_of_mem _ hx)]
theorem pick_rev (xs : Array Value) : ((List.range xs.size).filterMap fun (k : Nat) => xs[(((xs.size : Nat) : Int) - 1 + (k : Int) * (-1)).toNat]?).toArray = xs.toList.reverse.toArray := by
  congr 1
  apply List.ext_getElem?
  intro j
  have h : ((List.range xs.size).filterMap fun (k : Nat) => xs[(((xs.size : Nat) : Int) - 1 + (k : Int) * (-1)).toNat]?) = (List.range xs.size).map fun k => xs.toList.getD (xs.size - 1 - k) .none := by
    refine filterMap_all _ fun k hk => ?_
    have hk := List.mem_range.mp hk
    have e : (((xs.size : Nat) : Int) - 1 + (k : Int) * (-1)).toNat = xs.size - 1 - k := by omega
    rw [e, ← Array.getElem?_toList, List.getD_eq_getElem?_getD]
    have : xs.size - 1 - k < xs.toList.length := by rw [Array.length_toList]; omega
    rw [List.getElem?_eq_getElem this]
    rfl
  rw [h, List.getElem?_map]
  by_cases hj : j < xs.size
  · rw [List.getElem?_range hj, List.getElem?_reverse (by rw [Array.length_toList]; exact hj), Array.length_toList, Option.map_some, List.getD_eq_getElem?_getD]
    have : xs.size - 1 - j < xs.toList.length := by rw [Array.length_toList]; omega
    rw [List.getElem?_eq_getElem this]
    rfl
  · rw [List.getElem?_eq_none (by rw [List.length_range]; omega), List.getElem?_eq_none (by rw [List.length_reverse, Array.length_toList]; omega)]
    rfl
theorem sliceApplied_rev {sl : Addr} {vl vu vs : Value} {n : Nat} {Q : Int × Int × Nat → Shared → Prop} (hs : s.heap.IsSliceOf sl vl vu vs) (pl : IsPart vl none) (pu : IsPart vu none) (ps : IsPart vs (some (-1)))
    (h : Q ((n : Int) - 1, -1, n) s) : wpAny (model prog w) A (Builtin.Slice.sliceApplied (.ref sl) (pure (n : Int))) Q E s := by
  obtain ⟨os, hos, hcs, hds⟩ := id hs
  unfold Builtin.Slice.sliceApplied Builtin.Slice.sliceFields
  refine wpAny_bind (wpAny_bind (wpAny_field hos hds (x := vl) rfl (wpAny_bind (wpAny_field hos hds (x := vu) rfl (wpAny_bind (wpAny_field hos hds (x := vs) rfl (wpAny_pure ?_)))))))
  refine wpAny_bind (slicePart_ ps ?_)
  show wpAny _ _ (if ((-1 : Int) == 0) = true then _ else _) _ _ s
  rw [if_neg (by decide)]
  refine wpAny_bind (slicePart_ pl (wpAny_bind (slicePart_ pu (wpAny_bind (wpAny_pure ?_)))))
  show wpAny _ _ (match Builtin.Slice.sliceAdjust none none (-1) (n : Int) with | (lo, hi) => pure (lo, (-1 : Int), Builtin.Slice.slicePlaces lo hi (-1))) _ _ s
  rw [adjust_rev n]
  show wpAny _ _ (pure ((n : Int) - 1, (-1 : Int), Builtin.Slice.slicePlaces ((n : Int) - 1) (-1) (-1))) _ _ s
  rw [places_rev]
  exact wpAny_pure h
theorem getItem_tuple_rev {t sl : Addr} {items : Array Value} {vl vu vs : Value} {Q : Value → Shared → Prop} (ht : IsTup s.heap t items) (hs : s.heap.IsSliceOf sl vl vu vs) (pl : IsPart vl none) (pu : IsPart vu none) (ps : IsPart vs (some (-1)))
    (h : Q (.ref s.heap.objs.size) { s with heap := s.heap.push { cls := .type "tuple", data := .seq items.toList.reverse.toArray } })
    (hsz : items.size ≤ sizeLine) : wpAny (model prog w) A (getItem (.ref t) (.ref sl)) Q E s := by
  have htake : sizeOk (.seq items.toList.reverse.toArray) := by
    show items.toList.reverse.toArray.size ≤ sizeLine
    rw [List.size_toArray, List.length_reverse, Array.length_toList]
    exact hsz
  obtain ⟨os, hos, hcs, hds⟩ := id hs
  have hTs : s.TypeIs (.ref sl) "slice" := ⟨os, hos, hcs⟩
  unfold getItem
  try with_reducible refine wpAny_holding ?_
  first | refine wpAny_bind (wpAny_pure ?_) | skip
  refine wpAny_bind (wpAny_sequenceKey ht.typeIs (by decide) ?_)
  refine wpAny_bind (wpAny_callSpecial?_slot (name := Str.ofString "__getitem__") ht.typeIs PyProof.Rows.slot_tuple_getitem
    (wpAny_call_entry PyProof.Rows.slot_tuple_getitem ht.typeIs entry_tuple_getitem ?_ (args_tuple_getitem _ _)))
  show wpAny _ _ (Builtin.Tuple.tupleItemsOf (.ref t) >>= _) _ _ s
  refine wpAny_bind (tupleItemsOf_ ht ?_)
  refine wpAny_bind (wpAny_typeOf hTs ?_)
  rw [if_pos (by decide)]
  refine wpAny_bind (sliceApplied_rev hs pl pu ps ?_)
  show wpAny _ _ (if (((items.size : Nat) : Int) - 1 == 0 && (-1 : Int) == 1 && items.size == items.size) = true then _ else _) _ _ s
  rw [if_neg (by simp), pick_rev]
  first
    | exact wpAny_bind (m := Builtin.Tuple.tupleExact _) (wpAny_newObj_type (wpAny_pure ⟨_, rfl, wpAny_pure h⟩) htake)
    | exact wpAny_bind (m := Builtin.Tuple.tupleExact _) (wpAny_newObj_type (wpAny_bind (wpAny_pure (wpAny_pure ⟨_, rfl, wpAny_pure h⟩))) htake)
    | exact wpAny_bind (wpAny_bind (m := Builtin.Tuple.tupleExact _) (wpAny_newObj_type (wpAny_pure (wpAny_pure ⟨_, rfl, wpAny_pure h⟩)) htake))
    | exact wpAny_bind (wpAny_bind (m := Builtin.Tuple.tupleExact _) (wpAny_newObj_type (wpAny_pure ⟨_, rfl, wpAny_pure h⟩) htake))
end HTR
section
variable {X : Cx}
/-- x[::-1] of a list, a tuple -/
def tRevA (K : PySem.W.Frag) (te : TE) : TE := fun σ H Q => te σ H fun x H1 => ∃ a xs, x = .ref a ∧ ((SqL K H1 a xs ∧ ∀ p, H1 p = none → Q (.ref p) (upd H1 p (.lst xs.reverse))) ∨ (SqT K H1 a xs ∧ ∀ p, H1 p = none → Q (.ref p) (upd H1 p (.tup xs.reverse))))
theorem pe_revA {e : Expr} {te : TE} {k : Nat} {p1 p2 p3 pos : Pos} (he : PE X e te) : PE X (.Subscript e (.Slice none none (some (.UnaryOp .USub (.Constant (.int 1) k p1) p2)) p3) pos) (tRevA X.K te) := by
  refine ⟨fun pins s σ H Q I h => ?_⟩
  refine Subscript_ (thn (he.run pins s σ H _ I h) fun v s1 ⟨x, H1, I1, r1, q1⟩ => ?_)
  obtain ⟨a, xs, ex, hx⟩ := q1
  subst ex
  cases r1
  have hst : PO X (some (.UnaryOp .USub (.Constant (.int 1) k p1) p2)) (tPart (tUn (rU fun i => .int (-i)) (tC (.int 1)))) := po_some (pe_un un_neg pe_int)
  refine wpAny_Slice (thn (po_none.run pins s1 σ H1 (fun o H2 => o = none ∧ H2 = H1) I1 ⟨rfl, rfl⟩) fun vl s2 ⟨l, H2, I2, pl, el, e2⟩ => ?_)
  subst el e2
  refine thn (po_none.run pins s2 σ H2 (fun o H3 => o = none ∧ H3 = H2) I2 ⟨rfl, rfl⟩) fun vu s3 ⟨u, H3, I3, pu, eu, e3⟩ => ?_
  subst eu e3
  refine thn (hst.run pins s3 σ H3 (fun o H4 => o = some (-1) ∧ H4 = H3) I3 ⟨1, rfl, -1, rfl, rfl, rfl⟩) fun vs s4 ⟨o, H4, I4, ps, eo, e4⟩ => ?_
  subst eo e4
  have I5 : Inv X pins σ H4 { s4 with heap := s4.heap.push { cls := .type "slice", data := .fields #[vl, vu, vs] } } := I4.kept (t' := s4.toks) fun b ob q => Heap.get?_push_of_some _ q
  rcases hx with ⟨hx, q⟩ | ⟨hx, q⟩
  · obtain ⟨its, r, ht, hz⟩ := I5.list hx
    have hlen := r.length
    show wpAny (model X.prog X.w) X.A (subscriptTail e (.Slice none none (some (.UnaryOp .USub (.Constant (.int 1) k p1) p2)) p3) (.ref a) (.ref s4.heap.objs.size)) (EP X pins σ Q) X.xe { s4 with heap := s4.heap.push { cls := .type "slice", data := .fields #[vl, vu, vs] } }
    refine tail_any (ops := [.ref a, .ref s4.heap.objs.size]) ht.isList.typeIs (PySem.slot_list_getitem.lookup) ?_ (by with_unfolding_all rfl)
    refine wpAny_getItem_list_slice ht.isList (Heap.IsSliceOf.new _ vl vu vs) pl pu ps (by decide) ?_ (by rw [List.size_toArray]; omega)
    rw [PySem.W.krv_pick]
    refine ⟨.ref _, _, I5.laid (t' := s4.toks) (o := .lst xs.reverse) (fun b ob q => Heap.get?_push_of_some _ q) (Nat.le_refl _) ?_, rfl, q _ (I5.hok.fresh (Nat.le_refl _))⟩
    exact ⟨by rw [List.length_reverse]; exact hz, _, 0, r.reverse, Heap.get?_push_size _ rfl⟩
  · obtain ⟨its, r, ht, hz⟩ := I5.tuple hx
    have hlen := r.length
    show wpAny (model X.prog X.w) X.A (subscriptTail e (.Slice none none (some (.UnaryOp .USub (.Constant (.int 1) k p1) p2)) p3) (.ref a) (.ref s4.heap.objs.size)) (EP X pins σ Q) X.xe { s4 with heap := s4.heap.push { cls := .type "slice", data := .fields #[vl, vu, vs] } }
    refine tail_any (ops := [.ref a, .ref s4.heap.objs.size]) ht.typeIs (PyProof.Rows.slot_tuple_getitem.lookup) ?_ (by with_unfolding_all rfl)
    refine HTR.getItem_tuple_rev ht (Heap.IsSliceOf.new _ vl vu vs) pl pu ps ?_ (by rw [List.size_toArray]; omega)
    refine ⟨.ref _, _, I5.laid (t' := s4.toks) (o := .tup xs.reverse) (fun b ob q => Heap.get?_push_of_some _ q) (Nat.le_refl _) ?_, rfl, q _ (I5.hok.fresh (Nat.le_refl _))⟩
    exact ⟨by rw [List.length_reverse]; exact hz, _, r.reverse, IsTup.new _ _⟩
end
end L2

namespace FP
open PySem PySem.Spec PyProof.Rows L2

/-! ### x[::-1] -/
theorem pe_revK {X : Cx} {K : PySem.W.Frag} {e : Expr} {te : TE} {k : Nat} {p1 p2 p3 pos : Pos} (eK : X.K = K) (he : PE X e te) : PE X (.Subscript e (.Slice none none (some (.UnaryOp .USub (.Constant (.int 1) k p1) p2)) p3) pos) (tRevA K te) := eK ▸ pe_revA he
section
variable {K : PySem.W.Frag} {A : Nat → Addr} {U : WX} {te : TE} {δ : List W} {x : X} {w1 : W} {ρ : Env} {ds : List D} {o : Bool}
theorem RpAll.rev {A0 : Own} {H : Hp} : ∀ {xs : List V} {ds : List D} {B : List Addr}, RpAll K A0 H xs ds B → ∃ C, RpAll K A0 H xs.reverse ds.reverse C ∧ ∀ a, a ∈ C ↔ a ∈ B
  | _, _, _, .nil => ⟨[], .nil, fun _ => Iff.rfl⟩
  | _, _, _, .cons (B := B1) (C := B2) r t n => by
    obtain ⟨C, h1, h2⟩ := RpAll.rev t
    rw [List.reverse_cons, List.reverse_cons]
    refine ⟨C ++ B1, h1.snoc r fun a h z => n a z ((h2 a).mp h), fun a => ?_⟩
    rw [List.mem_append, List.mem_append, h2]
    exact Or.comm
theorem ev_revL (h : EvS K te ρ (.lst o ds)) : EvS K (tRevA K te) ρ (.lst true ds.reverse) := fun A0 H σ B w rr Q q => h A0 H σ B w rr _ fun v H1 C e f p => by
  obtain ⟨a, xs, B1, rfl, h1, r1, s1, _⟩ := p.lst
  obtain ⟨C2, r2, s2⟩ := r1.rev
  refine ⟨a, xs, rfl, .inl ⟨h1, fun p hp => q _ _ (p :: C2) (e.tr (Ex.new hp)) (fun c hc => ?_) ((Rp.newL hp r2).keep _ (keep_less (fun a h => h.imp .inl id) fun a h => .inr h))⟩⟩
  rcases List.mem_cons.mp hc with rfl | hc
  · exact e.back hp
  · exact f c (s1 c ((s2 c).mp hc))
theorem ev_revT (h : EvS K te ρ (.tup o ds)) : EvS K (tRevA K te) ρ (.tup true ds.reverse) := fun A0 H σ B w rr Q q => h A0 H σ B w rr _ fun v H1 C e f p => by
  obtain ⟨a, xs, B1, rfl, h1, r1, s1, _⟩ := p.tup
  obtain ⟨C2, r2, s2⟩ := r1.rev
  refine ⟨a, xs, rfl, .inr ⟨h1, fun p hp => q _ _ (p :: C2) (e.tr (Ex.new hp)) (fun c hc => ?_) ((Rp.newT hp r2).keep _ (keep_less (fun a h => h.imp .inl id) fun a h => .inr h))⟩⟩
  rcases List.mem_cons.mp hc with rfl | hc
  · exact e.back hp
  · exact f c (s1 c ((s2 c).mp hc))
def qRev : P → Option P
  | .lst ps => some (.lst ps.reverse)
  | .tup ps => some (.tup ps.reverse)
  | _ => none
theorem x_rev (hk : ∀ n, w1.kid n = w1.kid 0) (h : XOk K A U te δ x w1) : XOk K A U (tRevA K te) δ (xUn qRev x) (.o (w1.kid 0)) := .mk (fun ρ p e => by
  obtain ⟨y, h1, e⟩ := bnd_eq_ok e
  have e := map_ok e
  have hv := h.ok ρ y h1
  unfold qRev at e
  split at e
  · cases e
    rw [emb_lst, embs_kid hk] at hv
    rw [emb_lst, embs_o, List.map_reverse]
    exact ev_revL hv
  · cases e
    rw [emb_tup, embs_kid hk] at hv
    rw [emb_tup_o, List.map_reverse]
    exact ev_revT hv
  · cases e) (fun ρ c fe e => by
  rcases bnd_eq_er e with h1 | ⟨y, h1, e⟩
  · exact fun A0 H σ B w0 rr hW Q => h.er ρ c fe h1 A0 H σ B w0 rr hW _
  · exact (map_er e).elim)
end
end FP

/-! tuple(zip(*t)): a base rule of our own, from the machine up -/
namespace L2
open PySem PySem.Spec PyProof.Rows
namespace ZN
abbrev Row := Addr × Addr × Array Value
/-- the iterators' places -/
def its (rs : List Row) : List Value := rs.map fun r => .ref r.1
def At (h : Heap) (rs : List Row) (i : Nat) : Prop := ∀ r ∈ rs, h.IsTupleIter r.1 r.2.1 i ∧ h.IsTuple r.2.1 r.2.2
structure Apart (z TI TO : Addr) (rs : List Row) : Prop where
  zTI : TI ≠ z
  zTO : TO ≠ z
  TITO : TI ≠ TO
  it : ∀ r ∈ rs, r.1 ≠ z ∧ r.1 ≠ TI ∧ r.1 ≠ TO
  lt : ∀ r ∈ rs, r.2.1 ≠ z ∧ r.2.1 ≠ TO ∧ ∀ q ∈ rs, r.2.1 ≠ q.1
  nd : (rs.map fun r => r.1).Nodup
section
variable {prog : Program} {w : World} {A : Around} {E : Value → Shared → Prop} {s : Shared}
abbrev St1 := Option Fin × Array Value
/-- each iterator is asked once: the slow way -/
theorem loop {f : Value → St1 → Sem (ForInStep St1)}
    (hf : ∀ (it : Addr) (acc : Array Value) (s : Shared) (Q : ForInStep St1 → Shared → Prop), wpAny (model prog w) A (Builtin.SmallTypes.nextOf (.ref it)) (fun x s' => Q (.yield (none, acc.push x)) s') E s → wpAny (model prog w) A (f (.ref it) (none, acc)) Q E s) {i : Nat} :
    ∀ (rs done : List Row) (acc : Array Value) (s : Shared) (Q : St1 → Shared → Prop) (xs : List Value), ((done ++ rs).map fun r => r.1).Nodup → (∀ r ∈ done ++ rs, ∀ q ∈ done ++ rs, r.2.1 ≠ q.1) → At s.heap done (i + 1) → At s.heap rs i →
      rs.length = xs.length → (∀ (j : Nat) (r : Row) (x : Value), rs[j]? = some r → xs[j]? = some x → r.2.2[i]? = some x) →
      (∀ h', At h' (done ++ rs) (i + 1) → h'.objs.size = s.heap.objs.size → (∀ c o, (∀ r ∈ rs, c ≠ r.1) → s.heap.get? c = some o → h'.get? c = some o) → Q (none, acc ++ xs.toArray) { s with heap := h' }) →
      wpAny (model prog w) A (forIn (its rs) ((none, acc) : St1) f) Q E s
  | [], done, acc, s, Q, xs, nd, lt, hd, hr, hl, hx, q => by
    cases xs with
    | cons x xs => cases hl
    | nil =>
      have := q s.heap (by simpa using hd) rfl fun _ _ _ h => h
      simp only [its, List.map_nil, List.forIn_nil]
      refine wpAny_pure ?_
      simpa using this
  | r :: rs, done, acc, s, Q, xs, nd, lt, hd, hr, hl, hx, q => by
    cases xs with
    | nil => cases hl
    | cons x xs =>
      simp only [its, List.map_cons, List.forIn_cons]
      refine wpAny_bind (hf _ _ _ _ ?_)
      obtain ⟨h1, h2⟩ := hr r List.mem_cons_self
      have hx0 := hx 0 r x rfl rfl
      refine RZ.nextOf_tuple_item h1 h2 hx0 fun h' a b => ?_
      have sep : ∀ p ∈ done ++ rs, p.1 ≠ r.1 := fun p hp e => by
        rw [List.map_append, List.map_cons] at nd
        rw [List.nodup_append] at nd
        rcases List.mem_append.mp hp with hp | hp
        · exact nd.2.2 p.1 (List.mem_map_of_mem hp) r.1 List.mem_cons_self e
        · exact (List.nodup_cons.mp nd.2.1).1 (e ▸ List.mem_map_of_mem hp)
      have mem : ∀ p ∈ done ++ rs, p ∈ done ++ r :: rs := fun p hp => by
        rcases List.mem_append.mp hp with hp | hp
        · exact List.mem_append_left _ hp
        · exact List.mem_append_right _ (List.mem_cons_of_mem _ hp)
      have keep : ∀ (p : Row) (k : Nat), p ∈ done ++ rs → (s.heap.IsTupleIter p.1 p.2.1 k ∧ s.heap.IsTuple p.2.1 p.2.2) → h'.IsTupleIter p.1 p.2.1 k ∧ h'.IsTuple p.2.1 p.2.2 := fun p k hp z =>
        ⟨z.1.extBut b.extBut (sep p hp), z.2.extBut b.extBut (lt p (mem p hp) r (List.mem_append_right _ List.mem_cons_self))⟩
      have e1 : done ++ r :: rs = (done ++ [r]) ++ rs := by simp
      have := loop hf rs (done ++ [r]) (acc.push x) { s with heap := h' } Q xs (by rw [← e1]; exact nd) (by rw [← e1]; exact lt) (fun p hp => by
          rcases List.mem_append.mp hp with hp | hp
          · exact keep p _ (List.mem_append_left _ hp) (hd p hp)
          · rw [List.mem_singleton.mp hp]
            exact ⟨a, h2.extBut b.extBut (lt r (List.mem_append_right _ List.mem_cons_self) r (List.mem_append_right _ List.mem_cons_self))⟩)
        (fun p hp => keep p _ (List.mem_append_right _ hp) (hr p (List.mem_cons_of_mem _ hp))) (by simpa using hl) (fun j r' x' a b => hx (j + 1) r' x' a b) (fun h'' c d e => by
          have := q h'' (by rw [e1]; exact c) (by rw [d]; exact b.1) (fun c' o hc hh => e c' o (fun r' hr' => hc r' (List.mem_cons_of_mem _ hr')) (b.extBut _ _ (hc r List.mem_cons_self) hh))
          simpa using this)
      exact this
/-- .. the first one has ended -/
theorem loop_end {f : Value → St1 → Sem (ForInStep St1)} (hh : A.handled = none)
    (hf : ∀ (it : Addr) (acc : Array Value) (s : Shared) (Q : ForInStep St1 → Shared → Prop), wpAny (model prog w) A (Builtin.SmallTypes.nextOf (.ref it)) (fun x s' => Q (.yield (none, acc.push x)) s') E s → wpAny (model prog w) A (f (.ref it) (none, acc)) Q E s) {i : Nat}
    {r : Row} {rs : List Row} {Q : St1 → Shared → Prop} (h : At s.heap (r :: rs) i) (hx : r.2.2[i]? = none)
    (hE : ∀ h' e, Heap.ExtBut r.1 s.heap h' → (∃ o, h'.get? e = some o ∧ o.cls = .type "StopIteration") → E (.ref e) { s with heap := h' }) : wpAny (model prog w) A (forIn (its (r :: rs)) ((none, #[]) : St1) f) Q E s := by
  simp only [its, List.map_cons, List.forIn_cons]
  refine wpAny_bind (hf _ _ _ _ ?_)
  obtain ⟨h1, h2⟩ := h r List.mem_cons_self
  exact RZ.nextOf_tuple_end hh h1 h2 hx hE
/-- zip.__next__ where the tuple that was told is still held -/
theorem next_held {z TI TO T : Addr} {b : Bool} {oT : Obj} {rs : List Row} {i : Nat} {xs : List Value} {Q : Value → Shared → Prop} (D : Apart z TI TO rs) (hz : PySem.IsZipHeld s.heap z TI TO T b) (hT : s.heap.get? T = some oT)
    (hTI : s.heap.get? TI = some { cls := .type "tuple", data := .seq (its rs).toArray }) (hne : rs ≠ []) (h : At s.heap rs i) (hl : rs.length = xs.length) (hx : ∀ (j : Nat) (r : Row) (x : Value), rs[j]? = some r → xs[j]? = some x → r.2.2[i]? = some x) (hsz : xs.length ≤ sizeLine)
    (hQ : ∀ h', PySem.IsZipHeld h' z TI TO T true → At h' rs (i + 1) → h'.get? s.heap.objs.size = some { cls := .type "tuple", data := .seq xs.toArray } → h'.objs.size = s.heap.objs.size + 1 →
      (∀ c o, c ≠ z → (∀ r ∈ rs, c ≠ r.1) → s.heap.get? c = some o → h'.get? c = some o) → Q (.ref s.heap.objs.size) { s with heap := h' }) :
    wpAny (model prog w) A (Builtin.«zip.__next__» ⟨[.ref z], []⟩) (fun fin s' => ∃ v, fin = .done (.ret v) ∧ Q v s') E s := by
  show wpAny _ _ (field (.ref z) 2 >>= _) _ _ _
  refine wpAny_bind (wpAny_field hz rfl (x := .bool false) rfl ?_)
  show wpAny _ _ (field (.ref z) 3 >>= _) _ _ _
  refine wpAny_bind (wpAny_field hz rfl (x := .ref TI) rfl ?_)
  refine wpAny_bind (wpAny_seqItems hTI rfl ?_)
  have hemp : (its rs).toArray.isEmpty = false := by
    cases rs with
    | nil => exact absurd rfl hne
    | cons r rs => rfl
  simp only [hemp, Bool.false_eq_true, if_false]
  show wpAny _ _ (Builtin.SmallTypes.ownedTupleIsFree (.ref z) >>= _) _ _ _
  refine wpAny_bind (PySem.wpAny_tupleHeld_zip hz hT fun h₁ hz₁ hs₁ => ?_)
  simp only [Bool.false_eq_true, if_false]
  refine wpAny_bind ?_
  rw [← Array.forIn_toList]
  have h1 : At h₁ rs i := fun r hr => ⟨(h r hr).1.extBut hs₁.extBut (D.it r hr).1, (h r hr).2.extBut hs₁.extBut (D.lt r hr).1⟩
  refine loop (i := i) (fun it acc s Q h => ?_) rs [] #[] { s with heap := h₁ } _ xs (by simpa using D.nd) (by simpa using fun a b c hr a' b' c' hq => (D.lt _ hr).2.2 _ hq) (fun _ h => nomatch h) h1 hl hx fun h₂ a2 sz2 k2 => ?_
  · refine wpAny_bind (wpAny_holding ?_)
    show wpAny _ _ (Builtin.SmallTypes.nextOf (.ref it) >>= _) _ _ _
    refine wpAny_bind (wpAny_mono h (fun x s' hx => wpAny_pure ?_) fun _ _ h => h)
    exact wpAny_pure hx
  · have k3 : ∀ c o, c ≠ z → (∀ r ∈ rs, c ≠ r.1) → s.heap.get? c = some o → h₂.get? c = some o := fun c o c1 c2 e => k2 c o c2 (hs₁.extBut _ _ c1 e)
    have hz₂ : PySem.IsZipHeld h₂ z TI TO T true := k2 z _ (fun r hr => (D.it r hr).1.symm) hz₁
    simp only [List.append_toArray, List.nil_append, Array.empty_append]
    try dsimp only
    refine wpAny_bind (wpAny_newTuple ?_ (by simpa using hsz))
    have hsz : h₂.objs.size = s.heap.objs.size := by rw [sz2]; exact hs₁.1
    refine wpAny_pure ⟨_, rfl, ?_⟩
    show Q (.ref h₂.objs.size) _
    have hp := Heap.get?_push_size h₂ (o := { cls := .type "tuple", data := .seq xs.toArray }) rfl
    rw [hsz] at hp ⊢
    refine hQ _ (Heap.get?_push_of_some _ hz₂) (fun r hr => ⟨(a2 r (by simpa using hr)).1.at fun o e => Heap.get?_push_of_some _ e, (a2 r (by simpa using hr)).2.at fun o e => Heap.get?_push_of_some _ e⟩) hp (by rw [Heap.size_push, hsz]) fun c o c1 c2 e => Heap.get?_push_of_some _ (k3 c o c1 c2 e)
/-- the quick way: the own tuple is filled -/
theorem loopF {TO : Addr} {S : Type} {st : S} {f : Value × Nat → S → Sem (ForInStep S)}
    (hf : ∀ (it : Addr) (k : Nat) (vs : Array Value) (s : Shared) (Q : ForInStep S → Shared → Prop),
      (∀ E' : Value → Shared → Prop, wpAny (model prog w) A (Builtin.SmallTypes.nextOf (.ref it)) (fun x s' => s'.heap.get? TO = some { cls := .type "tuple", data := .seq vs } ∧ vs.size ≤ 1000 ∧ ∀ h', h'.get? TO = some { cls := .type "tuple", data := .seq (vs.setIfInBounds k x) } → Heap.SameBut TO s'.heap h' → Q (.yield st) { s' with heap := h' }) E' s) →
      wpAny (model prog w) A (f (.ref it, k) st) Q E s) {i : Nat} :
    ∀ (rs done : List Row) (k : Nat) (ys zs : List Value) (s : Shared) (Q : S → Shared → Prop) (xs : List Value), ((done ++ rs).map fun r => r.1).Nodup → (∀ r ∈ done ++ rs, r.1 ≠ TO ∧ r.2.1 ≠ TO ∧ ∀ q ∈ done ++ rs, r.2.1 ≠ q.1) → At s.heap done (i + 1) → At s.heap rs i →
      ys.length = k → zs.length = rs.length → ys.length + zs.length ≤ 1000 → s.heap.get? TO = some { cls := .type "tuple", data := .seq (ys ++ zs).toArray } →
      rs.length = xs.length → (∀ (j : Nat) (r : Row) (x : Value), rs[j]? = some r → xs[j]? = some x → r.2.2[i]? = some x) →
      (∀ h', At h' (done ++ rs) (i + 1) → h'.objs.size = s.heap.objs.size → h'.get? TO = some { cls := .type "tuple", data := .seq (ys ++ xs).toArray } → (∀ c o, c ≠ TO → (∀ r ∈ rs, c ≠ r.1) → s.heap.get? c = some o → h'.get? c = some o) → Q st { s with heap := h' }) →
      wpAny (model prog w) A (forIn ((its rs).zipIdx k) st f) Q E s
  | [], done, k, ys, zs, s, Q, xs, nd, lt, hd, hr, hy, hz, hb, hO, hl, hx, q => by
    cases xs with
    | cons x xs => cases hl
    | nil =>
      cases zs with
      | cons z zs => cases hz
      | nil =>
        have := q s.heap (by simpa using hd) rfl hO fun _ _ _ _ h => h
        simp only [its, List.map_nil, List.zipIdx_nil, List.forIn_nil]
        exact wpAny_pure this
  | r :: rs, done, k, ys, zs, s, Q, xs, nd, lt, hd, hr, hy, hz, hb, hO, hl, hx, q => by
    cases xs with
    | nil => cases hl
    | cons x xs =>
      cases zs with
      | nil => cases hz
      | cons z zs =>
      simp only [its, List.map_cons, List.zipIdx_cons, List.forIn_cons]
      obtain ⟨h1, h2⟩ := hr r List.mem_cons_self
      have hx0 := hx 0 r x rfl rfl
      have rm : r ∈ done ++ r :: rs := List.mem_append_right _ List.mem_cons_self
      refine wpAny_bind (hf _ _ (ys ++ z :: zs).toArray _ _ fun E' => RZ.nextOf_tuple_item h1 h2 hx0 fun h' a b => ⟨b.extBut _ _ (lt r rm).1.symm hO, by simpa using hb, fun h2' o2 b2 => ?_⟩)
      have sep : ∀ p ∈ done ++ rs, p.1 ≠ r.1 := fun p hp e => by
        rw [List.map_append, List.map_cons] at nd
        rw [List.nodup_append] at nd
        rcases List.mem_append.mp hp with hp | hp
        · exact nd.2.2 p.1 (List.mem_map_of_mem hp) r.1 List.mem_cons_self e
        · exact (List.nodup_cons.mp nd.2.1).1 (e ▸ List.mem_map_of_mem hp)
      have mem : ∀ p ∈ done ++ rs, p ∈ done ++ r :: rs := fun p hp => by
        rcases List.mem_append.mp hp with hp | hp
        · exact List.mem_append_left _ hp
        · exact List.mem_append_right _ (List.mem_cons_of_mem _ hp)
      have keep : ∀ (p : Row) (k : Nat), p ∈ done ++ rs → (s.heap.IsTupleIter p.1 p.2.1 k ∧ s.heap.IsTuple p.2.1 p.2.2) → h2'.IsTupleIter p.1 p.2.1 k ∧ h2'.IsTuple p.2.1 p.2.2 := fun p k hp z =>
        ⟨(z.1.extBut b.extBut (sep p hp)).extBut b2.extBut (lt p (mem p hp)).1, (z.2.extBut b.extBut ((lt p (mem p hp)).2.2 r rm)).extBut b2.extBut (lt p (mem p hp)).2.1⟩
      have e1 : done ++ r :: rs = (done ++ [r]) ++ rs := by simp
      have o3 : (ys ++ z :: zs).toArray.setIfInBounds k x = ((ys ++ [x]) ++ zs).toArray := by
        subst hy
        simp
      rw [o3] at o2
      have := loopF hf rs (done ++ [r]) (k + 1) (ys ++ [x]) zs { s with heap := h2' } Q xs (by rw [← e1]; exact nd) (by rw [← e1]; exact lt) (fun p hp => by
          rcases List.mem_append.mp hp with hp | hp
          · exact keep p _ (List.mem_append_left _ hp) (hd p hp)
          · rw [List.mem_singleton.mp hp]
            exact ⟨a.extBut b2.extBut (lt r rm).1, (h2.extBut b.extBut ((lt r rm).2.2 r rm)).extBut b2.extBut (lt r rm).2.1⟩)
        (fun p hp => keep p _ (List.mem_append_right _ hp) (hr p (List.mem_cons_of_mem _ hp))) (by simp [hy]) (by simpa using hz) (by simp at hb ⊢; omega) o2 (by simpa using hl) (fun j r' x' a b => hx (j + 1) r' x' a b) (fun h'' c d o e => by
          have := q h'' (by rw [e1]; exact c) (by rw [d]; exact b2.1.trans b.1) (by simpa using o) (fun c' o cO hc hh => e c' o cO (fun r' hr' => hc r' (List.mem_cons_of_mem _ hr')) (b2.extBut _ _ cO (b.extBut _ _ (hc r List.mem_cons_self) hh)))
          exact this)
      exact this
/-- zip.__next__ the first time -/
theorem next_first {z TI TO : Addr} {rs : List Row} {zs : List Value} {i : Nat} {xs : List Value} {Q : Value → Shared → Prop} (D : Apart z TI TO rs) (hz : IsZip s.heap z TI TO .none)
    (hTI : s.heap.get? TI = some { cls := .type "tuple", data := .seq (its rs).toArray }) (hTO : s.heap.get? TO = some { cls := .type "tuple", data := .seq zs.toArray }) (hzs : zs.length = rs.length) (hn : rs.length ≤ 1000) (hne : rs ≠ []) (h : At s.heap rs i) (hl : rs.length = xs.length) (hx : ∀ (j : Nat) (r : Row) (x : Value), rs[j]? = some r → xs[j]? = some x → r.2.2[i]? = some x)
    (hQ : ∀ h', PySem.IsZipHeld h' z TI TO s.heap.objs.size false → At h' rs (i + 1) → h'.get? s.heap.objs.size = some { cls := .type "tuple", data := .seq xs.toArray } → h'.objs.size = s.heap.objs.size + 1 →
      (∀ c o, c ≠ z → c ≠ TO → (∀ r ∈ rs, c ≠ r.1) → s.heap.get? c = some o → h'.get? c = some o) → Q (.ref s.heap.objs.size) { s with heap := h' }) :
    wpAny (model prog w) A (Builtin.«zip.__next__» ⟨[.ref z], []⟩) (fun fin s' => ∃ v, fin = .done (.ret v) ∧ Q v s') E s := by
  show wpAny _ _ (field (.ref z) 2 >>= _) _ _ _
  refine wpAny_bind (wpAny_field hz rfl (x := .bool false) rfl ?_)
  show wpAny _ _ (field (.ref z) 3 >>= _) _ _ _
  refine wpAny_bind (wpAny_field hz rfl (x := .ref TI) rfl ?_)
  refine wpAny_bind (wpAny_seqItems hTI rfl ?_)
  have hemp : (its rs).toArray.isEmpty = false := by
    cases rs with
    | nil => exact absurd rfl hne
    | cons r rs => rfl
  simp only [hemp, Bool.false_eq_true, if_false]
  show wpAny _ _ (Builtin.SmallTypes.ownedTupleIsFree (.ref z) >>= _) _ _ _
  refine wpAny_bind ?_
  unfold Builtin.SmallTypes.ownedTupleIsFree
  refine wpAny_bind (wpAny_field hz rfl (x := .none) rfl (wpAny_pure ?_))
  simp only [if_true]
  refine wpAny_bind (wpAny_rule ?_)
  refine wpAny_bind (wpAny_field hz rfl (x := .ref TO) rfl ?_)
  refine wpAny_bind (wpAny_setField_rec hz (by simp) fun h₁ hz₁ hs₁ => ?_)
  replace hz₁ : IsZip h₁ z TI TO .ellipsis := hz₁
  have h1 : At h₁ rs i := fun r hr => ⟨(h r hr).1.extBut hs₁.extBut (D.it r hr).1, (h r hr).2.extBut hs₁.extBut (D.lt r hr).1⟩
  refine wpAny_bind ?_
  refine loopF (TO := TO) (i := i) (fun it k vs s Q h => ?_) rs [] 0 [] zs { s with heap := h₁ } _ xs (by simpa using D.nd) (by
      intro r hr
      rw [List.nil_append] at hr
      exact ⟨(D.it r hr).2.2, (D.lt r hr).2.1, by simpa using (D.lt r hr).2.2⟩) (fun _ h => nomatch h) h1 rfl hzs (by simpa [hzs] using hn) (by simpa using hs₁.extBut _ _ D.zTO hTO) hl hx fun h₂ a2 sz2 o2 k2 => ?_
  · refine wpAny_bind (wpAny_onRaise ?_)
    show wpAny _ _ (Builtin.SmallTypes.nextOf (.ref it) >>= _) _ _ _
    refine wpAny_bind (wpAny_mono (h _) (fun x s' hx => wpAny_pure ?_) fun _ _ h => h)
    obtain ⟨o1, z1, k1⟩ := hx
    refine wpAny_bind (wpAny_seqItems o1 rfl ?_)
    refine wpAny_bind (wpAny_updateSeq o1 rfl ?_ (by rw [sizeLine_eq]; omega) (by rw [Array.size_setIfInBounds, sizeLine_eq]; omega))
    refine wpAny_bind (wpAny_letGo (wpAny_pure ?_))
    refine k1 _ ?_ (Heap.SameBut.update ..)
    rw [Heap.get?_update_self _ o1 rfl]
    simp [Obj.mapSeq]
  · rw [List.nil_append] at o2
    have a2 : At h₂ rs (i + 1) := fun r hr => a2 r (by simpa using hr)
    have hz₂ : IsZip h₂ z TI TO .ellipsis := k2 z _ D.zTO.symm (fun r hr => (D.it r hr).1.symm) hz₁
    try dsimp only
    refine wpAny_bind (wpAny_seqItems o2 rfl ?_)
    refine wpAny_bind (wpAny_newTuple ?_ (by simp [← hl, sizeLine_eq]; omega))
    have hsz : h₂.objs.size = s.heap.objs.size := by rw [sz2]; exact hs₁.1
    have hzlt : z < h₂.objs.size := Heap.lt_size hz₂
    show wpAny _ _ (Builtin.SmallTypes.ownedTupleHandOut (.ref z) (.ref h₂.objs.size) >>= _) _ _ _
    refine wpAny_bind ?_
    unfold Builtin.SmallTypes.ownedTupleHandOut
    have e0 : xs.toArray.toList.toArray = xs.toArray := by simp
    rw [e0]
    have hz₆ : IsZip (h₂.push { cls := .type "tuple", data := .seq xs.toArray }) z TI TO .ellipsis := Heap.get?_push_of_some _ hz₂
    refine wpAny_bind (wpAny_setField_rec hz₆ (by simp) fun h₇ hz₇ hs₇ => ?_)
    replace hz₇ : IsZip h₇ z TI TO (rawInt h₂.objs.size) := hz₇
    refine wpAny_setField_rec hz₇ (by simp) fun h₈ hz₈ hs₈ => ?_
    replace hz₈ : PySem.IsZipHeld h₈ z TI TO h₂.objs.size false := hz₈
    have up : ∀ c o, c ≠ z → h₂.get? c = some o → h₈.get? c = some o := fun c o c1 e => hs₈.extBut _ _ c1 (hs₇.extBut _ _ c1 (Heap.get?_push_of_some _ e))
    have hT₈ : h₈.get? h₂.objs.size = some { cls := .type "tuple", data := .seq xs.toArray } := hs₈.extBut _ _ (Nat.ne_of_gt hzlt) (hs₇.extBut _ _ (Nat.ne_of_gt hzlt) (Heap.get?_push_size _ rfl))
    have hz8 : h₈.objs.size = h₂.objs.size + 1 := by rw [hs₈.1, hs₇.1, Heap.size_push]
    rw [hsz] at hz₈ hT₈ hz8
    refine wpAny_pure ⟨_, rfl, ?_⟩
    show Q (.ref h₂.objs.size) _
    rw [hsz]
    refine hQ h₈ hz₈ (fun r hr => ⟨(a2 r hr).1.at fun o e => up _ o (D.it r hr).1 e, (a2 r hr).2.at fun o e => up _ o (D.lt r hr).1 e⟩) hT₈ hz8 fun c o c1 c2 c3 e => up c o c1 (k2 c o c2 c3 (hs₁.extBut _ _ c1 e))
/-- zip.__next__ behind the end, the tuple still held -/
theorem next_end {z TI TO T : Addr} {b : Bool} {oT : Obj} {rs : List Row} {r : Row} {i : Nat} {Q : Fin → Shared → Prop} (hh : A.handled = none) (D : Apart z TI TO (r :: rs)) (hz : PySem.IsZipHeld s.heap z TI TO T b) (hT : s.heap.get? T = some oT)
    (hTI : s.heap.get? TI = some { cls := .type "tuple", data := .seq (its (r :: rs)).toArray }) (h : At s.heap (r :: rs) i) (hx : r.2.2[i]? = none)
    (hE : ∀ h' e, (∀ c o, c ≠ z → c ≠ r.1 → s.heap.get? c = some o → h'.get? c = some o) → (∃ o, h'.get? e = some o ∧ o.cls = .type "StopIteration") → E (.ref e) { s with heap := h' }) :
    wpAny (model prog w) A (Builtin.«zip.__next__» ⟨[.ref z], []⟩) Q E s := by
  show wpAny _ _ (field (.ref z) 2 >>= _) _ _ _
  refine wpAny_bind (wpAny_field hz rfl (x := .bool false) rfl ?_)
  show wpAny _ _ (field (.ref z) 3 >>= _) _ _ _
  refine wpAny_bind (wpAny_field hz rfl (x := .ref TI) rfl ?_)
  refine wpAny_bind (wpAny_seqItems hTI rfl ?_)
  have hemp : (its (r :: rs)).toArray.isEmpty = false := rfl
  simp only [hemp, Bool.false_eq_true, if_false]
  show wpAny _ _ (Builtin.SmallTypes.ownedTupleIsFree (.ref z) >>= _) _ _ _
  refine wpAny_bind (PySem.wpAny_tupleHeld_zip hz hT fun h₁ hz₁ hs₁ => ?_)
  simp only [Bool.false_eq_true, if_false]
  refine wpAny_bind ?_
  rw [← Array.forIn_toList]
  have h1 : At h₁ (r :: rs) i := fun p hp => ⟨(h p hp).1.extBut hs₁.extBut (D.it p hp).1, (h p hp).2.extBut hs₁.extBut (D.lt p hp).1⟩
  refine loop_end (i := i) (s := { s with heap := h₁ }) hh (fun it acc s Q h => ?_) h1 hx fun h₂ e k2 he => ?_
  · refine wpAny_bind (wpAny_holding ?_)
    show wpAny _ _ (Builtin.SmallTypes.nextOf (.ref it) >>= _) _ _ _
    refine wpAny_bind (wpAny_mono h (fun x s' hx => wpAny_pure ?_) fun _ _ h => h)
    exact wpAny_pure hx
  · exact hE h₂ e (fun c o c1 c2 q => k2 _ _ c2 (hs₁.extBut _ _ c1 q)) he
theorem pyNext_first {z TI TO : Addr} {rs : List Row} {zs : List Value} {i : Nat} {xs : List Value} {Q : Option Value → Shared → Prop} (D : Apart z TI TO rs) (hz : IsZip s.heap z TI TO .none)
    (hTI : s.heap.get? TI = some { cls := .type "tuple", data := .seq (its rs).toArray }) (hTO : s.heap.get? TO = some { cls := .type "tuple", data := .seq zs.toArray }) (hzs : zs.length = rs.length) (hn : rs.length ≤ 1000) (hne : rs ≠ []) (h : At s.heap rs i) (hl : rs.length = xs.length) (hx : ∀ (j : Nat) (r : Row) (x : Value), rs[j]? = some r → xs[j]? = some x → r.2.2[i]? = some x)
    (hQ : ∀ h', PySem.IsZipHeld h' z TI TO s.heap.objs.size false → At h' rs (i + 1) → h'.get? s.heap.objs.size = some { cls := .type "tuple", data := .seq xs.toArray } → h'.objs.size = s.heap.objs.size + 1 →
      (∀ c o, c ≠ z → c ≠ TO → (∀ r ∈ rs, c ≠ r.1) → s.heap.get? c = some o → h'.get? c = some o) → Q (some (.ref s.heap.objs.size)) { s with heap := h' }) : wpAny (model prog w) A (pyNext (.ref z)) Q E s := by
  have hT : s.TypeIs (.ref z) "zip" := ⟨_, hz, rfl⟩
  unfold pyNext
  exact wpAny_bind (wpAny_attempt (wpAny_callSpecial?_slot (name := Str.ofString "__next__") hT F.slot_zip_next
    (wpAny_call_entry F.slot_zip_next hT F.entry_zip_next
      (next_first D hz hTI hTO hzs hn hne h hl hx fun h' a1 a2 a3 a4 a5 => wpAny_pure (hQ h' a1 a2 a3 a4 a5)) (F.args_zip_next_1 _))))
theorem pyNext_held {z TI TO T : Addr} {b : Bool} {oT : Obj} {rs : List Row} {i : Nat} {xs : List Value} {Q : Option Value → Shared → Prop} (D : Apart z TI TO rs) (hz : PySem.IsZipHeld s.heap z TI TO T b) (hT : s.heap.get? T = some oT)
    (hTI : s.heap.get? TI = some { cls := .type "tuple", data := .seq (its rs).toArray }) (hne : rs ≠ []) (h : At s.heap rs i) (hl : rs.length = xs.length) (hx : ∀ (j : Nat) (r : Row) (x : Value), rs[j]? = some r → xs[j]? = some x → r.2.2[i]? = some x) (hsz : xs.length ≤ sizeLine)
    (hQ : ∀ h', PySem.IsZipHeld h' z TI TO T true → At h' rs (i + 1) → h'.get? s.heap.objs.size = some { cls := .type "tuple", data := .seq xs.toArray } → h'.objs.size = s.heap.objs.size + 1 →
      (∀ c o, c ≠ z → (∀ r ∈ rs, c ≠ r.1) → s.heap.get? c = some o → h'.get? c = some o) → Q (some (.ref s.heap.objs.size)) { s with heap := h' }) : wpAny (model prog w) A (pyNext (.ref z)) Q E s := by
  have hT' : s.TypeIs (.ref z) "zip" := ⟨_, hz, rfl⟩
  unfold pyNext
  exact wpAny_bind (wpAny_attempt (wpAny_callSpecial?_slot (name := Str.ofString "__next__") hT' F.slot_zip_next
    (wpAny_call_entry F.slot_zip_next hT' F.entry_zip_next
      (next_held D hz hT hTI hne h hl hx hsz fun h' a1 a2 a3 a4 a5 => wpAny_pure (hQ h' a1 a2 a3 a4 a5)) (F.args_zip_next_1 _))))
theorem pyNext_end {z TI TO T : Addr} {b : Bool} {oT : Obj} {rs : List Row} {r : Row} {i : Nat} {Q : Option Value → Shared → Prop} (hh : A.handled = none) (D : Apart z TI TO (r :: rs)) (hz : PySem.IsZipHeld s.heap z TI TO T b) (hT : s.heap.get? T = some oT)
    (hTI : s.heap.get? TI = some { cls := .type "tuple", data := .seq (its (r :: rs)).toArray }) (h : At s.heap (r :: rs) i) (hx : r.2.2[i]? = none)
    (hQ : ∀ h', (∀ c o, c ≠ z → c ≠ r.1 → s.heap.get? c = some o → h'.get? c = some o) → Q none { s with heap := h' }) : wpAny (model prog w) A (pyNext (.ref z)) Q E s := by
  have hT' : s.TypeIs (.ref z) "zip" := ⟨_, hz, rfl⟩
  unfold pyNext
  refine wpAny_bind (wpAny_attempt (wpAny_callSpecial?_slot (name := Str.ofString "__next__") hT' F.slot_zip_next
    (wpAny_call_entry F.slot_zip_next hT' F.entry_zip_next (next_end hh D hz hT hTI h hx fun h' e hk he => ?_) (F.args_zip_next_1 _))))
  obtain ⟨o, ho, hc⟩ := he
  refine wpAny_bind (wpAny_isInstance (T := "StopIteration") (b := true) ⟨o, ho, hc⟩ isSubtype_stop ?_)
  exact wpAny_pure (hQ _ hk)
/-! zip(t1, .., tn) of tuples -/
def mkRows : Nat → List (Addr × Array Value) → List Row
  | _, [] => []
  | b, (l, xs) :: ls => (b, l, xs) :: mkRows (b + 1) ls
theorem mkRows_len : ∀ {b : Nat} {ls : List (Addr × Array Value)}, (mkRows b ls).length = ls.length
  | _, [] => rfl
  | b, (l, xs) :: ls => by rw [mkRows, List.length_cons, List.length_cons, mkRows_len]
theorem mkRows_mem : ∀ {b : Nat} {ls : List (Addr × Array Value)} {r : Row}, r ∈ mkRows b ls → Nat.le b r.1 ∧ Nat.lt r.1 (b + ls.length) ∧ (r.2.1, r.2.2) ∈ ls
  | _, [], r, h => nomatch h
  | b, (l, xs) :: ls, r, h => by
    rw [mkRows] at h
    rcases List.mem_cons.mp h with rfl | h
    · exact ⟨Nat.le_refl _, Nat.lt_add_of_pos_right (Nat.succ_pos _), List.mem_cons_self⟩
    · obtain ⟨a, c, d⟩ := mkRows_mem h
      exact ⟨Nat.le_of_succ_le a, Nat.lt_of_lt_of_eq c (by rw [List.length_cons]; omega), List.mem_cons_of_mem _ d⟩
theorem mkRows_nodup : ∀ {b : Nat} {ls : List (Addr × Array Value)}, ((mkRows b ls).map fun r => r.1).Nodup
  | _, [] => by simp [mkRows]
  | b, (l, xs) :: ls => by
    rw [mkRows, List.map_cons, List.nodup_cons]
    refine ⟨fun h => ?_, mkRows_nodup⟩
    obtain ⟨r, hr, e⟩ := List.mem_map.mp h
    have := (mkRows_mem hr).1
    rw [show r.1 = b from e] at this
    exact Nat.lt_irrefl b this
theorem mkRows_get : ∀ {b : Nat} {ls : List (Addr × Array Value)} {j : Nat} {r : Row}, (mkRows b ls)[j]? = some r → ls[j]? = some (r.2.1, r.2.2)
  | _, [], _, _, h => by simp [mkRows] at h
  | b, (l, xs) :: ls, 0, r, h => by
    simp only [mkRows, List.getElem?_cons_zero, Option.some.injEq] at h
    subst h
    rfl
  | b, (l, xs) :: ls, j + 1, r, h => by
    rw [mkRows, List.getElem?_cons_succ] at h
    rw [List.getElem?_cons_succ]
    exact mkRows_get h
theorem iterLoop {f : Value → Array Value → Sem (ForInStep (Array Value))}
    (hf : ∀ (v : Value) (acc : Array Value) (s : Shared) (Q : ForInStep (Array Value) → Shared → Prop), wpAny (model prog w) A (pyIter v) (fun x s' => Q (.yield (acc.push x)) s') E s → wpAny (model prog w) A (f v acc) Q E s) :
    ∀ (ls : List (Addr × Array Value)) (acc : Array Value) (s : Shared) (Q : Array Value → Shared → Prop), (∀ p ∈ ls, s.heap.IsTuple p.1 p.2) →
      (∀ h', At h' (mkRows s.heap.objs.size ls) 0 → h'.objs.size = s.heap.objs.size + ls.length → (∀ c o, s.heap.get? c = some o → h'.get? c = some o) → Q (acc ++ (its (mkRows s.heap.objs.size ls)).toArray) { s with heap := h' }) →
      wpAny (model prog w) A (forIn (ls.map fun p => Value.ref p.1) acc f) Q E s
  | [], acc, s, Q, ht, q => by
    simp only [List.map_nil, List.forIn_nil]
    refine wpAny_pure ?_
    have := q s.heap (fun _ h => nomatch h) rfl fun _ _ h => h
    simpa [its, mkRows] using this
  | (l, xs) :: ls, acc, s, Q, ht, q => by
    simp only [List.map_cons, List.forIn_cons]
    refine wpAny_bind (hf _ _ _ _ ?_)
    refine wpAny_pyIter_tuple (ht _ List.mem_cons_self) ?_
    have hz : (s.heap.push { cls := .type "tuple_iterator", data := .fields #[.ref l, .int 0 0] }).objs.size = s.heap.objs.size + 1 := Heap.size_push ..
    have kp : ∀ c o, s.heap.get? c = some o → (s.heap.push { cls := .type "tuple_iterator", data := .fields #[.ref l, .int 0 0] }).get? c = some o := fun c o h => Heap.get?_push_of_some _ h
    refine iterLoop hf ls _ { s with heap := s.heap.push { cls := .type "tuple_iterator", data := .fields #[.ref l, .int 0 0] } } Q (fun p hp => (ht p (List.mem_cons_of_mem _ hp)).at fun o e => kp _ o e) fun h' a b c => ?_
    have := q h' (fun r hr => ?_) (by rw [b]; show (s.heap.push _).objs.size + _ = _; rw [hz, List.length_cons]; omega) fun c' o h => c c' o (kp c' o h)
    · simp only [its, mkRows, List.map_cons] at this ⊢
      rw [hz]
      simpa using this
    · rw [mkRows] at hr
      rcases List.mem_cons.mp hr with rfl | hr
      · refine ⟨?_, (ht _ List.mem_cons_self).at fun o e => c _ o (kp _ o e)⟩
        exact ⟨_, c _ _ (Heap.get?_push_size _ rfl), rfl, rfl⟩
      · have := a r
        show _
        rw [show (s.heap.push { cls := .type "tuple_iterator", data := .fields #[.ref l, .int 0 0] }).objs.size = s.heap.objs.size + 1 from hz] at this
        exact this hr
end
end ZN
end L2
namespace L2
open PySem PySem.Spec PyProof.Rows
namespace ZN
theorem typeCall_zip (vs : List Value) (h : vs.length ≤ 8) : checkTypeCall "zip" ⟨vs, []⟩ = pure () := by
  match vs, h with
  | [], _ => kernel_rfl
  | [_], _ => kernel_rfl
  | [_, _], _ => kernel_rfl
  | [_, _, _], _ => kernel_rfl
  | [_, _, _, _], _ => kernel_rfl
  | [_, _, _, _, _], _ => kernel_rfl
  | [_, _, _, _, _, _], _ => kernel_rfl
  | [_, _, _, _, _, _, _], _ => kernel_rfl
  | [_, _, _, _, _, _, _, _], _ => kernel_rfl
theorem newCall_zip (vs : List Value) (h : vs.length ≤ 8) : checkBuiltinCall "zip.__new__" ⟨.type "zip" :: vs, []⟩ = pure () := by
  match vs, h with
  | [], _ => kernel_rfl
  | [_], _ => kernel_rfl
  | [_, _], _ => kernel_rfl
  | [_, _, _], _ => kernel_rfl
  | [_, _, _, _], _ => kernel_rfl
  | [_, _, _, _, _], _ => kernel_rfl
  | [_, _, _, _, _, _], _ => kernel_rfl
  | [_, _, _, _, _, _, _], _ => kernel_rfl
  | [_, _, _, _, _, _, _, _], _ => kernel_rfl
theorem args_object_init (obj : Value) (vs : List Value) (h : vs.length ≤ 8) : argsOk "object.__init__" ⟨obj :: vs, []⟩ := by
  unfold argsOk
  rw [signature?_of (id := "object.__init__") (n := ['_', '_', 't', 'i', 'n', 'i', '_', '_']) (o := ['t', 'c', 'e', 'j', 'b', 'o']) (by kernel_rfl) F.owner_object]
  match vs, h with
  | [], _ => kernel_rfl
  | [_], _ => kernel_rfl
  | [_, _], _ => kernel_rfl
  | [_, _, _], _ => kernel_rfl
  | [_, _, _, _], _ => kernel_rfl
  | [_, _, _, _, _], _ => kernel_rfl
  | [_, _, _, _, _, _], _ => kernel_rfl
  | [_, _, _, _, _, _, _], _ => kernel_rfl
  | [_, _, _, _, _, _, _, _], _ => kernel_rfl
theorem meets_new (ls : List (Addr × Array Value)) (hl : ls.length ≤ 8) :
    Meets (Builtin.«zip.__new__» ⟨.type "zip" :: ls.map (fun p => Value.ref p.1), []⟩) (fun _ R s => (∀ p ∈ ls, s.heap.IsTuple p.1 p.2) ∧
      ∀ h', At h' (mkRows s.heap.objs.size ls) 0 → h'.objs.size = s.heap.objs.size + ls.length → (∀ c o, s.heap.get? c = some o → h'.get? c = some o) →
      R (.ok (.ret (.ref ((h'.push { cls := .type "tuple", data := .seq (its (mkRows s.heap.objs.size ls)).toArray }).push { cls := .type "tuple", data := .seq ((its (mkRows s.heap.objs.size ls)).map fun _ => Value.none).toArray }).objs.size)))
        { s with heap := ((h'.push { cls := .type "tuple", data := .seq (its (mkRows s.heap.objs.size ls)).toArray }).push { cls := .type "tuple", data := .seq ((its (mkRows s.heap.objs.size ls)).map fun _ => Value.none).toArray }).push { cls := .type "zip", data := .fields #[.none, .bool false, .bool false, .ref h'.objs.size, .ref (h'.push { cls := .type "tuple", data := .seq (its (mkRows s.heap.objs.size ls)).toArray }).objs.size] } }) :=
  .of_wp fun prog w A R s h => by
    obtain ⟨hp, g, d, tk, os⟩ := s
    obtain ⟨ht, h⟩ := h
    have hsub := sub_zip
    have q1 : ∀ {A' : Around} {E : Value → Shared → Prop} {Q : List Value → Shared → Prop}, (∀ h', At h' (mkRows hp.objs.size ls) 0 → h'.objs.size = hp.objs.size + ls.length → (∀ c o, hp.get? c = some o → h'.get? c = some o) → Q (its (mkRows hp.objs.size ls)) ⟨h', g, d, tk, os⟩) →
        wpAny (model prog w) A' (Builtin.SmallTypes.iterAll (ls.map fun p => Value.ref p.1)) Q E ⟨hp, g, d, tk, os⟩ := fun q => by
      unfold Builtin.SmallTypes.iterAll
      refine wpAny_bind ?_
      refine iterLoop (fun v acc s Q h => ?_) ls #[] ⟨hp, g, d, tk, os⟩ _ ht fun h' a b c => ?_
      · refine wpAny_bind (wpAny_holding ?_)
        exact wpAny_mono h (fun x s' hx => wpAny_pure hx) fun _ _ h => h
      · refine wpAny_pure ?_
        simpa using q h' a b c
    have lenI : (its (mkRows hp.objs.size ls)).length ≤ 8 := by
      unfold its
      rw [List.length_map, mkRows_len]
      exact hl
    have sz1 : (its (mkRows hp.objs.size ls)).length ≤ sizeLine := by rw [sizeLine_eq]; omega
    have sz2 : ((its (mkRows hp.objs.size ls)).map fun _ => Value.none).length ≤ sizeLine := by rw [List.length_map]; exact sz1
    wp_walk using q1
    intro h' a b c
    refine wpAny_bind (wpAny_newTuple ?_ sz1)
    refine wpAny_bind (wpAny_newTuple ?_ sz2)
    refine wpAny_bind ?_
    unfold Builtin.SmallTypes.newRecord
    dsimp only
    refine wpAny_newObj_type ?_ (Nat.le_trans (show _ ≤ 5 from Nat.le_refl 5) (by rw [sizeLine_eq]; decide))
    refine wpAny_pure ⟨_, rfl, ?_⟩
    exact h h' a b c
structure Ready (h : Heap) (z TI TO : Addr) (rs : List Row) : Prop where
  z : IsZip h z TI TO .none
  ti : h.get? TI = some { cls := .type "tuple", data := .seq (its rs).toArray }
  to : h.get? TO = some { cls := .type "tuple", data := .seq ((its rs).map fun _ => Value.none).toArray }
  at0 : At h rs 0
section
variable {prog : Program} {w : World} {A : Around} {E : Value → Shared → Prop} {s : Shared}
theorem call_zip {ls : List (Addr × Array Value)} {Q : Value → Shared → Prop} (hl : ls.length ≤ 8) (ht : ∀ p ∈ ls, s.heap.IsTuple p.1 p.2) (hb : ∀ p ∈ ls, p.1 < s.heap.objs.size)
    (h : ∀ h' z TI TO, Ready h' z TI TO (mkRows s.heap.objs.size ls) → Apart z TI TO (mkRows s.heap.objs.size ls) → (∀ c o, s.heap.get? c = some o → h'.get? c = some o) → s.heap.objs.size ≤ h'.objs.size → s.heap.objs.size ≤ z → s.heap.objs.size ≤ TO → z < h'.objs.size → TO < h'.objs.size → (∀ r ∈ mkRows s.heap.objs.size ls, r.1 < h'.objs.size) → Q (.ref z) { s with heap := h' }) :
    wpAny (model prog w) A (call (.type "zip") (ls.map fun p => Value.ref p.1)) Q E s := by
  refine callType_new F.called_zip (by decide) (typeCall_zip _ (by simpa using hl)) (newCall_zip _ (by simpa using hl)) (fun obj => args_object_init obj _ ?_) F.entry_zip_new (meets_new ls hl) ⟨ht, fun h' a b c => ?_⟩
  · simpa using hl
  have z1 : (h'.push { cls := .type "tuple", data := .seq (its (mkRows s.heap.objs.size ls)).toArray }).objs.size = h'.objs.size + 1 := Heap.size_push ..
  have z2 : ((h'.push { cls := .type "tuple", data := .seq (its (mkRows s.heap.objs.size ls)).toArray }).push { cls := .type "tuple", data := .seq ((its (mkRows s.heap.objs.size ls)).map fun _ => Value.none).toArray }).objs.size = h'.objs.size + 2 := by rw [Heap.size_push, z1]
  have zz : (((h'.push { cls := .type "tuple", data := .seq (its (mkRows s.heap.objs.size ls)).toArray }).push { cls := .type "tuple", data := .seq ((its (mkRows s.heap.objs.size ls)).map fun _ => Value.none).toArray }).push { cls := .type "zip", data := .fields #[.none, .bool false, .bool false, .ref h'.objs.size, .ref (h'.push { cls := .type "tuple", data := .seq (its (mkRows s.heap.objs.size ls)).toArray }).objs.size] }).objs.size = h'.objs.size + 3 := by rw [Heap.size_push, z2]
  refine ⟨⟨_, Heap.get?_push_size _ rfl, rfl⟩, ?_⟩
  have kp : ∀ c' o, h'.get? c' = some o → (((h'.push { cls := .type "tuple", data := .seq (its (mkRows s.heap.objs.size ls)).toArray }).push { cls := .type "tuple", data := .seq ((its (mkRows s.heap.objs.size ls)).map fun _ => Value.none).toArray }).push { cls := .type "zip", data := .fields #[.none, .bool false, .bool false, .ref h'.objs.size, .ref (h'.push { cls := .type "tuple", data := .seq (its (mkRows s.heap.objs.size ls)).toArray }).objs.size] }).get? c' = some o :=
    fun c' o e => Heap.get?_push_of_some _ (Heap.get?_push_of_some _ (Heap.get?_push_of_some _ e))
  have gz := Heap.get?_push_size ((h'.push { cls := .type "tuple", data := .seq (its (mkRows s.heap.objs.size ls)).toArray }).push { cls := .type "tuple", data := .seq ((its (mkRows s.heap.objs.size ls)).map fun _ => Value.none).toArray }) (o := { cls := .type "zip", data := .fields #[.none, .bool false, .bool false, .ref h'.objs.size, .ref (h'.push { cls := .type "tuple", data := .seq (its (mkRows s.heap.objs.size ls)).toArray }).objs.size] }) rfl
  have gO := Heap.get?_push_of_some { cls := .type "zip", data := .fields #[.none, .bool false, .bool false, .ref h'.objs.size, .ref (h'.push { cls := .type "tuple", data := .seq (its (mkRows s.heap.objs.size ls)).toArray }).objs.size] } (Heap.get?_push_size (h'.push { cls := .type "tuple", data := .seq (its (mkRows s.heap.objs.size ls)).toArray }) (o := { cls := .type "tuple", data := .seq ((its (mkRows s.heap.objs.size ls)).map fun _ => Value.none).toArray }) rfl)
  have gT := Heap.get?_push_of_some { cls := .type "zip", data := .fields #[.none, .bool false, .bool false, .ref h'.objs.size, .ref (h'.push { cls := .type "tuple", data := .seq (its (mkRows s.heap.objs.size ls)).toArray }).objs.size] } (Heap.get?_push_of_some { cls := .type "tuple", data := .seq ((its (mkRows s.heap.objs.size ls)).map fun _ => Value.none).toArray } (Heap.get?_push_size h' (o := { cls := .type "tuple", data := .seq (its (mkRows s.heap.objs.size ls)).toArray }) rfl))
  refine h _ _ h'.objs.size (h'.push { cls := .type "tuple", data := .seq (its (mkRows s.heap.objs.size ls)).toArray }).objs.size ⟨gz, gT, gO, fun r hr => ⟨(a r hr).1.at fun o e => kp _ o e, (a r hr).2.at fun o e => kp _ o e⟩⟩ ?_ (fun c' o e => kp c' o (c c' o e)) ?_ ?_ ?_ ?_ ?_ ?_
  · have lt : ∀ r ∈ mkRows s.heap.objs.size ls, Nat.lt r.1 h'.objs.size := fun r hr => by rw [b]; exact (mkRows_mem hr).2.1
    have l2 : ∀ r ∈ mkRows s.heap.objs.size ls, Nat.lt r.2.1 s.heap.objs.size := fun r hr => hb _ (mkRows_mem hr).2.2
    have n1 : ∀ {x y : Nat}, Nat.lt x y → x ≠ y := fun h e => by rw [e] at h; exact Nat.lt_irrefl _ h
    have bb : Nat.le s.heap.objs.size h'.objs.size := by rw [b]; exact Nat.le_add_right _ _
    refine ⟨?_, ?_, ?_, fun r hr => ⟨?_, ?_, ?_⟩, fun r hr => ⟨?_, ?_, fun q hq => ?_⟩, mkRows_nodup⟩
    · rw [z2]; exact n1 (Nat.lt_add_of_pos_right (by decide))
    · rw [z2, z1]; exact n1 (Nat.lt_succ_self _)
    · rw [z1]; exact n1 (Nat.lt_succ_self _)
    · rw [z2]; exact n1 (Nat.lt_of_lt_of_le (lt r hr) (Nat.le_add_right _ _))
    · exact n1 (lt r hr)
    · rw [z1]; exact n1 (Nat.lt_of_lt_of_le (lt r hr) (Nat.le_add_right _ _))
    · rw [z2]; exact n1 (Nat.lt_of_lt_of_le (l2 r hr) (Nat.le_trans bb (Nat.le_add_right _ _)))
    · rw [z1]; exact n1 (Nat.lt_of_lt_of_le (l2 r hr) (Nat.le_trans bb (Nat.le_add_right _ _)))
    · exact n1 (Nat.lt_of_lt_of_le (l2 r hr) (mkRows_mem hq).1)
  · exact Nat.le_trans (le_of_le_of_eq (Nat.le_add_right _ ls.length) b.symm) (le_of_le_of_eq (Nat.le_add_right _ 3) zz.symm)
  · exact le_of_le_of_eq (Nat.le_trans (le_of_le_of_eq (Nat.le_add_right _ ls.length) b.symm) (Nat.le_add_right _ 2)) z2.symm
  · exact le_of_le_of_eq (Nat.le_trans (le_of_le_of_eq (Nat.le_add_right _ ls.length) b.symm) (Nat.le_add_right _ 1)) z1.symm
  · exact Nat.lt_of_lt_of_eq (Nat.lt_of_le_of_lt (Nat.le_of_eq z2) (Nat.lt_succ_self _)) zz.symm
  · exact Nat.lt_of_lt_of_eq (Nat.lt_of_le_of_lt (Nat.le_of_eq z1) (Nat.lt_succ_of_lt (Nat.lt_succ_self _))) zz.symm
  · intro r hr
    exact Nat.lt_of_lt_of_le (Nat.lt_of_lt_of_eq (mkRows_mem hr).2.1 b.symm) (le_of_le_of_eq (Nat.le_add_right _ 3) zz.symm)
end
end ZN
end L2
namespace L2
open PySem PySem.Spec PyProof.Rows
namespace ZN
theorem nolen_zip : typeLookup (.type "zip") "__len__" = pure none := by rw [typeLookup_type, builtinLookup_eq_fast]; kernel_rfl
theorem nohint_zip : typeLookup (.type "zip") "__length_hint__" = pure none := by rw [typeLookup_type, builtinLookup_eq_fast]; kernel_rfl
section
variable {prog : Program} {w : World} {A : Around} {E : Value → Shared → Prop} {s : Shared}
/-- between two turns of tuple(zip(..)) -/
structure Mid (h : Heap) (z TI TO S : Addr) (rs : List Row) (i : Nat) : Prop where
  ti : h.get? TI = some { cls := .type "tuple", data := .seq (its rs).toArray }
  at_ : At h rs i
  st : (i = 0 ∧ IsZip h z TI TO .none ∧ h.get? TO = some { cls := .type "tuple", data := .seq ((its rs).map fun _ => Value.none).toArray }) ∨ ∃ T b oT, PySem.IsZipHeld h z TI TO T b ∧ h.get? T = some oT ∧ T ≠ z ∧ T ≠ S ∧ ∀ r ∈ rs, T ≠ r.1
/-- what is told in a list of new tuples -/
def Told (h : Heap) (lo : Nat) (cols : Nat → List Value) (ts : List Addr) : Prop := ts.Nodup ∧ ∀ (j : Nat) (t : Addr), ts[j]? = some t → Nat.le lo t ∧ h.get? t = some { cls := .type "tuple", data := .seq (cols j).toArray }
theorem loopZ {z TI TO S : Addr} {rs : List Row} (D : Apart z TI TO rs) (hne : rs ≠ []) (hn : rs.length ≤ 1000) (hh : A.handled = none) (hS : S ≠ z ∧ S ≠ TI ∧ S ≠ TO ∧ ∀ r ∈ rs, S ≠ r.1 ∧ S ≠ r.2.1) {m : Nat} (cols : Nat → List Value) (hc : ∀ i, (cols i).length = rs.length)
    (hx : ∀ (i j : Nat) (r : Row) (x : Value), i < m → rs[j]? = some r → (cols i)[j]? = some x → r.2.2[i]? = some x) (hend : ∀ r ∈ rs, r.2.2[m]? = none) (hm0 : 0 < m) (hm : m ≤ 10000) (res : Value) (lo : Nat) {R : Result → Shared → Prop} :
    ∀ (k i : Nat) (s : Shared) (ts : List Addr) (c : Nat), m - i = k → i ≤ m → Mid s.heap z TI TO S rs i → Told s.heap lo cols ts → ts.length = i → (∀ t ∈ ts, t ≠ z ∧ t ≠ TO ∧ t ≠ S ∧ (∀ r ∈ rs, t ≠ r.1) ∧ Nat.lt t s.heap.objs.size) → Nat.le lo s.heap.objs.size → Nat.lt z s.heap.objs.size → Nat.lt TO s.heap.objs.size → Nat.lt S s.heap.objs.size → (∀ r ∈ rs, Nat.lt r.1 s.heap.objs.size) →
      s.heap.get? S = some { cls := .type "list", dict := none, data := .seq (ts.map Value.ref).toArray c, slots := #[] } →
      (∀ h' ts' c', (∀ c o, c ≠ S → c ≠ z → c ≠ TO → (∀ r ∈ rs, c ≠ r.1) → s.heap.get? c = some o → h'.get? c = some o) → h'.get? S = some { cls := .type "list", dict := none, data := .seq (ts'.map Value.ref).toArray c', slots := #[] } → ts'.length = m → Told h' lo cols ts' → R (.ok (.ret res)) { s with heap := h' }) →
      codeAny (model prog w) A (.builtin "list.extend.loop" ⟨[.ref S, .ref z, res], []⟩) R s := by
  intro k
  induction k with
  | zero =>
    intro i s ts c hk hi M hT hl hts hlo hz hTO hSl hrs hL hR
    obtain rfl : i = m := by omega
    refine codeAny_builtin F.entry_extend_loop ?_
    rw [Around.under_plainId F.plain_extend_loop _]
    show wpAny _ A.in1 (pyNext (.ref z) >>= _) _ _ s
    obtain ⟨r, rs', rfl⟩ : ∃ r rs', rs = r :: rs' := by
      cases rs with
      | nil => exact absurd rfl hne
      | cons r rs' => exact ⟨r, rs', rfl⟩
    rcases M.st with ⟨e, _⟩ | ⟨T, b, oT, hz1, hT1, _⟩
    · omega
    · refine wpAny_bind (pyNext_end (A := A.in1) hh D hz1 hT1 M.ti M.at_ (hend r List.mem_cons_self) fun h' kp => ?_)
      refine wpAny_pure (hR h' ts c (fun c' o h1 h2 _ h4 e => kp c' o h2 (h4 r List.mem_cons_self) e) (kp S _ hS.1 (hS.2.2.2 r List.mem_cons_self).1 hL) hl ⟨hT.1, fun j t ht => ⟨(hT.2 j t ht).1, ?_⟩⟩)
      have tm := hts t (List.mem_of_getElem? ht)
      exact kp t _ tm.1 (tm.2.2.2.1 r List.mem_cons_self) (hT.2 j t ht).2
  | succ k ih =>
    intro i s ts c hk hi M hT hl hts hlo hz hTO hSl hrs hL hR
    have hlt : i < m := by omega
    refine codeAny_builtin F.entry_extend_loop ?_
    rw [Around.under_plainId F.plain_extend_loop _]
    show wpAny _ A.in1 (pyNext (.ref z) >>= _) _ _ s
    -- one turn
    have turn : ∀ (Q : Option Value → Shared → Prop), (∀ h' T, T = s.heap.objs.size → (∃ b oT, PySem.IsZipHeld h' z TI TO T b ∧ h'.get? T = some oT ∧ T ≠ z ∧ T ≠ S ∧ ∀ r ∈ rs, T ≠ r.1) ∨ (∃ T' b oT, PySem.IsZipHeld h' z TI TO T' b ∧ h'.get? T' = some oT ∧ T' ≠ z ∧ T' ≠ S ∧ ∀ r ∈ rs, T' ≠ r.1) → At h' rs (i + 1) → h'.get? T = some { cls := .type "tuple", data := .seq (cols i).toArray } → h'.objs.size = s.heap.objs.size + 1 →
        (∀ c o, c ≠ z → c ≠ TO → (∀ r ∈ rs, c ≠ r.1) → s.heap.get? c = some o → h'.get? c = some o) → Q (some (.ref T)) { s with heap := h' }) → wpAny (model prog w) A.in1 (pyNext (.ref z)) Q (fun e s' => R (.error e) s') s := fun Q q => by
      have nz : s.heap.objs.size ≠ z := fun e => by rw [← e] at hz; exact Nat.lt_irrefl _ hz
      have nS : s.heap.objs.size ≠ S := fun e => by rw [← e] at hSl; exact Nat.lt_irrefl _ hSl
      have nr : ∀ r ∈ rs, s.heap.objs.size ≠ r.1 := fun r hr e => by have := hrs r hr; rw [← e] at this; exact Nat.lt_irrefl _ this
      rcases M.st with ⟨e, hz1, hTO1⟩ | ⟨T, b, oT, hz1, hT1, t1, t2, t3⟩
      · refine pyNext_first D hz1 M.ti hTO1 (by simp [its]) hn hne M.at_ (hc i).symm (fun j r x a b => hx i j r x hlt a b) fun h' a1 a2 a3 a4 a5 => ?_
        exact q h' _ rfl (.inl ⟨_, _, a1, a3, nz, nS, nr⟩) a2 a3 a4 a5
      · refine pyNext_held D hz1 hT1 M.ti hne M.at_ (hc i).symm (fun j r x a b => hx i j r x hlt a b) (by rw [hc i, sizeLine_eq]; omega) fun h' a1 a2 a3 a4 a5 => ?_
        exact q h' _ rfl (.inr ⟨T, _, oT, a1, a5 T _ t1 t3 hT1, t1, t2, t3⟩) a2 a3 a4 fun c o c1 _ c3 e => a5 c o c1 c3 e
    refine wpAny_bind (turn _ fun h' T eT hst a2 a3 a4 a5 => ?_)
    subst eT
    have hS' : h'.get? S = some { cls := .type "list", dict := none, data := .seq (ts.map Value.ref).toArray c, slots := #[] } := a5 S _ hS.1 hS.2.2.1 (fun r hr => (hS.2.2.2 r hr).1) hL
    show wpAny _ A.in1 (updateSeq S (·.push (.ref s.heap.objs.size)) >>= _) _ _ _
    refine wpAny_bind ?_
    have szA : (ts.map Value.ref).toArray.size = i := by simp [hl]
    refine wpAny_updateSeq hS' rfl (wpAny_pure ⟨plainId_quiet F.plain_extend_loop _, ?_⟩) (by rw [szA, sizeLine_eq]; omega) (by rw [Array.size_push, szA, sizeLine_eq]; omega)
    have nS : ∀ {c : Addr}, c ≠ S → (h'.update S (Obj.mapSeq (·.push (.ref s.heap.objs.size)))).get? c = h'.get? c := fun h => Heap.get?_update_other _ _ (Ne.symm h)
    have tS : s.heap.objs.size ≠ S := fun e => by rw [← e] at hSl; exact Nat.lt_irrefl _ hSl
    have tz : s.heap.objs.size ≠ z := fun e => by rw [← e] at hz; exact Nat.lt_irrefl _ hz
    have tO : s.heap.objs.size ≠ TO := fun e => by rw [← e] at hTO; exact Nat.lt_irrefl _ hTO
    have nr : ∀ r ∈ rs, s.heap.objs.size ≠ r.1 := fun r hr e => by have := hrs r hr; rw [← e] at this; exact Nat.lt_irrefl _ this
    have sz' : (h'.update S (Obj.mapSeq (·.push (.ref s.heap.objs.size)))).objs.size = s.heap.objs.size + 1 := by rw [← a4]; exact (Heap.SameBut.update ..).1
    have up : ∀ {a : Nat}, Nat.lt a s.heap.objs.size → Nat.lt a (h'.update S (Obj.mapSeq (·.push (.ref s.heap.objs.size)))).objs.size := fun h => by rw [sz']; exact Nat.lt_succ_of_lt h
    refine ih (i + 1) { s with heap := h'.update S (Obj.mapSeq (·.push (.ref s.heap.objs.size))) } (ts ++ [s.heap.objs.size]) (c + 1) (by omega) hlt ⟨?_, ?_, ?_⟩ ⟨?_, ?_⟩ (by simp [hl]) ?_ ?_ (up hz) (up hTO) (up hSl) (fun r hr => up (hrs r hr)) ?_ ?_
    · rw [nS hS.2.1.symm]
      exact a5 TI _ D.zTI D.TITO (fun r hr => (D.it r hr).2.1.symm) M.ti
    · exact fun r hr => ⟨(a2 r hr).1.at fun o e => by rw [nS (hS.2.2.2 r hr).1.symm]; exact e, (a2 r hr).2.at fun o e => by rw [nS (hS.2.2.2 r hr).2.symm]; exact e⟩
    · rcases hst with ⟨b, oT, h1, h2, h3, h4, h5⟩ | ⟨T', b, oT, h1, h2, h3, h4, h5⟩
      · exact .inr ⟨_, b, oT, by show Heap.get? _ z = _; rw [nS hS.1.symm]; exact h1, by show Heap.get? _ _ = _; rw [nS h4]; exact h2, h3, h4, h5⟩
      · exact .inr ⟨T', b, oT, by show Heap.get? _ z = _; rw [nS hS.1.symm]; exact h1, by show Heap.get? _ _ = _; rw [nS h4]; exact h2, h3, h4, h5⟩
    · rw [List.nodup_append]
      refine ⟨hT.1, by simp, fun a ha b hb e => ?_⟩
      rw [List.mem_singleton.mp hb] at e
      have := (hts a ha).2.2.2.2
      rw [e] at this
      exact Nat.lt_irrefl _ this
    · intro j t ht
      by_cases hj : j < ts.length
      · rw [List.getElem?_append_left hj] at ht
        have tm := hts t (List.mem_of_getElem? ht)
        refine ⟨(hT.2 j t ht).1, ?_⟩
        show Heap.get? _ t = _
        rw [nS tm.2.2.1]
        exact a5 t _ tm.1 tm.2.1 tm.2.2.2.1 (hT.2 j t ht).2
      · rw [List.getElem?_append_right (by omega)] at ht
        obtain ⟨rfl, e⟩ : j = i ∧ s.heap.objs.size = t := by
          cases hd : j - ts.length with
          | zero => rw [hd] at ht; exact ⟨by omega, by simpa using ht⟩
          | succ n => rw [hd] at ht; simp at ht
        subst e
        refine ⟨hlo, ?_⟩
        show Heap.get? _ _ = _
        rw [nS tS]
        exact a3
    · intro t ht
      rcases List.mem_append.mp ht with ht | ht
      · have tm := hts t ht
        exact ⟨tm.1, tm.2.1, tm.2.2.1, tm.2.2.2.1, up tm.2.2.2.2⟩
      · rw [List.mem_singleton.mp ht]
        refine ⟨tz, tO, tS, nr, ?_⟩
        show Nat.lt _ (Heap.objs _).size
        rw [sz']
        exact Nat.lt_succ_self _
    · show Nat.le lo (Heap.objs _).size
      rw [sz']
      exact Nat.le_succ_of_le hlo
    · have := Heap.get?_update_self (Obj.mapSeq (·.push (.ref s.heap.objs.size))) hS' rfl
      simpa [Obj.mapSeq] using this
    · intro h'' ts' c' kp g1 g2 g3
      exact hR h'' ts' c' (fun c o h1 h2 h3 h4 e => kp c o h1 h2 h3 h4 (by show Heap.get? _ c = _; rw [nS h1]; exact a5 c o h2 h3 h4 e)) g1 g2 g3
/-- tuple(zip(t1, .., tn)) -/
theorem collect_zip {z TI TO : Addr} {rs : List Row} (Rd : Ready s.heap z TI TO rs) (D : Apart z TI TO rs) (hne : rs ≠ []) (hn : rs.length ≤ 1000) (hh : A.handled = none) {m : Nat} (cols : Nat → List Value) (hc : ∀ i, (cols i).length = rs.length)
    (hx : ∀ (i j : Nat) (r : Row) (x : Value), i < m → rs[j]? = some r → (cols i)[j]? = some x → r.2.2[i]? = some x) (hend : ∀ r ∈ rs, r.2.2[m]? = none) (hm0 : 0 < m) (hm : m ≤ 10000) (hz : Nat.lt z s.heap.objs.size) (hTO : Nat.lt TO s.heap.objs.size) (hrs : ∀ r ∈ rs, Nat.lt r.1 s.heap.objs.size) {Q : List Value → Shared → Prop}
    (hQ : ∀ h' ts, (∀ c o, c ≠ z → c ≠ TO → (∀ r ∈ rs, c ≠ r.1) → s.heap.get? c = some o → h'.get? c = some o) → ts.length = m → Told h' s.heap.objs.size cols ts → Q (ts.map Value.ref) { s with heap := h' }) : wpAny (model prog w) A (collect (.ref z)) Q E s := by
  unfold collect
  refine wpAny_bind (wpAny_runValue (codeAny_builtin F.entry_proto_collect ?_))
  rw [Around.under_plainId F.plain_proto_collect _]
  show wpAny _ A.in1 (newList [] >>= fun l => again (.builtin "list.__iadd__" ⟨[l, .ref z], []⟩)) _ _ s
  refine wpAny_bind (wpAny_newObj_type ?_)
  refine wpAny_pure ⟨plainId_quiet F.plain_list_iadd _, codeAny_builtin F.entry_list_iadd ?_⟩
  rw [Around.under_plainId F.plain_list_iadd _]
  show wpAny _ A.in1 (Builtin.List.listExtendWith (.ref s.heap.objs.size) (.ref z) (.ref s.heap.objs.size)) _ _ _
  have hS : (s.heap.push { cls := .type "list", data := .seq ([] : List Value).toArray }).get? s.heap.objs.size = some { cls := .type "list", data := .seq #[] 0 } := Heap.get?_push_size _ rfl
  have sp : (s.heap.push { cls := .type "list", data := .seq ([] : List Value).toArray }).objs.size = s.heap.objs.size + 1 := Heap.size_push ..
  have kp0 : ∀ c o, s.heap.get? c = some o → (s.heap.push { cls := .type "list", data := .seq ([] : List Value).toArray }).get? c = some o := fun c o e => Heap.get?_push_of_some _ e
  have hT : ({ s with heap := s.heap.push { cls := .type "list", data := .seq ([] : List Value).toArray } } : Shared).TypeIs (.ref z) "zip" := ⟨_, kp0 _ _ Rd.z, rfl⟩
  have nSz : s.heap.objs.size ≠ z := fun e => by rw [← e] at hz; exact Nat.lt_irrefl _ hz
  have h1 : Builtin.List.listSameRef (.ref s.heap.objs.size) (.ref z) = false := by simp [Builtin.List.listSameRef, nSz]
  unfold Builtin.List.listExtendWith
  refine wpAny_bind (wpAny_typeOf hT ?_)
  rw [if_neg (by rw [h1]; decide)]
  refine wpAny_bind (wpAny_pyIter_zip (s := { s with heap := s.heap.push { cls := .type "list", data := .seq ([] : List Value).toArray } }) (kp0 _ _ Rd.z) ?_)
  refine wpAny_bind (wpAny_holding ?_)
  unfold Builtin.List.listLengthHint
  refine wpAny_bind (wpAny_specialOf hT nolen_zip ?_)
  show wpAny _ A.in1 (specialOf (Value.ref z) (Str.ofString "__length_hint__") >>= _) _ _ _
  refine wpAny_bind (wpAny_specialOf hT nohint_zip ?_)
  refine wpAny_pure ?_
  rw [if_pos (by decide)]
  refine wpAny_bind (wpAny_rule ?_)
  refine wpAny_bind ?_
  show wpAny _ _ (updateSeq s.heap.objs.size (·.push .none) >>= fun _ => updateSeq s.heap.objs.size (·.pop)) _ _ _
  refine wpAny_bind (wpAny_updateSeq hS rfl ?_)
  have hS2 := Heap.get?_update_self (Obj.mapSeq (·.push Value.none)) hS rfl
  refine wpAny_updateSeq (hz := by seq_fits) hS2 rfl ?_
  have hS3 := Heap.get?_update_self (Obj.mapSeq (·.pop)) hS2 rfl
  refine wpAny_pure ⟨plainId_quiet F.plain_extend_loop _, ?_⟩
  generalize hh2 : ((s.heap.push { cls := .type "list", data := .seq ([] : List Value).toArray }).update s.heap.objs.size (Obj.mapSeq (·.push Value.none))).update s.heap.objs.size (Obj.mapSeq (·.pop)) = h2 at hS3 ⊢
  have lS : ∀ {a : Addr} {o : Obj}, s.heap.get? a = some o → s.heap.objs.size ≠ a := fun e z => by
    have := Heap.lt_size e
    rw [← z] at this
    exact Nat.lt_irrefl _ this
  have kp2 : ∀ c o, s.heap.get? c = some o → h2.get? c = some o := fun c o e => by
    rw [← hh2, Heap.get?_update_other _ _ (lS e), Heap.get?_update_other _ _ (lS e)]
    exact kp0 c o e
  have sp2 : h2.objs.size = s.heap.objs.size + 1 := by rw [← hh2, (Heap.SameBut.update ..).1, (Heap.SameBut.update ..).1]; exact sp
  refine loopZ (A := A) (S := s.heap.objs.size) (lo := s.heap.objs.size) D hne hn hh ⟨nSz, lS Rd.ti, lS Rd.to, fun r hr => ⟨?_, ?_⟩⟩ cols hc hx hend hm0 hm _ m 0 { s with heap := h2 } [] _ rfl (Nat.zero_le _) ⟨kp2 _ _ Rd.ti, fun r hr => ⟨(Rd.at0 r hr).1.at fun o e => kp2 _ o e, (Rd.at0 r hr).2.at fun o e => kp2 _ o e⟩, .inl ⟨rfl, kp2 _ _ Rd.z, kp2 _ _ Rd.to⟩⟩ ⟨by simp, fun j t h => by simp at h⟩ rfl (fun _ h => nomatch h) ?_ ?_ ?_ ?_ ?_ hS3 fun h' ts c kp hL hl hT => ?_
  · obtain ⟨o, ho, _⟩ := (Rd.at0 r hr).1
    exact lS ho
  · obtain ⟨o, ho, _⟩ := (Rd.at0 r hr).2
    exact lS ho
  · show Nat.le _ (Heap.objs _).size
    rw [sp2]; exact Nat.le_succ _
  · show Nat.lt _ (Heap.objs _).size
    rw [sp2]; exact Nat.lt_succ_of_lt hz
  · show Nat.lt _ (Heap.objs _).size
    rw [sp2]; exact Nat.lt_succ_of_lt hTO
  · show Nat.lt _ (Heap.objs _).size
    rw [sp2]; exact Nat.lt_succ_self _
  · intro r hr
    show Nat.lt _ (Heap.objs _).size
    rw [sp2]; exact Nat.lt_succ_of_lt (hrs r hr)
  · show wpAny _ A (load s.heap.objs.size >>= _) _ _ _
    refine wpAny_bind (wpAny_load hL ?_)
    refine wpAny_pure ?_
    have := hQ h' ts (fun c o h1 h2 h3 e => kp c o (lS e).symm h1 h2 h3 (kp2 _ _ e)) hl hT
    simpa using this
theorem call_tuple_zip {z TI TO : Addr} {rs : List Row} (Rd : Ready s.heap z TI TO rs) (D : Apart z TI TO rs) (hne : rs ≠ []) (hn : rs.length ≤ 1000) (hh : A.handled = none) {m : Nat} (cols : Nat → List Value) (hc : ∀ i, (cols i).length = rs.length)
    (hx : ∀ (i j : Nat) (r : Row) (x : Value), i < m → rs[j]? = some r → (cols i)[j]? = some x → r.2.2[i]? = some x) (hend : ∀ r ∈ rs, r.2.2[m]? = none) (hm0 : 0 < m) (hm : m ≤ 10000) (hz : Nat.lt z s.heap.objs.size) (hTO : Nat.lt TO s.heap.objs.size) (hrs : ∀ r ∈ rs, Nat.lt r.1 s.heap.objs.size) {Q : Value → Shared → Prop}
    (hQ : ∀ h' ts, (∀ c o, c ≠ z → c ≠ TO → (∀ r ∈ rs, c ≠ r.1) → s.heap.get? c = some o → h'.get? c = some o) → ts.length = m → Told h' s.heap.objs.size cols ts → Q (.ref h'.objs.size) { s with heap := h'.push { cls := .type "tuple", data := .seq (ts.map Value.ref).toArray } }) : wpAny (model prog w) A (call (.type "tuple") [.ref z]) Q E s := by
  refine callType_codes (Q₁ := fun obj s₁ => s₁.TypeIs obj "tuple" ∧ Q obj s₁) F.called_tuple (F.typeCall_tuple_1 _) F.entry_object_init ?_ fun obj s₁ h₁ => ?_
  · refine codeAny_of_tree ?_
    show wpAny _ A.in1.in1 (do checkBuiltinCall "tuple.__new__" ⟨[.type "tuple", .ref z], []⟩; again (.builtin "tuple.__new__" ⟨[.type "tuple", .ref z], []⟩)) _ _ s
    refine wpAny_bind (wpAny_of_eq (F.newCall_tuple_1 _) (wpAny_pure ⟨plainId_quiet F.plain_tuple_new _, codeAny_builtin F.entry_tuple_new ?_⟩))
    rw [Around.under_plainId F.plain_tuple_new _]
    have hsub := sub_tuple_self
    have hinit := init_tuple_lookup
    have hmh := madeHere_tuple
    have hTI : s.TypeIs (.ref z) "zip" := ⟨_, Rd.z, rfl⟩
    have hh1 : A.in1.in1.handled = none := hh
    wp_walk using wpAny_typeOf hTI, collect_zip (A := A.in1.in1) Rd D hne hn hh1 cols hc hx hend hm0 hm hz hTO hrs
    intro h' ts kp hl hT
    show wpAny _ _ (Builtin.Tuple.tupleExact (ts.map Value.ref).toArray >>= fun v => ret v) _ _ _
    unfold Builtin.Tuple.tupleExact
    refine wpAny_bind (wpAny_newObj_type ?_ (by show ((ts.map Value.ref).toArray).size ≤ sizeLine; rw [List.size_toArray, List.length_map, hl, sizeLine_eq]; omega))
    exact wpAny_pure ⟨⟨_, Heap.get?_push_size _ rfl, rfl⟩, hQ h' ts kp hl hT⟩
  · exact ⟨h₁.1, F.args_object_init_2 obj _, object_init_meets F.called_tuple.init.lookup F.called_tuple.made (by decide) prog w A.in1 _ s₁ ⟨h₁.1, rfl, h₁.2⟩⟩
end
end ZN
end L2
namespace L2
open PySem PySem.Spec PyProof.Rows
namespace ZN
/-- T(*y), T a built-in class -/
theorem callWith_TS {M : Model} {A : Around} {E : Value → Shared → Prop} {s : Shared} {env : Env} {pos p : Pos} {T : String} {Q : Value → Shared → Prop} {e : Expr}
    (h : wpAny M A (eval e env) (fun v s₁ => PySem.W.StarOf M A E v (fun vs s₂ => wpAny M A (call (.type T) vs) Q E s₂) s₁) E s) (he : starEach [.Starred e p] env = [(true, eval e env)] := by rfl) :
    wpAny M A (callWith pos (.type T) [] (backTo pos (starEach [.Starred e p] env)) []) Q E s := by
  rw [he]
  unfold callWith
  refine wpAny_bind (wpAny_holding (wpAny_mono (PySem.W.ks_lone (Q := fun a s₁ => wpAny M A (call (.type T) ([] ++ a.pos) a.kw) Q E s₁) h) (fun a s₁ h₁ => wpAny_bind (wpAny_standAt ?_)) fun _ _ x => x))
  have e1 : (backTo pos [(true, eval e env)]).any (·.1) = true := rfl
  simp only [e1, List.any_nil, Bool.or_false]
  refine wpAny_bind (wpAny_pure ?_)
  exact wpAny_bind (wpAny_operateT (wpAny_mono h₁ (fun r s₂ hr => wpAny_bind (wpAny_holding (wpAny_point (wpAny_pure hr)))) fun _ _ x => x))
theorem idxOf_nd : ∀ {ts : List Addr} {j : Nat} (_ : ts.Nodup) (hj : j < ts.length), ts.idxOf ts[j] = j
  | [], j, _, hj => by simp at hj
  | y :: ys, 0, _, _ => by simp
  | y :: ys, j + 1, nd, hj => by
    have hj' : j < ys.length := by simpa using hj
    rw [List.getElem_cons_succ, List.idxOf_cons]
    have : (y == ys[j]) = false := by
      rw [beq_eq_false_iff_ne]
      exact fun z => (List.nodup_cons.mp nd).1 (by rw [z]; exact List.getElem_mem hj')
    rw [this]
    simp only [cond_false]
    rw [idxOf_nd (List.nodup_cons.mp nd).2 hj']
end ZN
section
variable {X : Cx} {pins : List (Addr × Obj)} {σ : L2.St} {H H2 : Hp} {s : Shared} {h' : Heap}
/-- several new objects laid at once -/
theorem Inv.more {t' : Nat} (I : Inv X pins σ H s) (k : ∀ b u, s.heap.get? b = some u → h'.get? b = some u) (ex : ∀ b o, H b = some o → H2 b = some o) (nw : ∀ b, H2 b ≠ H b → Nat.le s.heap.objs.size b) (ok : ∀ b o, H2 b = some o → H b = none → ObjOk X.prog X.w H2 h' b o) :
    Inv X pins σ H2 { s with heap := h', toks := t' } := I.un (Un.mk (fun b u q _ _ _ => k b u q) (fun b u q _ _ _ => ⟨u.slots, k b u q⟩) (fun b u q n _ => by
      by_cases e : H2 b = H b
      · rw [e]; exact n
      · exact absurd (Nat.lt_of_lt_of_le (Heap.lt_size q) (nw b e)) (Nat.lt_irrefl _)) (fun b u q _ => ⟨u, k b u q⟩) (fun b xs q => ex b _ q) (fun b o u q => ex b _ q) (fun b ps q => ⟨#[], by rw [ex b _ q]; simp⟩))
    (fun b o e => by
      cases hb : H b with
      | none => exact ok b o e hb
      | some u =>
        have := ex b u hb
        rw [this] at e
        cases e
        exact (I.hok b o hb).stay (fun c v _ q => k c v q) (fun c q => ex c _ q) fun c xs q => ex c _ q)
end
/-- tuple(zip(*t)) of tuples all alike in length -/
def tTZ (K : PySem.W.Frag) (te : TE) : TE := fun σ H Q => te σ H fun x H1 => ∃ (a : Addr) (ls : List Addr) (xss : List (List V)) (m : Nat), x = .ref a ∧ SqT K H1 a (ls.map V.ref) ∧ ls.length = xss.length ∧ (∀ (j : Nat) (l : Addr) (xs : List V), ls[j]? = some l → xss[j]? = some xs → SqT K H1 l xs ∧ xs.length = m) ∧ xss ≠ [] ∧ xss.length ≤ 8 ∧ 0 < m ∧ m ≤ 10000 ∧
  ∀ (ts : List Addr) (q : Addr) (H2 : Hp), ts.length = m → (q :: ts).Nodup → (∀ t ∈ q :: ts, H1 t = none) → H2 q = some (.tup (ts.map V.ref)) → (∀ (j : Nat) (t : Addr), ts[j]? = some t → H2 t = some (.tup (xss.map fun xs => xs.getD j .non))) → (∀ b o, H1 b = some o → H2 b = some o) → Q (.ref q) H2
theorem pe_tz {X : Cx} {te : TE} {e : Expr} {p p2 p3 q pos : Pos} (hc : X.calm = true) (hg : Gl X "tuple") (hm : X.mg "tuple" = none) (hg2 : Gl X "zip") (hm2 : X.mg "zip" = none) (he : PE X e te)
    (na : starEach [.Call (.Name "zip" p2) [.Starred e p3] [] q] X.env = (false, eval (.Call (.Name "zip" p2) [.Starred e p3] [] q) X.env) :: starEach [] X.env := by rfl) (hst : starEach [.Starred e p3] X.env = [(true, eval e X.env)] := by rfl) :
    PE X (.Call (.Name "tuple" p) [.Call (.Name "zip" p2) [.Starred e p3] [] q] [] pos) (tTZ X.K te) := by
  refine ⟨fun pins s σ H Q I h => ?_⟩
  refine Call_ (ld_blt I hg hm boot_tuple (PyProof.Rows.callWith_type1 ?_ na))
  refine args_cons ?_ na
  refine Call_ (ld_blt I hg2 hm2 PyProof.Rows.boot_zip (ZN.callWith_TS (thn (he.run pins s σ H _ I h) fun v s1 ⟨x, H1, I1, r1, q1⟩ => ?_) hst))
  obtain ⟨a, ls, xss, m, ex, hs, hll, hrow, hne, hn8, hm0, hmm, hq⟩ := q1
  subst ex
  obtain rfl : v = .ref a := r1
  refine StX.star_any I1 (.inl hs) fun us s2 I2 rv => ?_
  -- the rows, as they stand
  have hus : us = ls.map Value.ref := by
    have : ∀ (ls : List Addr) (us : List Value), Vals (ls.map V.ref) us → us = ls.map Value.ref := fun ls => by
      induction ls with
      | nil => intro us r; cases r; rfl
      | cons l ls ih =>
        intro us r
        cases r with
        | cons r t =>
          rw [List.map_cons, ← ih _ t]
          exact congrArg (· :: _) r
    exact this ls us rv
  subst hus
  have rows : ∃ rs : List (Addr × Array Value), rs.map (fun p => Value.ref p.1) = ls.map Value.ref ∧ rs.length = xss.length ∧ ∀ (j : Nat) (p : Addr × Array Value) (xs : List V), rs[j]? = some p → xss[j]? = some xs → IsTup s2.heap p.1 p.2 ∧ Vals xs p.2.toList ∧ xs.length = m := by
    clear rv hs hne hn8 hq
    induction ls generalizing xss with
    | nil => exact ⟨[], rfl, hll, fun j p xs h => by simp at h⟩
    | cons l ls ih =>
      cases xss with
      | nil => cases hll
      | cons xs xss =>
        obtain ⟨rs, h1, h2, h3⟩ := ih xss (by simpa using hll) fun j l' xs' a b => hrow (j + 1) l' xs' a b
        obtain ⟨hs0, hl0⟩ := hrow 0 l xs rfl rfl
        obtain ⟨its, rv0, pl, hz⟩ := I2.tuple hs0
        refine ⟨(l, its.toArray) :: rs, by rw [List.map_cons, h1]; rfl, by simpa using h2, fun j p xs' a b => ?_⟩
        cases j with
        | zero =>
          simp only [List.getElem?_cons_zero, Option.some.injEq] at a b
          subst a b
          exact ⟨pl, by simpa using rv0, hl0⟩
        | succ j => exact h3 j p xs' (by simpa using a) (by simpa using b)
  obtain ⟨rs, h1, h2, h3⟩ := rows
  rw [← h1]
  have mem : ∀ p ∈ rs, IsTup s2.heap p.1 p.2 ∧ p.2.size = m := fun p hp => by
    obtain ⟨j, hj, e⟩ := List.getElem_of_mem hp
    have hj' : j < xss.length := by rw [← h2]; exact hj
    obtain ⟨a1, a2, a3⟩ := h3 j p xss[j] (by rw [← e]; exact List.getElem?_eq_getElem hj) (List.getElem?_eq_getElem hj')
    exact ⟨a1, by rw [← Array.length_toList, ← a2.length]; exact a3⟩
  have hne' : rs ≠ [] := fun e => hne (List.eq_nil_of_length_eq_zero (by rw [← h2, e]; rfl))
  refine ZN.call_zip (by rw [h2]; exact hn8) (fun p hp => (mem p hp).1) (fun p hp => (mem p hp).1.lt) fun h' z TI TO Rd D kp g1 g2 g3 g4 g5 g6 => args_nil ?_
  have I3 : Inv X pins σ H1 { s2 with heap := h' } := I2.kept (t' := s2.toks) kp
  have rne : ZN.mkRows s2.heap.objs.size rs ≠ [] := fun e => hne' (List.eq_nil_of_length_eq_zero (by rw [← ZN.mkRows_len (b := s2.heap.objs.size), e]; rfl))
  refine ZN.call_tuple_zip (s := { s2 with heap := h' }) Rd D rne (by rw [ZN.mkRows_len, h2]; omega) (I2.ok.hd hc) (m := m) (fun i => rs.map fun p => p.2.toList.getD i .none) (fun i => by rw [List.length_map, ZN.mkRows_len]) (fun i j r x hi hr hx => ?_) (fun r hr => ?_) hm0 hmm g4 g5 g6 fun h'' ts kp2 hl hT => ?_
  · have := ZN.mkRows_get hr
    rw [List.getElem?_map, this] at hx
    have sz := (mem _ (List.mem_of_getElem? this)).2
    have hi' : i < r.2.2.size := by rw [sz]; exact hi
    rw [Array.getElem?_eq_getElem hi']
    have : x = r.2.2.toList.getD i Value.none := (Option.some.inj hx).symm
    rw [this, List.getD_eq_getElem?_getD, List.getElem?_eq_getElem (by rw [Array.length_toList]; exact hi')]
    rfl
  · have := (mem _ (ZN.mkRows_mem hr).2.2).2
    exact Array.getElem?_eq_none (by rw [this]; exact Nat.le_refl _)
  · obtain ⟨nd, told⟩ := hT
    have bnd : ∀ b u, s2.heap.get? b = some u → Nat.lt b s2.heap.objs.size := fun b u e => Heap.lt_size e
    have ne_of : ∀ {b c : Nat}, Nat.lt b s2.heap.objs.size → Nat.le s2.heap.objs.size c → b ≠ c := fun h1 h2 e => by rw [e] at h1; exact Nat.lt_irrefl _ (Nat.lt_of_lt_of_le h1 h2)
    have kq : ∀ b u, s2.heap.get? b = some u → h''.get? b = some u := fun b u e =>
      kp2 b u (ne_of (bnd b u e) g2) (ne_of (bnd b u e) g3) (fun r hr => ne_of (bnd b u e) (ZN.mkRows_mem hr).1) (kp b u e)
    have alive : ∀ t ∈ ts, Nat.lt t h''.objs.size ∧ Nat.le s2.heap.objs.size t := fun t ht => by
      obtain ⟨j, hj, e⟩ := List.getElem_of_mem ht
      obtain ⟨a1, a2⟩ := told j t (by rw [← e]; exact List.getElem?_eq_getElem hj)
      exact ⟨Heap.lt_size a2, Nat.le_trans g1 a1⟩
    have szle : Nat.le s2.heap.objs.size h''.objs.size := by
      obtain ⟨t, ts', e⟩ : ∃ t ts', ts = t :: ts' := by
        cases ts with
        | nil => simp at hl; omega
        | cons t ts' => exact ⟨t, ts', rfl⟩
      have := alive t (by rw [e]; exact List.mem_cons_self)
      exact Nat.le_trans this.2 (Nat.le_of_lt this.1)
    have qn : h''.objs.size ∉ ts := fun hm => Nat.lt_irrefl _ (alive _ hm).1
    have fr : ∀ t ∈ h''.objs.size :: ts, H1 t = none := fun t ht => by
      rcases List.mem_cons.mp ht with rfl | ht
      · exact I2.hok.fresh szle
      · exact I2.hok.fresh (alive t ht).2
    let col : Nat → List V := fun j => xss.map fun xs => xs.getD j .non
    let H2 : Hp := fun b => if b = h''.objs.size then some (.tup (ts.map V.ref)) else if b ∈ ts then some (.tup (col (ts.idxOf b))) else H1 b
    have hq2 : H2 h''.objs.size = some (.tup (ts.map V.ref)) := if_pos rfl
    have ht2 : ∀ (j : Nat) (t : Addr), ts[j]? = some t → H2 t = some (.tup (col j)) := fun j t e => by
      have hm := List.mem_of_getElem? e
      have ne : t ≠ h''.objs.size := fun z => qn (z ▸ hm)
      have : ts.idxOf t = j := by
        obtain ⟨hj, e'⟩ := List.getElem?_eq_some_iff.mp e
        rw [← e']
        exact ZN.idxOf_nd nd hj
      show (if t = h''.objs.size then _ else if t ∈ ts then _ else _) = _
      rw [if_neg ne, if_pos hm, this]
    have ex2 : ∀ b o, H1 b = some o → H2 b = some o := fun b o e => by
      have n1 : b ≠ h''.objs.size := fun z => by rw [z, fr _ List.mem_cons_self] at e; cases e
      have n2 : b ∉ ts := fun z => by rw [fr b (List.mem_cons_of_mem _ z)] at e; cases e
      show (if b = h''.objs.size then _ else if b ∈ ts then _ else _) = _
      rw [if_neg n1, if_neg n2]
      exact e
    have lr : ls.length = xss.length := hll
    have val : ∀ j, Vals (col j) (rs.map fun p => p.2.toList.getD j .none) ∨ m ≤ j := fun j => by
      by_cases hj : j < m
      · refine .inl ?_
        have go : ∀ (rs : List (Addr × Array Value)) (xss : List (List V)), rs.length = xss.length → (∀ (i : Nat) (p : Addr × Array Value) (xs : List V), rs[i]? = some p → xss[i]? = some xs → Vals xs p.2.toList ∧ xs.length = m) → Vals (xss.map fun xs => xs.getD j .non) (rs.map fun p => p.2.toList.getD j .none) := fun rs => by
          induction rs with
          | nil => intro xss h _; cases xss with | nil => exact .nil | cons _ _ => cases h
          | cons p rs ih =>
            intro xss h hh
            cases xss with
            | nil => cases h
            | cons xs xss =>
              obtain ⟨b1, b2⟩ := hh 0 p xs rfl rfl
              refine .cons ?_ (ih xss (by simpa using h) fun i p' xs' a b => hh (i + 1) p' xs' a b)
              have hx : xs[j]? = some xs[j] := List.getElem?_eq_getElem (by omega)
              have hl' : xs.length = p.2.toList.length := b1.length
              have hp : p.2.toList[j]? = some p.2.toList[j] := List.getElem?_eq_getElem (by rw [← hl']; omega)
              show RelV (xs.getD j .non) (p.2.toList.getD j .none)
              rw [List.getD_eq_getElem?_getD, List.getD_eq_getElem?_getD, hx, hp]
              obtain ⟨u, hu, ru⟩ := b1.get hx
              rw [hp] at hu
              cases hu
              exact ru
        exact go rs xss h2 fun i p xs a b => ⟨(h3 i p xs a b).2.1, (h3 i p xs a b).2.2⟩
      · exact .inr (Nat.le_of_not_lt hj)
    have kfin : ∀ b u, h''.get? b = some u → (h''.push { cls := .type "tuple", data := .seq (ts.map Value.ref).toArray }).get? b = some u := fun b u e => Heap.get?_push_of_some _ e
    have I4 : Inv X pins σ H2 { s2 with heap := h''.push { cls := .type "tuple", data := .seq (ts.map Value.ref).toArray } } := by
      refine Inv.more (t' := s2.toks) I2 (fun b u e => kfin b u (kq b u e)) ex2 (fun b hb => ?_) fun b o e hb => ?_
      · by_cases n1 : b = h''.objs.size
        · rw [n1]; exact szle
        · by_cases n2 : b ∈ ts
          · exact (alive b n2).2
          · exact absurd (show H2 b = H1 b by show (if b = h''.objs.size then _ else if b ∈ ts then _ else _) = _; rw [if_neg n1, if_neg n2]) hb
      · by_cases n1 : b = h''.objs.size
        · subst n1
          rw [hq2] at e
          cases e
          refine ⟨?_, ts.map Value.ref, ?_, IsTup.new _ _⟩
          · rw [List.length_map, hl, sizeLine_eq]; omega
          · clear hq2 ht2 ex2 hl told
            have : ∀ ts : List Addr, Vals (ts.map V.ref) (ts.map Value.ref) := fun ts => by
              induction ts with
              | nil => exact .nil
              | cons t ts ih => exact .cons rfl ih
            exact this ts
        · have n2 : b ∈ ts := Classical.byContradiction fun n2 => by
            have : H2 b = H1 b := by show (if b = h''.objs.size then _ else if b ∈ ts then _ else _) = _; rw [if_neg n1, if_neg n2]
            rw [this, hb] at e
            cases e
          obtain ⟨j, hj, ej⟩ := List.getElem_of_mem n2
          have ej' : ts[j]? = some b := by rw [← ej]; exact List.getElem?_eq_getElem hj
          rw [ht2 j b ej'] at e
          cases e
          refine ⟨?_, rs.map fun p => p.2.toList.getD j .none, (val j).resolve_right (by omega), _, kfin _ _ (told j b ej').2, rfl, _, rfl⟩
          show (xss.map _).length ≤ _
          rw [List.length_map, sizeLine_eq]
          omega
    exact ⟨.ref h''.objs.size, H2, I4, rfl, hq ts _ H2 hl (List.nodup_cons.mpr ⟨qn, nd⟩) fr hq2 ht2 ex2⟩
end L2

namespace FP
open PySem PySem.Spec PyProof.Rows L2

/-! ### tuple(zip(*t)) -/
def tupsP : List P → Option (List (List P))
  | [] => some []
  | .tup ps :: xs => match tupsP xs with
    | some r => some (ps :: r)
    | none => none
  | _ => none
def colP (xss : List (List P)) (j : Nat) : P := .tup (xss.map fun xs => xs.getD j .non)
def qTZ : P → Option P
  | .tup ps => match tupsP ps with
    | some (xs :: xss) => if (∀ ys ∈ xss, ys.length = xs.length) ∧ (xs :: xss).length ≤ 8 ∧ 0 < xs.length ∧ xs.length ≤ 10000 then some (.tup ((List.range xs.length).map (colP (xs :: xss)))) else none
    | _ => none
  | _ => none
section
variable {K : PySem.W.Frag} {A : Nat → Addr} {U : WX} {te : TE} {δ : List W} {x : X} {ρ : Env}
theorem tupsP_eq : ∀ {ps : List P} {xss : List (List P)}, tupsP ps = some xss → ps = xss.map P.tup
  | [], xss, e => by cases e; rfl
  | p :: ps, xss, e => by
    cases p with
    | tup qs =>
      unfold tupsP at e
      cases hr : tupsP ps with
      | none => rw [hr] at e; cases e
      | some r =>
        rw [hr] at e
        cases e
        rw [List.map_cons, ← tupsP_eq hr]
    | _ => cases e
/-- rows of a representation -/
theorem rows_rp {A0 : Own} {H : Hp} : ∀ {vs : List V} {xss : List (List P)}, RpAll K A0 H vs (xss.map fun xs => emb A .s (.tup xs)) [] → ∃ (ls : List Addr) (yss : List (List V)), vs = ls.map V.ref ∧ ls.length = yss.length ∧ yss.length = xss.length ∧
    (∀ (j : Nat) (l : Addr) (ys : List V), ls[j]? = some l → yss[j]? = some ys → SqT K H l ys) ∧ ∀ (j : Nat) (ys : List V) (xs : List P), yss[j]? = some ys → xss[j]? = some xs → RpAll K A0 H ys (xs.map (emb A .s)) []
  | _, [], .nil => ⟨[], [], rfl, rfl, rfl, fun _ _ _ h => by simp at h, fun _ _ _ h => by simp at h⟩
  | _, xs :: xss, r => by
    rw [List.map_cons] at r
    generalize hB : ([] : List Addr) = B0 at r
    cases r with
    | @cons v vs _ _ B C r t n =>
    obtain ⟨rfl, rfl⟩ : B = [] ∧ C = [] := List.append_eq_nil_iff.mp hB.symm
    rw [emb_tup, embs_s] at r
    cases r with
    | @tupS a ys _ hs ra =>
    obtain ⟨ls, yss, h1, h2, h3, h4, h5⟩ := rows_rp t
    subst h1
    refine ⟨a :: ls, ys :: yss, rfl, by simp [h2], by simp [h3], fun j l ys' e1 e2 => ?_, fun j ys' xs' e1 e2 => ?_⟩
    · cases j with
      | zero =>
        simp only [List.getElem?_cons_zero, Option.some.injEq] at e1 e2
        subst e1 e2
        exact hs.elim (fun h => .inl h.1) .inr
      | succ j => exact h4 j l ys' (by simpa using e1) (by simpa using e2)
    · cases j with
      | zero =>
        simp only [List.getElem?_cons_zero, Option.some.injEq] at e1 e2
        subst e1 e2
        exact ra
      | succ j => exact h5 j ys' xs' (by simpa using e1) (by simpa using e2)
theorem col_rp {A0 : Own} {H : Hp} {j : Nat} : ∀ {yss : List (List V)} {xss : List (List P)}, yss.length = xss.length → (∀ (i : Nat) (ys : List V) (xs : List P), yss[i]? = some ys → xss[i]? = some xs → RpAll K A0 H ys (xs.map (emb A .s)) [] ∧ j < xs.length) →
    RpAll K A0 H (yss.map fun ys => ys.getD j .non) ((xss.map fun xs => xs.getD j .non).map (emb A .s)) []
  | [], [], _, _ => .nil
  | [], _ :: _, h, _ => nomatch h
  | _ :: _, [], h, _ => nomatch h
  | ys :: yss, xs :: xss, h, k => by
    rw [List.map_cons, List.map_cons, List.map_cons]
    obtain ⟨r, hj⟩ := k 0 ys xs rfl rfl
    refine RpAll.cons (B := []) (C := []) ?_ (col_rp (by simpa using h) fun i ys' xs' e1 e2 => k (i + 1) ys' xs' e1 e2) fun _ h => nomatch h
    have e : (xs.map (emb A .s))[j]? = some (emb A .s xs[j]) := by rw [List.getElem?_map, List.getElem?_eq_getElem hj]; rfl
    obtain ⟨v, hv, rv⟩ := r.at0 e
    rw [List.getD_eq_getElem?_getD, hv, List.getD_eq_getElem?_getD, List.getElem?_eq_getElem hj]
    exact rv
theorem ev_tz {p q : P} (h : EvS K te ρ (emb A .s p)) (e : qTZ p = some q) : EvS K (tTZ K te) ρ (emb A (.o (.o .s)) q) := fun A0 H σ B w rr Q qq => by
  unfold qTZ at e
  split at e
  · rename_i ps
    split at e
    · rename_i xs xss hps
      obtain ⟨⟨hl, h8, h0, hm⟩, rfl⟩ := opt_ite e
      refine h A0 H σ B w rr _ fun v H1 C e1 f1 p1 => ?_
      obtain rfl := p1.shd _ (emb_shd _)
      rw [Own.and_nil] at p1
      rw [emb_tup, embs_s, tupsP_eq hps, List.map_map] at p1
      cases p1 with
      | @tupS a vs _ hs ra =>
      obtain ⟨ls, yss, rfl, h2, h3, h4, h5⟩ := rows_rp (xss := xs :: xss) ra
      have len : ∀ ys ∈ xs :: xss, ys.length = xs.length := fun ys hy => (List.mem_cons.mp hy).elim (fun z => by rw [z]) (hl ys)
      have rowlen : ∀ (j : Nat) (ys : List V), yss[j]? = some ys → ys.length = xs.length := fun j ys hy => by
        have hj : j < (xs :: xss).length := by rw [← h3]; exact (List.getElem?_eq_some_iff.mp hy).1
        have := h5 j ys _ hy (List.getElem?_eq_getElem hj)
        rw [this.len, List.length_map, len _ (List.getElem_mem hj)]
      refine ⟨a, ls, yss, xs.length, rfl, hs.elim (fun h => .inl h.1) .inr, h2, fun j l ys a1 a2 => ⟨h4 j l ys a1 a2, rowlen j ys a2⟩, fun z => by rw [z] at h3; simp at h3, by rw [h3]; exact h8, h0, hm, fun ts q H2 tl nd fr hq ht ex => ?_⟩
      have na : ∀ t ∈ q :: ts, ¬ A0 t := fun t hm z => w t (by assumption) (e1.back (fr t hm)) |>.elim
      refine qq (.ref q) H2 (q :: ts) (e1.tr ex) (fun t hm => e1.back (fr t hm)) ?_
      rw [emb_tup_o]
      have kp : ∀ (B0 : List Addr), B0 = [] → Keep A0 H1 B0 (A0.and (q :: ts)) H2 := fun B0 hB => by
        subst hB
        exact ⟨fun b o hb nb => ⟨ex b o hb, fun z => z.elim nb fun z => by rw [fr b z] at hb; cases hb⟩, fun _ _ h => nomatch h⟩
      -- the new rows
      have rows : ∀ (k : Nat) (ts' : List Addr), (∀ (j : Nat) (t : Addr), ts'[j]? = some t → ts[k + j]? = some t) → ts'.Nodup → (∀ t ∈ ts', t ∈ ts) → k + ts'.length = xs.length → RpAll K (A0.and (q :: ts)) H2 (ts'.map V.ref) (((List.range' k ts'.length).map (colP (xs :: xss))).map (emb A (.o .s))) ts' := fun k ts' => by
        induction ts' generalizing k with
        | nil => exact fun _ _ _ _ => .nil
        | cons t ts' ih =>
          intro g1 g2 g3 g4
          rw [List.length_cons, List.range'_succ, List.map_cons, List.map_cons, List.map_cons]
          have et := g1 0 t rfl
          rw [Nat.add_zero] at et
          refine RpAll.cons (B := [t]) (C := ts') ?_ (ih (k + 1) (fun j t' h => by have := g1 (j + 1) t' (by simpa using h); rwa [show k + 1 + j = k + (j + 1) by omega]) (List.nodup_cons.mp g2).2 (fun t' h => g3 t' (List.mem_cons_of_mem _ h)) (by rw [List.length_cons] at g4; omega)) fun b hb => by
            rw [List.mem_singleton.mp hb]
            exact (List.nodup_cons.mp g2).1
          show Rp K _ H2 (.ref t) (emb A (.o .s) (.tup _)) [t]
          rw [emb_tup_o]
          have hk : k < xs.length := by rw [List.length_cons] at g4; omega
          refine .tupO (ht k t et) (.inr (List.mem_cons_of_mem _ (g3 t List.mem_cons_self))) (fun h => nomatch h) ?_
          refine (col_rp (A := A) (j := k) h3 fun i ys xs' a1 a2 => ⟨h5 i ys xs' a1 a2, by rw [len xs' (List.mem_of_getElem? a2)]; exact hk⟩).keep _ (kp _ rfl)
      refine .tupO hq (.inr List.mem_cons_self) (List.nodup_cons.mp nd).1 ?_
      have := rows 0 ts (fun j t h => by rwa [Nat.zero_add]) (List.nodup_cons.mp nd).2 (fun _ h => h) (by rw [Nat.zero_add]; exact tl)
      rw [tl, ← List.range_eq_range'] at this
      exact this
    · cases e
  · cases e
theorem x_tz (h : XOk K A U te δ x .s) : XOk K A U (tTZ K te) δ (xUn qTZ x) (.o (.o .s)) := .mk (fun ρ p e => by
  obtain ⟨y, h1, e⟩ := bnd_eq_ok e
  exact ev_tz (h.ok ρ y h1) (map_ok e)) (fun ρ c fe e => by
  rcases bnd_eq_er e with h1 | ⟨y, h1, e⟩
  · exact fun A0 H σ B w0 rr hW Q => h.er ρ c fe h1 A0 H σ B w0 rr hW _
  · exact (map_er e).elim)
end
end FP

namespace FP
/-- objects of a class, exceptions of a class; none -/
def isC (k : Nat) (c : Nat) : Bool := c == k
def noC (_ : Nat) : Bool := false
theorem isC_eq {k c : Nat} (h : isC k c = true) : c = k := beq_iff_eq.mp h
end FP

namespace FP
open PySem PySem.Spec PyProof.Rows L2

/-! ### reckoning: what each word comes to at names that stand in a row -/
section
variable {ρ : PEnv} {f g h : X} {fs : List X} {s t : S} {i j : Nat} {p q : P} {a b : Int} {u v : Bool}
def vget : Option P → R
  | some p => ret p
  | none => none
@[simp] theorem vget_some : vget (some p) = some (.ok p) := rfl
@[simp] theorem vget_none : vget none = none := rfl
@[simp] theorem xV_ap : xV i ρ = vget (ρ.getD i none) := rfl
@[simp] theorem xC_ap {v : V} : xC v ρ = some (.ok (.sc v)) := rfl
@[simp] theorem xCls_ap {c : Nat} : xCls c ρ = some (.ok (.cls c)) := rfl
/-- a tuple of texts that the program's top holds -/
def ktP (ws : List Str) : P := .tup (ws.map P.str)
@[simp] theorem xKT_ap {ws : List Str} : xKT ws ρ = some (.ok (ktP ws)) := rfl
@[simp] theorem xDnew_ap : xDnew ρ = some (.ok (.dK [] [])) := rfl
@[simp] theorem xOp_ap {o : P → P → Option P} : xOp o f g ρ = bnd (f ρ) fun x => bnd (g ρ) fun y => (o x y).map .ok := rfl
@[simp] theorem xUn_ap {o : P → Option P} : xUn o f ρ = bnd (f ρ) fun x => (o x).map .ok := rfl
@[simp] theorem xCB_ap {o : List P → Option P} : xCB o fs ρ = bnds (xArgs fs ρ) fun ps => (o ps).map .ok := rfl
@[simp] theorem xCall_ap {o : List P → R} : xCall o fs ρ = bnds (xArgs fs ρ) o := rfl
@[simp] theorem xTup_ap : xTup fs ρ = bnds (xArgs fs ρ) fun ps => if ps.length ≤ 1000000 then ret (.tup ps) else none := rfl
@[simp] theorem xLst_ap : xLst fs ρ = bnds (xArgs fs ρ) fun ps => if ps.length ≤ 1000000 then ret (.lst ps) else none := rfl
def scns (r : R) (o : Option PRs) : Option PRs := match r with
    | some (.ok p) => match o with
      | some (.ok ps) => some (.ok (p :: ps))
      | o => o
    | some (.er c fe) => some (.er c fe)
    | none => none
@[simp] theorem scns_ok {ps : List P} : scns (some (.ok p)) (some (.ok ps)) = some (.ok (p :: ps)) := rfl
@[simp] theorem scns_er {c : Nat} {fe : List (Str × V)} {o : Option PRs} : scns (some (.er c fe)) o = some (.er c fe) := rfl
@[simp] theorem xArgs_ap : xArgs (f :: fs) ρ = scns (f ρ) (xArgs fs ρ) := rfl
def pick (u : P) (x y : R) : R := match u with
  | .sc (.bl b) => if b = true then x else y
  | _ => none
@[simp] theorem tst_ap {r : R} {k : Bool → R} : tst r k = bnd r fun u => match u with | .sc (.bl b) => k b | _ => none := by
  match r with
  | some (.ok (.sc (.bl b))) => rfl
  | some (.er c fe) => rfl
  | none => rfl
  | some (.ok (.sc (.int _))) => rfl
  | some (.ok (.sc (.str _))) => rfl
  | some (.ok (.sc .non)) => rfl
  | some (.ok (.sc (.ref _))) => rfl
  | some (.ok (.sc (.ty _))) => rfl
  | some (.ok (.cls _)) => rfl
  | some (.ok (.lst _)) => rfl
  | some (.ok (.tup _)) => rfl
  | some (.ok (.ins _ _ _)) => rfl
  | some (.ok (.dK _ _)) => rfl
  | some (.ok (.dT _ _)) => rfl
  | some (.ok (.exc _ _)) => rfl
  | some (.ok (.sc x)) => cases x <;> rfl
@[simp] theorem xIf_ap : xIf h f g ρ = bnd (h ρ) fun u => pick u (f ρ) (g ρ) := by
  show tst _ _ = _
  rw [tst_ap]
  rfl
@[simp] theorem pick_bl {b : Bool} {x y : R} : pick (.sc (.bl b)) x y = if b = true then x else y := rfl
@[simp] theorem truP_non : truP (.sc .non) = some false := rfl
@[simp] theorem truP_bl {b : Bool} : truP (.sc (.bl b)) = some b := rfl
@[simp] theorem truP_int {i : Int} : truP (.sc (.int i)) = some (i != 0) := rfl
@[simp] theorem truP_lst {ps : List P} : truP (.lst ps) = some !ps.isEmpty := rfl
@[simp] theorem truP_tup {ps : List P} : truP (.tup ps) = some !ps.isEmpty := rfl
@[simp] theorem xTru_ap : xTru f ρ = bnd (f ρ) fun x => (truP x).map fun b => .ok (.bl b) := rfl
@[simp] theorem xNot_ap : xNot f ρ = bnd (f ρ) fun x => (truP x).map fun b => .ok (.bl !b) := rfl
def andK (o : Option Bool) (x y : R) : R := match o with
  | some true => x
  | some false => y
  | none => none
@[simp] theorem andK_some {b : Bool} {x y : R} : andK (some b) x y = if b = true then x else y := by cases b <;> rfl
@[simp] theorem xAnd_ap : xAnd f g ρ = bnd (f ρ) fun x => andK (truP x) (g ρ) (ret x) := rfl
@[simp] theorem xOr_ap : xOr f g ρ = bnd (f ρ) fun x => andK (truP x) (ret x) (g ρ) := by
  show bnd _ _ = bnd _ _
  congr 1
  funext x
  cases truP x with
  | none => rfl
  | some b => cases b <;> rfl
@[simp] theorem xTNot_ap : xTNot f ρ = bnd (f ρ) fun u => match u with | .sc (.bl b) => ret (.bl !b) | _ => none := by
  show tst _ _ = _
  rw [tst_ap]
@[simp] theorem xTAnd_ap : xTAnd f g ρ = bnd (f ρ) fun u => pick u (g ρ) (ret (.bl false)) := by
  show tst _ _ = _
  rw [tst_ap]
  rfl
@[simp] theorem xTOr_ap : xTOr f g ρ = bnd (f ρ) fun u => pick u (ret (.bl true)) (g ρ) := by
  show tst _ _ = _
  rw [tst_ap]
  rfl
def scOnly (r : R) : R := match r with
  | some (.ok x) => if isSc x = true then ret x else none
  | _ => none
@[simp] theorem scOnly_sc {v : V} : scOnly (some (.ok (.sc v))) = some (.ok (.sc v)) := rfl
@[simp] theorem xSc_ap : xSc f ρ = scOnly (f ρ) := rfl
def okOnly (r : R) : R := match r with
  | some (.ok x) => ret x
  | _ => none
@[simp] theorem okOnly_ok : okOnly (some (.ok p)) = some (.ok p) := rfl
@[simp] theorem xTs_ap : xTs f ρ = okOnly (f ρ) := rfl
/-! statements -/
@[simp] theorem xSeq_ap : xSeq s t ρ = thn (s ρ) t := rfl
@[simp] theorem xNext_ap : xNext ρ = some (.nx ρ) := rfl
@[simp] theorem xBreak_ap : xBreak ρ = some (.bk ρ) := rfl
@[simp] theorem xCont_ap : xCont ρ = some (.ct ρ) := rfl
@[simp] theorem xSet_ap : xSet i f ρ = ans ρ (f ρ) fun p => some (.nx (ρ.set i (some p))) := rfl
@[simp] theorem xDo_ap : xDo f ρ = ans ρ (f ρ) fun _ => some (.nx ρ) := rfl
@[simp] theorem xRet_ap : xRet f ρ = ans ρ (f ρ) fun p => some (.rt p) := rfl
@[simp] theorem xRetN_ap : xRetN ρ = some (.rt .non) := rfl
@[simp] theorem ans_none {k : P → Option PO} : ans ρ none k = none := rfl
@[simp] theorem thn_none : thn none t = none := rfl
def pickS (u : P) (x y : Option PO) : Option PO := match u with
  | .sc (.bl b) => if b = true then x else y
  | _ => none
@[simp] theorem pickS_bl {b : Bool} {x y : Option PO} : pickS (.sc (.bl b)) x y = if b = true then x else y := rfl
@[simp] theorem xIfS_ap : xIfS f s t ρ = ans ρ (f ρ) fun u => pickS u (s ρ) (t ρ) := by
  show ans _ _ _ = ans _ _ _
  congr 1
  funext u
  match u with
  | .sc (.bl true) => rfl
  | .sc (.bl false) => rfl
  | .sc (.int _) => rfl
  | .sc (.str _) => rfl
  | .sc .non => rfl
  | .sc (.ref _) => rfl
  | .sc (.ty _) => rfl
  | .cls _ => rfl
  | .lst _ => rfl
  | .tup _ => rfl
  | .ins _ _ _ => rfl
  | .dK _ _ => rfl
  | .dT _ _ => rfl
  | .exc _ _ => rfl
  | .sc x => cases x with
    | bl b => cases b <;> rfl
    | _ => rfl
@[simp] theorem wipeP_nil : wipeP ρ [] = ρ := rfl
@[simp] theorem wipeP_cons {v : Nat} {vs : List Nat} : wipeP ρ (v :: vs) = (wipeP ρ vs).set v none := rfl
def fgK (vs : List Nat) (o : Option PO) : Option PO := match o with
  | some (.nx ρ') => some (.nx (wipeP ρ' vs))
  | o => o
@[simp] theorem fgK_nx {vs : List Nat} {ρ : PEnv} : fgK vs (some (.nx ρ)) = some (.nx (wipeP ρ vs)) := rfl
@[simp] theorem fgK_rt {vs : List Nat} {p : P} : fgK vs (some (.rt p)) = some (.rt p) := rfl
@[simp] theorem fgK_ct {vs : List Nat} : fgK vs (some (.ct ρ)) = some (.ct ρ) := rfl
@[simp] theorem fgK_bk {vs : List Nat} : fgK vs (some (.bk ρ)) = some (.bk ρ) := rfl
@[simp] theorem fgK_er {vs : List Nat} {c : Nat} {fe : List (Str × V)} : fgK vs (some (.er c fe ρ)) = some (.er c fe ρ) := rfl
@[simp] theorem xFg_ap {vs : List Nat} : xFg vs s ρ = fgK vs (s ρ) := rfl
@[simp] theorem tkN_ap : tkN j p ρ = some (ρ.set j (some p)) := rfl
@[simp] theorem tkNs_nil : tkNs [] [] ρ = some ρ := rfl
def tkK (o : Option PEnv) (ts : List Tk) (ps : List P) : Option PEnv := match o with
  | some ρ => tkNs ts ps ρ
  | none => none
@[simp] theorem tkK_some {ts : List Tk} {ps : List P} : tkK (some ρ) ts ps = tkNs ts ps ρ := rfl
@[simp] theorem tkNs_cons {t : Tk} {ts : List Tk} {ps : List P} : tkNs (t :: ts) (p :: ps) ρ = tkK (t p ρ) ts ps := by
  rw [tkNs]
  cases t p ρ <;> rfl
@[simp] theorem tkT_tup {ts : List Tk} {ps : List P} : tkT ts (.tup ps) ρ = tkNs ts ps ρ := rfl
def nxK (o : Option PEnv) : Option PO := match o with
    | some ρ' => some (.nx ρ')
    | none => none
@[simp] theorem nxK_some : nxK (some ρ) = some (.nx ρ) := rfl
@[simp] theorem xAsT_ap {tk : Tk} : xAsT tk f ρ = ans ρ (f ρ) fun p => nxK (tk p ρ) := rfl
/-! operators -/
@[simp] theorem qAdd_int : qAdd (.sc (.int a)) (.sc (.int b)) = some (.int (a + b)) := rfl
@[simp] theorem qAdd_lst {ps qs : List P} : qAdd (.lst ps) (.lst qs) = if ps.length + qs.length ≤ sizeLine then some (.lst (ps ++ qs)) else none := rfl
@[simp] theorem qAdd_str {x y : Str} : qAdd (.sc (.str x)) (.sc (.str y)) = if x.length + y.length ≤ sizeLine then some (.str (x ++ y)) else none := rfl
@[simp] theorem qAdd_tup {ps qs : List P} : qAdd (.tup ps) (.tup qs) = if ps ≠ [] ∧ ps.length + qs.length ≤ sizeLine then some (.tup (ps ++ qs)) else none := rfl
@[simp] theorem qCat_lst {ps qs : List P} : qCat (.lst ps) (.lst qs) = if ps.length + qs.length ≤ sizeLine then some (.lst (ps ++ qs)) else none := rfl
@[simp] theorem qSub_int : qSub (.sc (.int a)) (.sc (.int b)) = some (.int (a - b)) := rfl
@[simp] theorem qMul_int : qMul (.sc (.int a)) (.sc (.int b)) = if mulOk a b then some (.int (a * b)) else none := rfl
@[simp] theorem qFd_int : qFd (.sc (.int a)) (.sc (.int b)) = if 0 < b ∧ b < 1073741824 then some (.int (a / b)) else none := rfl
@[simp] theorem qMd_int : qMd (.sc (.int a)) (.sc (.int b)) = if 0 < b then some (.int (a % b)) else none := rfl
@[simp] theorem qPw_int : qPw (.sc (.int a)) (.sc (.int b)) = if 0 ≤ b ∧ b ≤ 1000000 ∧ a.natAbs < 2 ^ 64 then some (.int (a ^ b.toNat)) else none := rfl
@[simp] theorem qNg_int : qNg (.sc (.int a)) = some (.int (-a)) := rfl
@[simp] theorem qLt_int : qLt (.sc (.int a)) (.sc (.int b)) = some (.bl (decide (a < b))) := rfl
@[simp] theorem qLe_int : qLe (.sc (.int a)) (.sc (.int b)) = some (.bl (decide (a ≤ b))) := rfl
@[simp] theorem qGt_int : qGt (.sc (.int a)) (.sc (.int b)) = some (.bl (decide (b < a))) := rfl
@[simp] theorem qGe_int : qGe (.sc (.int a)) (.sc (.int b)) = some (.bl (decide (b ≤ a))) := rfl
@[simp] theorem qIx_lst {ps : List P} : qIx (.lst ps) (.sc (.int a)) = atI ps a := rfl
@[simp] theorem qIx_tup {ps : List P} : qIx (.tup ps) (.sc (.int a)) = atI ps a := rfl
@[simp] theorem qLen_lst {ps : List P} : qLen [.lst ps] = some (.int (ps.length : Nat)) := rfl
@[simp] theorem qLen_tup {ps : List P} : qLen [.tup ps] = some (.int (ps.length : Nat)) := rfl
@[simp] theorem qInt_int : qInt [.sc (.int a)] = some (.int a) := rfl
@[simp] theorem qInt_bl : qInt [.sc (.bl u)] = some (.int (if u = true then 1 else 0)) := rfl
@[simp] theorem qList_lst {ps : List P} : qList [.lst ps] = some (.lst ps) := rfl
@[simp] theorem qList_tup {ps : List P} : qList [.tup ps] = some (.lst ps) := rfl
@[simp] theorem qTuple_lst {ps : List P} : qTuple [.lst ps] = some (.tup ps) := rfl
@[simp] theorem qMax_int : qMax [.sc (.int a), .sc (.int b)] = some (.int (if b > a then b else a)) := rfl
@[simp] theorem qMin_int : qMin [.sc (.int a), .sc (.int b)] = some (.int (if b < a then b else a)) := rfl
@[simp] theorem eq_int : qEq (.sc (.int a)) (.sc (.int b)) = some (.bl (decide (a = b))) := by
  unfold qEq eqOk
  simp [scal]
@[simp] theorem ne_int : qNe (.sc (.int a)) (.sc (.int b)) = some (.bl !(decide (a = b))) := by
  unfold qNe eqOk
  simp [scal]
@[simp] theorem eq_str {x y : Str} : qEq (.sc (.str x)) (.sc (.str y)) = some (.bl (decide (x = y))) := by
  unfold qEq eqOk
  simp [scal]
@[simp] theorem ne_str {x y : Str} : qNe (.sc (.str x)) (.sc (.str y)) = some (.bl !(decide (x = y))) := by
  unfold qNe eqOk
  simp [scal]
@[simp] theorem qIs_non : qIs p (.sc .non) = some (.bl (isNoP p)) := by
  cases p with
  | sc x => cases x <;> rfl
  | _ => rfl
@[simp] theorem qIsn_non : qIsn p (.sc .non) = some (.bl !(isNoP p)) := by
  cases p with
  | sc x => cases x <;> rfl
  | _ => rfl
/-! == of data -/
def eqPs (ps qs : List P) : Bool := PyData.eqvAll (pyPs ps) (pyPs qs)
@[simp] theorem eqPs_nil : eqPs [] [] = true := by rw [eqPs, pyPs, PyData.eqvAll]
@[simp] theorem eqPs_cons {ps qs : List P} : eqPs (p :: ps) (q :: qs) = (eqP p q && eqPs ps qs) := by rw [eqPs, pyPs, pyPs, PyData.eqvAll]; rfl
@[simp] theorem eqPs_nc {qs : List P} : eqPs [] (q :: qs) = false := by rw [eqPs, pyPs, pyPs, PyData.eqvAll]
@[simp] theorem eqPs_cn {ps : List P} : eqPs (p :: ps) [] = false := by rw [eqPs, pyPs, pyPs, PyData.eqvAll]
@[simp] theorem eqP_tup {ps qs : List P} : eqP (.tup ps) (.tup qs) = eqPs ps qs := by rw [eqP, pyP, pyP, PyData.eqv]; rfl
@[simp] theorem eqP_lst {ps qs : List P} : eqP (.lst ps) (.lst qs) = eqPs ps qs := by rw [eqP, pyP, pyP, PyData.eqv]; rfl
@[simp] theorem eqP_int : eqP (.sc (.int a)) (.sc (.int b)) = decide (a = b) := by
  rw [eqP, pyP, pyP, PyData.eqv]
  by_cases h : a = b <;> simp [h]
@[simp] theorem eqP_str {x y : Str} : eqP (.sc (.str x)) (.sc (.str y)) = decide (x = y) := by
  rw [eqP, pyP, pyP, PyData.eqv]
  by_cases h : x = y <;> simp [h]
@[simp] theorem eqP_bl : eqP (.sc (.bl u)) (.sc (.bl v)) = decide (u = v) := by
  rw [eqP, pyP, pyP, PyData.eqv]
  cases u <;> cases v <;> rfl
@[simp] theorem eqP_non : eqP (.sc .non) (.sc .non) = true := by rw [eqP, pyP, PyData.eqv]
/-- == may be asked of both -/
def fit2 (p q : P) (b : Bool) : Option P := if fitP 60 p = true ∧ fitP 60 q = true then some (.bl b) else none
@[simp] theorem qEq_tup {ps : List P} : qEq (.tup ps) q = fit2 (.tup ps) q (eqP (.tup ps) q) := by
  show (eqOk _ _).map _ = _
  rw [show eqOk (.tup ps) q = if fitP 60 (.tup ps) = true ∧ fitP 60 q = true then some (eqP (.tup ps) q) else none from by cases q <;> rfl]
  unfold fit2
  split <;> rfl
@[simp] theorem qEq_lst {ps : List P} : qEq (.lst ps) q = fit2 (.lst ps) q (eqP (.lst ps) q) := by
  show (eqOk _ _).map _ = _
  rw [show eqOk (.lst ps) q = if fitP 60 (.lst ps) = true ∧ fitP 60 q = true then some (eqP (.lst ps) q) else none from by cases q <;> rfl]
  unfold fit2
  split <;> rfl
@[simp] theorem qNe_tup {ps : List P} : qNe (.tup ps) q = fit2 (.tup ps) q !(eqP (.tup ps) q) := by
  show (eqOk _ _).map _ = _
  rw [show eqOk (.tup ps) q = if fitP 60 (.tup ps) = true ∧ fitP 60 q = true then some (eqP (.tup ps) q) else none from by cases q <;> rfl]
  unfold fit2
  split <;> rfl
@[simp] theorem qNe_lst {ps : List P} : qNe (.lst ps) q = fit2 (.lst ps) q !(eqP (.lst ps) q) := by
  show (eqOk _ _).map _ = _
  rw [show eqOk (.lst ps) q = if fitP 60 (.lst ps) = true ∧ fitP 60 q = true then some (eqP (.lst ps) q) else none from by cases q <;> rfl]
  unfold fit2
  split <;> rfl
@[simp] theorem fitP_int {n : Nat} : fitP n (.sc (.int a)) = true := by rw [fitP]
@[simp] theorem fitP_bl {n : Nat} : fitP n (.sc (.bl u)) = true := by rw [fitP]
@[simp] theorem fitP_non {n : Nat} : fitP n (.sc .non) = true := by rw [fitP]
@[simp] theorem fitP_str {n : Nat} {x : Str} : fitP n (.sc (.str x)) = PyData.strOk x := by rw [fitP]
@[simp] theorem fitPs_nil {n : Nat} : fitPs n [] = true := by rw [fitPs]
@[simp] theorem fitPs_cons {n : Nat} {ps : List P} : fitPs n (p :: ps) = (fitP n p && fitPs n ps) := by rw [fitPs]
theorem fitPs_all {n : Nat} : ∀ {ps : List P}, (∀ p ∈ ps, fitP n p = true) → fitPs n ps = true
  | [], _ => by simp
  | p :: ps, h => by
    rw [fitPs_cons, h p List.mem_cons_self, fitPs_all fun q hq => h q (List.mem_cons_of_mem _ hq)]
    rfl
theorem fitP_tup {n : Nat} {ps : List P} (h : ∀ p ∈ ps, fitP n p = true) : fitP (n + 1) (.tup ps) = true := by rw [fitP]; exact fitPs_all h
theorem fitP_lst {n : Nat} {ps : List P} (h : ∀ p ∈ ps, fitP n p = true) : fitP (n + 1) (.lst ps) = true := by rw [fitP]; exact fitPs_all h
@[simp] theorem fitP60_tup {ps : List P} : fitP 60 (.tup ps) = fitPs 59 ps := by rw [fitP]
@[simp] theorem fitP60_lst {ps : List P} : fitP 60 (.lst ps) = fitPs 59 ps := by rw [fitP]
@[simp] theorem fitP59_tup {ps : List P} : fitP 59 (.tup ps) = fitPs 58 ps := by rw [fitP]
@[simp] theorem fitP59_lst {ps : List P} : fitP 59 (.lst ps) = fitPs 58 ps := by rw [fitP]
@[simp] theorem fitP58_tup {ps : List P} : fitP 58 (.tup ps) = fitPs 57 ps := by rw [fitP]
@[simp] theorem fitP58_lst {ps : List P} : fitP 58 (.lst ps) = fitPs 57 ps := by rw [fitP]
@[simp] theorem fitP57_tup {ps : List P} : fitP 57 (.tup ps) = fitPs 56 ps := by rw [fitP]
@[simp] theorem fitP57_lst {ps : List P} : fitP 57 (.lst ps) = fitPs 56 ps := by rw [fitP]
@[simp] theorem fitP56_tup {ps : List P} : fitP 56 (.tup ps) = fitPs 55 ps := by rw [fitP]
@[simp] theorem fitP56_lst {ps : List P} : fitP 56 (.lst ps) = fitPs 55 ps := by rw [fitP]
@[simp] theorem fitP55_tup {ps : List P} : fitP 55 (.tup ps) = fitPs 54 ps := by rw [fitP]
@[simp] theorem fitP55_lst {ps : List P} : fitP 55 (.lst ps) = fitPs 54 ps := by rw [fitP]
@[simp] theorem fitP54_tup {ps : List P} : fitP 54 (.tup ps) = fitPs 53 ps := by rw [fitP]
@[simp] theorem fitP54_lst {ps : List P} : fitP 54 (.lst ps) = fitPs 53 ps := by rw [fitP]
@[simp] theorem fit2_ap {p q : P} {b : Bool} : fit2 p q b = if fitP 60 p = true ∧ fitP 60 q = true then some (.bl b) else none := rfl
theorem fit2_eq {p q : P} {b : Bool} (h1 : fitP 60 p = true) (h2 : fitP 60 q = true) : fit2 p q b = some (.bl b) := if_pos ⟨h1, h2⟩
@[simp] theorem fin_none : fin none = none := rfl
theorem map_inj {α β : Type} {f : α → β} (hf : ∀ a b, f a = f b → a = b) : ∀ {xs ys : List α}, xs.map f = ys.map f → xs = ys
  | [], [], _ => rfl
  | [], _ :: _, h => nomatch h
  | _ :: _, [], h => nomatch h
  | x :: xs, y :: ys, h => by
    simp only [List.map_cons, List.cons.injEq] at h
    rw [hf _ _ h.1, map_inj hf h.2]
theorem char_inj {a b : Char} (h : a.toNat = b.toNat) : a = b := by
  have : a.val = b.val := UInt32.toNat.inj h
  exact Char.ext this
@[simp] theorem ofS_eq {a b : String} : (Str.ofString a = Str.ofString b) ↔ a = b := by
  constructor
  · intro h
    rw [Str.ofString_eq_toList, Str.ofString_eq_toList] at h
    have h2 : a.toList.map Char.toNat = b.toList.map Char.toNat := by
      have := congrArg (fun s : Str => s.cps.toList) h
      simpa using this
    exact String.toList_inj.mp (map_inj (fun _ _ => char_inj) h2)
  · rintro rfl
    rfl
theorem enumP_nil {k : Int} : enumP k [] = [] := rfl
theorem enumP_cons {k : Int} {ps : List P} : enumP k (p :: ps) = .tup [.int k, p] :: enumP (k + 1) ps := by
  unfold enumP
  rw [List.mapIdx_cons]
  congr 1
  · simp
  · congr 1
    funext i d
    simp
    omega
@[simp] theorem itR1_ap {f : X} (h : f ρ = some (.ok (.sc (.int a)))) : itR1 [f] ρ = if -2 ^ 62 ≤ a ∧ a < 2 ^ 62 then some (rngP 0 a.toNat) else none := by
  unfold itR1
  rw [xArgs_ap, h]
  rfl
@[simp] theorem itL_ap {qs : List P} (h : f ρ = some (.ok (.lst qs))) : itL f ρ = some qs := by unfold itL; rw [h]
@[simp] theorem itT_ap {qs : List P} (h : f ρ = some (.ok (.tup qs))) : itT f ρ = some qs := by unfold itT; rw [h]
@[simp] theorem itES_ap {k : Int} {qs : List P} (h : xArgs fs ρ = some (.ok [.lst qs])) : itES k fs ρ = some (enumP k qs) := by unfold itES; rw [h]
def forK (tk : Tk) (body : S) (o : Option (List P)) (ρ : PEnv) : Option PO := match o with
  | some xs => forL tk body xs ρ
  | none => none
@[simp] theorem forK_some {tk : Tk} {qs : List P} : forK tk s (some qs) ρ = forL tk s qs ρ := rfl
@[simp] theorem xFor_ap {it : It'} {tk : Tk} : xFor it tk s ρ = forK tk s (it ρ) ρ := by
  unfold xFor forK
  cases it ρ <;> rfl
@[simp] theorem forL_nil {tk : Tk} : forL tk s [] ρ = some (.nx ρ) := rfl
def nextK (tk : Tk) (body : S) (xs : List P) (o : Option PO) : Option PO := match o with
  | some (.nx ρ) => forL tk body xs ρ
  | some (.ct ρ) => forL tk body xs ρ
  | some (.bk ρ) => some (.nx ρ)
  | o => o
@[simp] theorem nextK_nx {tk : Tk} {qs : List P} : nextK tk s qs (some (.nx ρ)) = forL tk s qs ρ := rfl
@[simp] theorem nextK_ct {tk : Tk} {qs : List P} : nextK tk s qs (some (.ct ρ)) = forL tk s qs ρ := rfl
@[simp] theorem nextK_bk {tk : Tk} {qs : List P} : nextK tk s qs (some (.bk ρ)) = some (.nx ρ) := rfl
@[simp] theorem nextK_rt {tk : Tk} {qs : List P} : nextK tk s qs (some (.rt p)) = some (.rt p) := rfl
@[simp] theorem nextK_er {tk : Tk} {qs : List P} {c : Nat} {fe : List (Str × V)} : nextK tk s qs (some (.er c fe ρ)) = some (.er c fe ρ) := rfl
def oK (o : Option PEnv) (k : PEnv → Option PO) : Option PO := match o with
  | some ρ => k ρ
  | none => none
@[simp] theorem oK_some {k : PEnv → Option PO} : oK (some ρ) k = k ρ := rfl
theorem forL_cons {tk : Tk} {qs : List P} : forL tk s (q :: qs) ρ = oK (tk q ρ) fun ρ1 => nextK tk s qs (s ρ1) := by
  rw [forL]
  cases tk q ρ with
  | none => rfl
  | some ρ1 =>
    simp only [oK]
    cases h : s ρ1 with
    | none => rfl
    | some o => cases o <;> rfl
@[simp] theorem ofS_beq {a b : String} : (Str.ofString a == Str.ofString b) = decide (a = b) := by
  by_cases h : a = b
  · simp [h]
  · have : ¬ Str.ofString a = Str.ofString b := fun z => h (ofS_eq.mp z)
    simp [h, this]
@[simp] theorem strOk_ofS {x : String} : PyData.strOk (Str.ofString x) = true := by
  rw [Str.ofString_eq_toList]
  unfold PyData.strOk
  simp
  intro a _
  have h := a.valid
  show a.val.toNat < 1114112
  unfold UInt32.isValidChar Nat.isValidChar at h
  omega
@[simp] theorem isC_ap {k c : Nat} : isC k c = (c == k) := rfl
@[simp] theorem noC_ap {c : Nat} : noC c = false := rfl
def setFK (i : Nat) (n : Str) (ci : Nat → Bool) (k : Nat) (ρ : PEnv) (p : P) (o : Option P) : Option PO := match o with
  | some (.ins c fs ps) => if ci c = true ∧ fs.idxOf n = k ∧ fs.length < 1000 ∧ fs.length = ps.length then some (.nx (ρ.set i (some (.ins c (putFP n p fs ps).1 (putFP n p fs ps).2)))) else none
  | _ => none
@[simp] theorem setFK_ins {n : Str} {ci : Nat → Bool} {k c : Nat} {ns : List Str} {ps : List P} : setFK i n ci k ρ p (some (.ins c ns ps)) = if ci c = true ∧ ns.idxOf n = k ∧ ns.length < 1000 ∧ ns.length = ps.length then some (.nx (ρ.set i (some (.ins c (putFP n p ns ps).1 (putFP n p ns ps).2)))) else none := rfl
@[simp] theorem xSetF_ap {n : Str} {ci : Nat → Bool} {k : Nat} : xSetF i n ci k f ρ = ans ρ (f ρ) fun p => setFK i n ci k ρ p (ρ.getD i none) := rfl
@[simp] theorem putFP_nil {n : Str} {d : P} : putFP n d [] [] = ([n], [d]) := rfl
@[simp] theorem putFP_cons {n m : Str} {ns : List Str} {d x : P} {ps : List P} : putFP n d (m :: ns) (x :: ps) = if m = n then (m :: ns, d :: ps) else (m :: (putFP n d ns ps).1, x :: (putFP n d ns ps).2) := rfl
def fldK (n : Str) (ci ce : Nat → Bool) (o : P) : R := match o with
  | .ins c fs ps => if ci c = true then (fldP fs ps n).map .ok else none
  | .exc c fs => if ce c = true then (fs.lookup n).map fun v => .ok (.sc v) else none
  | _ => none
@[simp] theorem fldK_ins {n : Str} {ci ce : Nat → Bool} {c : Nat} {ns : List Str} {ps : List P} : fldK n ci ce (.ins c ns ps) = if ci c = true then (fldP ns ps n).map .ok else none := rfl
@[simp] theorem fldK_exc {n : Str} {ci ce : Nat → Bool} {c : Nat} {fe : List (Str × V)} : fldK n ci ce (.exc c fe) = if ce c = true then (fe.lookup n).map fun v => .ok (.sc v) else none := rfl
@[simp] theorem xFld_ap {n : Str} {ci ce : Nat → Bool} : xFld n ci ce f ρ = bnd (f ρ) (fldK n ci ce) := by
  show bnd _ _ = bnd _ _
  congr 1
@[simp] theorem fldP_cons {n m : Str} {ns : List Str} {x : P} {ps : List P} : fldP (m :: ns) (x :: ps) n = if n = m then some x else fldP ns ps n := by
  unfold fldP
  rw [List.zip_cons_cons, List.lookup_cons]
  by_cases h : n = m
  · simp [h]
  · have : (n == m) = false := by rw [beq_eq_false_iff_ne]; exact h
    simp [h, this]
def raiseK (ρ : PEnv) (r : R) : Option PO := match r with
  | some (.er c fs) => some (.er c fs ρ)
  | _ => none
@[simp] theorem raiseK_er {c : Nat} {fe : List (Str × V)} : raiseK ρ (some (.er c fe)) = some (.er c fe ρ) := rfl
@[simp] theorem xRaise_ap : xRaise f ρ = raiseK ρ (f ρ) := by
  unfold xRaise raiseK
  split <;> simp_all
def miK (c : Nat) (mk : List V → Option (List (Str × V))) (o : Option PRs) : R := match o with
  | some (.ok ps) => match scs ps with
    | some vs => (mk vs).map fun fe => .er c fe
    | none => none
  | _ => none
@[simp] theorem miK_ok {c : Nat} {mk : List V → Option (List (Str × V))} {ps : List P} : miK c mk (some (.ok ps)) = match scs ps with
    | some vs => (mk vs).map fun fe => .er c fe
    | none => none := rfl
@[simp] theorem xMI_ap {c : Nat} {mk : List V → Option (List (Str × V))} : xMI c mk fs ρ = miK c mk (xArgs fs ρ) := by
  unfold xMI miK
  cases xArgs fs ρ with
  | none => rfl
  | some r =>
    cases r with
    | er c fe => rfl
    | ok ps =>
      simp only
      cases scs ps with
      | none => rfl
      | some vs =>
        simp only
        cases mk vs <;> rfl
@[simp] theorem xM0_ap {c : Nat} : xM0 c ρ = some (.er c []) := rfl
def m1K (c : Nat) (r : R) : R := match r with
  | some (.ok _) => some (.er c [])
  | _ => none
@[simp] theorem m1K_ok {c : Nat} : m1K c (some (.ok p)) = some (.er c []) := rfl
@[simp] theorem xM1_ap {c : Nat} : xM1 c f ρ = m1K c (f ρ) := rfl
def mkvK (r : R) : R := match r with
  | some (.er c fs) => ret (.exc c fs)
  | _ => none
@[simp] theorem mkvK_er {c : Nat} {fe : List (Str × V)} : mkvK (some (.er c fe)) = some (.ok (.exc c fe)) := rfl
@[simp] theorem xMkV_ap : xMkV f ρ = mkvK (f ρ) := rfl
@[simp] theorem scs_nil : scs [] = some [] := rfl
@[simp] theorem scs_cons {x : V} {ps : List P} : scs (.sc x :: ps) = (scs ps).map fun xs => x :: xs := by
  rw [scs]
  cases scs ps <;> rfl
def methK (c : Nat) (m : Str) (q : List P → R) (o : P) (a : Option PRs) : R := match o with
  | .ins c' ns ps => if c' = c ∧ m ∉ ns then bnds a fun es => q (.ins c' ns ps :: es) else none
  | _ => none
@[simp] theorem methK_ins {c c' : Nat} {m : Str} {k : List P → R} {ns : List Str} {ps : List P} {a : Option PRs} : methK c m k (.ins c' ns ps) a = if c' = c ∧ m ∉ ns then bnds a fun es => k (.ins c' ns ps :: es) else none := rfl
@[simp] theorem xMeth_ap {c : Nat} {m : Str} {k : List P → R} : xMeth c m k f fs ρ = bnd (f ρ) fun o => methK c m k o (xArgs fs ρ) := rfl
/-- a comprehension -/
def lcK (tk : Tk) (c : Option X) (e : X) (vs : List Nat) (ρ : PEnv) (o : Option (List P)) : R := match o with
  | none => none
  | some xs => if xs.length ≤ 1000000 then (lcL (lcStep tk c e (wipeP ρ vs)) xs).map fun ys => .ok (.lst ys) else none
theorem lcK_some {tk : Tk} {c : Option X} {e : X} {vs : List Nat} {xs ys : List P} (h1 : xs.length ≤ 1000000) (h2 : lcL (lcStep tk c e (wipeP ρ vs)) xs = some ys) : lcK tk c e vs ρ (some xs) = some (.ok (.lst ys)) := by
  unfold lcK
  simp only
  rw [if_pos h1, h2]
  rfl
@[simp] theorem xLc_ap {it : It'} {tk : Tk} {c : Option X} {e : X} {vs : List Nat} : xLc it tk c e vs ρ = lcK tk c e vs ρ (it ρ) := by
  unfold xLc lcK
  cases it ρ with
  | none => rfl
  | some xs =>
    simp only
    split
    · cases lcL (lcStep tk c e (wipeP ρ vs)) xs <;> rfl
    · rfl
def okO (r : R) : Option (Option P) := match r with
  | some (.ok p) => some (some p)
  | _ => none
@[simp] theorem okO_ok : okO (some (.ok p)) = some (some p) := rfl
def pickO (r : R) (y : Option (Option P)) : Option (Option P) := match r with
  | some (.ok (.sc (.bl true))) => y
  | some (.ok (.sc (.bl false))) => some none
  | _ => none
@[simp] theorem pickO_bl {b : Bool} {y : Option (Option P)} : pickO (some (.ok (.sc (.bl b)))) y = if b = true then y else some none := by cases b <;> rfl
def stepK (c : Option X) (e : X) (o : Option PEnv) : Option (Option P) := match o with
  | none => none
  | some ρ => match c with
    | none => okO (e ρ)
    | some c => pickO (c ρ) (okO (e ρ))
@[simp] theorem stepK_none {e : X} : stepK none e (some ρ) = okO (e ρ) := rfl
@[simp] theorem stepK_some {c e : X} : stepK (some c) e (some ρ) = pickO (c ρ) (okO (e ρ)) := rfl
theorem lcStep_ap {tk : Tk} {c : Option X} {e : X} {x : P} : lcStep tk c e ρ x = stepK c e (tk x ρ) := by
  unfold lcStep stepK
  cases tk x ρ with
  | none => rfl
  | some ρ1 => cases c <;> rfl
def lcC (o : Option (Option P)) (r : Option (List P)) : Option (List P) := match o with
  | none => none
  | some y => match r with
    | none => none
    | some ys => some (y.toList ++ ys)
@[simp] theorem lcC_some {o : Option P} {ys : List P} : lcC (some o) (some ys) = some (o.toList ++ ys) := rfl
theorem lcL_nil {g : P → Option (Option P)} : lcL g [] = some [] := rfl
theorem lcL_cons {g : P → Option (Option P)} {x : P} {xs : List P} : lcL g (x :: xs) = lcC (g x) (lcL g xs) := by
  rw [lcL]
  cases g x with
  | none => rfl
  | some y => cases lcL g xs <;> rfl
theorem lcK_ap {tk : Tk} {c : Option X} {e : X} {vs : List Nat} {xs : List P} : lcK tk c e vs ρ (some xs) = if xs.length ≤ 1000000 then (lcL (lcStep tk c e (wipeP ρ vs)) xs).map fun ys => .ok (.lst ys) else none := rfl
@[simp] theorem qIsy_cls {tb : Nat → Nat → Option Bool} {tv : Nat → Option Bool} {c d : Nat} {fe : List (Str × V)} : qIsy tb tv [.exc c fe, .cls d] = (tb c d).map fun b => .bl b := rfl
@[simp] theorem qIsy_val {tb : Nat → Nat → Option Bool} {tv : Nat → Option Bool} {c : Nat} {fe : List (Str × V)} : qIsy tb tv [.exc c fe, .sc (.ty "ValueError")] = (tv c).map fun b => .bl b := rfl
def tryK (sub : Nat → Bool) (i j : Nat) (o : Option PO) : Option PO := match o with
  | some (.er c fs ρ') => if sub c = true then some (.nx (((ρ'.set i none).set j (some (.exc c fs))).set i none)) else none
  | o => o
@[simp] theorem tryK_nx {sub : Nat → Bool} : tryK sub i j (some (.nx ρ)) = some (.nx ρ) := rfl
@[simp] theorem tryK_rt {sub : Nat → Bool} : tryK sub i j (some (.rt p)) = some (.rt p) := rfl
@[simp] theorem tryK_er {sub : Nat → Bool} {c : Nat} {fe : List (Str × V)} : tryK sub i j (some (.er c fe ρ)) = if sub c = true then some (.nx (((ρ.set i none).set j (some (.exc c fe))).set i none)) else none := rfl
@[simp] theorem xTry_ap {sub : Nat → Bool} : xTry sub i j s ρ = tryK sub i j (s ρ) := rfl
theorem step_none {tk : Tk} {e : X} {ρ1 : PEnv} {x q : P} (h1 : tk x ρ = some ρ1) (h2 : e ρ1 = some (.ok q)) : lcStep tk none e ρ x = some (some q) := by
  unfold lcStep
  rw [h1]
  simp only
  rw [h2]
theorem step_yes {tk : Tk} {c e : X} {ρ1 : PEnv} {x q : P} (h1 : tk x ρ = some ρ1) (h3 : c ρ1 = some (.ok (.bl true))) (h2 : e ρ1 = some (.ok q)) : lcStep tk (some c) e ρ x = some (some q) := by
  unfold lcStep
  rw [h1]
  simp only
  rw [h3]
  simp only
  rw [h2]
theorem step_no {tk : Tk} {c e : X} {ρ1 : PEnv} {x : P} (h1 : tk x ρ = some ρ1) (h3 : c ρ1 = some (.ok (.bl false))) : lcStep tk (some c) e ρ x = some none := by
  unfold lcStep
  rw [h1]
  simp only
  rw [h3]
/-! choices pushed inwards -/
@[simp] theorem ite_ok {c : Prop} [Decidable c] : (if c then some (PR.ok p) else some (PR.ok q)) = some (PR.ok (if c then p else q)) := by split <;> rfl
@[simp] theorem ite_int {c : Prop} [Decidable c] : (if c then P.sc (.int a) else P.sc (.int b)) = P.sc (.int (if c then a else b)) := by split <;> rfl
@[simp] theorem ite_bl {c : Prop} [Decidable c] : (if c then P.sc (.bl u) else P.sc (.bl v)) = P.sc (.bl (if c then u else v)) := by split <;> rfl
@[simp] theorem ite_str {c : Prop} [Decidable c] {x y : Str} : (if c then P.sc (.str x) else P.sc (.str y)) = P.sc (.str (if c then x else y)) := by split <;> rfl
theorem atI_in {ps : List P} {i : Int} (h0 : 0 ≤ i) (h1 : i < ps.length) : atI ps i = some (ps.getD i.toNat .non) := by
  unfold atI ixN
  rw [if_pos h0, if_pos h1]
  show ps[i.toNat]? = _
  rw [List.getD_eq_getElem?_getD, List.getElem?_eq_getElem (by omega)]
  rfl
theorem atI_mod {ps : List P} {n k : Int} (h : (ps.length : Int) = k) (hk : 0 < k) : atI ps (n % k) = some (ps.getD (n % k).toNat .non) :=
  atI_in (Int.emod_nonneg _ (by omega)) (by rw [h]; exact Int.emod_lt_of_pos _ hk)
theorem at2 {x y : P} {n : Int} : atI [x, y] (n % 2) = some (if n % 2 = 0 then x else y) := by
  rw [atI_mod (k := 2) rfl (by decide)]
  have := Int.emod_two_eq n
  rcases this with h | h <;> simp [h]
@[simp] theorem atI_zero {x : P} {ps : List P} : atI (x :: ps) 0 = some x := by
  unfold atI ixN
  simp
@[simp] theorem atI_one {x y : P} {ps : List P} : atI (x :: y :: ps) 1 = some y := by
  rw [atI_in (by decide) (by simp only [List.length_cons]; omega)]
  rfl
@[simp] theorem atI_two {x y z : P} {ps : List P} : atI (x :: y :: z :: ps) 2 = some z := by
  rw [atI_in (by decide) (by simp only [List.length_cons]; omega)]
  rfl
@[simp] theorem atI_three {x y z u : P} {ps : List P} : atI (x :: y :: z :: u :: ps) 3 = some u := by
  rw [atI_in (by decide) (by simp only [List.length_cons]; omega)]
  rfl
/-! in place -/
theorem chgK_nil {w : W} {k : Chg} {ps : List P} (h : ρ.getD i none = some (.lst ps)) (hw : w.own = true) : xChg w i .root k fs ρ = match xArgs fs ρ with
    | some (.ok vs) => (match k ps vs with | some (ps', _) => some (.nx (ρ.set i (some (.lst ps')))) | none => none)
    | _ => none := by
  unfold xChg chgRun
  rw [h]
  simp only [Pth.run]
  rw [if_pos ⟨rfl, hw⟩]
  cases xArgs fs ρ with
  | none => rfl
  | some r =>
    cases r with
    | er c fe => rfl
    | ok vs =>
      simp only
      cases k ps vs with
      | none => rfl
      | some x => rfl
def chgK (i : Nat) (ρ : PEnv) (k : Chg) (o : Option P) (a : Option PRs) : Option PO := match o with
  | some (.lst ps) => match a with
    | some (.ok vs) => (k ps vs).map fun x => .nx (ρ.set i (some (.lst x.1)))
    | _ => none
  | _ => none
@[simp] theorem chgK_ok {k : Chg} {ps vs : List P} : chgK i ρ k (some (.lst ps)) (some (.ok vs)) = (k ps vs).map fun x => .nx (ρ.set i (some (.lst x.1))) := rfl
theorem xChg_root {w : W} {k : Chg} (hw : w.own = true) : xChg w i .root k fs ρ = chgK i ρ k (ρ.getD i none) (xArgs fs ρ) := by
  unfold xChg chgRun chgK
  cases ρ.getD i none with
  | none => rfl
  | some v =>
    cases v with
    | lst ps =>
      simp only [Pth.run]
      rw [if_pos ⟨rfl, hw⟩]
      cases xArgs fs ρ with
      | none => rfl
      | some r =>
        cases r with
        | er c fe => rfl
        | ok vs =>
          simp only
          cases k ps vs with
          | none => rfl
          | some x => rfl
    | _ => rfl
@[simp] theorem xChg_o {w : W} {k : Chg} : xChg (.o w) i .root k fs ρ = chgK i ρ k (ρ.getD i none) (xArgs fs ρ) := xChg_root rfl
@[simp] theorem xChg_f {w : List W} {k : Chg} : xChg (.f w) i .root k fs ρ = chgK i ρ k (ρ.getD i none) (xArgs fs ρ) := xChg_root rfl
@[simp] theorem qAppend_ap {ps : List P} : qAppend ps [p] = if ps.length < sizeLine then some (ps ++ [p], .non) else none := rfl
@[simp] theorem qClear_ap {ps : List P} : qClear ps [] = some ([], .non) := rfl
@[simp] theorem qExtend_ap {ps qs : List P} : qExtend ps [.lst qs] = if ps.length + qs.length ≤ sizeLine then some (ps ++ qs, .non) else none := rfl
@[simp] theorem qInsert_ap {ps : List P} : qInsert ps [.sc (.int a), p] = if ps.length < sizeLine ∧ 0 ≤ a ∧ a < 2 ^ 63 then some (ps.take a.toNat ++ [p] ++ ps.drop a.toNat, .non) else none := rfl
theorem app_root {w : W} {ps : List P} (h : ρ.getD i none = some (.lst ps)) (hw : w.own = true) (hv : f ρ = some (.ok p)) (hl : ps.length < sizeLine) : xChg w i .root qAppend [f] ρ = some (.nx (ρ.set i (some (.lst (ps ++ [p]))))) := by
  rw [chgK_nil h hw, xArgs_ap, hv]
  simp [qAppend, hl]
/-! slices -/
def intK (r : R) : Option (Option Int) := match r with
  | some (.ok (.sc (.int i))) => some (some i)
  | _ => none
@[simp] theorem intK_int : intK (some (.ok (.sc (.int a)))) = some (some a) := rfl
@[simp] theorem optI_none : optI none ρ = some none := rfl
@[simp] theorem optI_some : optI (some f) ρ = intK (f ρ) := rfl
def slcO (p : P) (l h : Option (Option Int)) : R := match l with
  | none => none
  | some l => match h with
    | none => none
    | some h => (qSlc l h p).map .ok
@[simp] theorem slcO_some {l h : Option Int} : slcO p (some l) (some h) = (qSlc l h p).map .ok := rfl
@[simp] theorem xSlc_ap {lo hi : Option X} : xSlc f lo hi ρ = bnd (f ρ) fun p => slcO p (optI lo ρ) (optI hi ρ) := rfl
@[simp] theorem qSlc_lst {l h : Option Int} {ps : List P} : qSlc l h (.lst ps) = some (.lst (cutX ps l h)) := rfl
theorem cut_to {α : Type} {xs : List α} {i : Int} (h : 0 ≤ i) : cutX xs none (some i) = xs.take i.toNat := by
  unfold cutX HT.sIx
  simp only [Nat.sub_zero, List.drop_zero]
  rw [if_neg (by omega)]
  by_cases hh : i.toNat ≤ xs.length
  · rw [Nat.min_eq_left hh]
  · rw [Nat.min_eq_right (by omega), List.take_length, List.take_of_length_le (by omega)]
theorem cut_from {α : Type} {xs : List α} {i : Int} (h : 0 ≤ i) : cutX xs (some i) none = xs.drop i.toNat := by
  unfold cutX HT.sIx
  simp only
  rw [if_neg (by omega)]
  by_cases hh : i.toNat ≤ xs.length
  · rw [Nat.min_eq_left hh, ← List.length_drop, List.take_length]
  · have e : min i.toNat xs.length = xs.length := by omega
    rw [e, List.drop_of_length_le (Nat.le_refl _), List.drop_of_length_le (by omega)]
    simp
theorem cut_mid {α : Type} {xs : List α} {i j : Int} (h : 0 ≤ i) (h' : 0 ≤ j) : cutX xs (some i) (some j) = (xs.take j.toNat).drop i.toNat := by
  unfold cutX HT.sIx
  simp only
  rw [if_neg (by omega), if_neg (by omega), List.drop_take]
  by_cases h1 : i.toNat ≤ xs.length
  · rw [Nat.min_eq_left h1]
    by_cases h2 : j.toNat ≤ xs.length
    · rw [Nat.min_eq_left h2]
    · have e : min j.toNat xs.length = xs.length := by omega
      rw [e, ← List.length_drop, List.take_length, List.take_of_length_le (by rw [List.length_drop]; omega)]
  · have e : min i.toNat xs.length = xs.length := by omega
    rw [e, List.drop_of_length_le (Nat.le_refl _), List.drop_of_length_le (by omega)]
    simp
theorem cut_neg {α : Type} {xs : List α} : cutX xs none (some (-1)) = xs.dropLast := by
  unfold cutX HT.sIx
  simp only [Nat.sub_zero, List.drop_zero]
  rw [if_pos (by omega), List.dropLast_eq_take]
  congr 1
  omega
/-! what is kept by its owner -/
@[simp] theorem lOP_s : lOP .s p = true := by
  cases p with
  | sc x => rw [lOP]
  | cls x => rw [lOP]
  | exc _ _ => rw [lOP]
  | _ => rw [lOP]; rfl
theorem lOPs_s {w : W} (h : ∀ n, w.kid n = .s) : ∀ (ps : List P) (k : Nat), lOPs w k ps = true
  | [], k => by rw [lOPs]
  | p :: ps, k => by rw [lOPs, h, lOP_s, lOPs_s h ps]; rfl
@[simp] theorem lOP_os {ps : List P} : lOP (.o .s) (.lst ps) = true := by
  rw [lOP, lOPs_s fun _ => rfl]
  rfl
@[simp] theorem nLP_sc {w : W} {x : V} : nLP w (.sc x) = true := by rw [nLP]
@[simp] theorem nLP_exc {w : W} {c : Nat} {fe : List (Str × V)} : nLP w (.exc c fe) = true := by rw [nLP]
@[simp] theorem nLP_tup {w : W} {ps : List P} : nLP w (.tup ps) = nLPs w 0 ps := by rw [nLP]
@[simp] theorem nLP_ins {w : W} {c : Nat} {ns : List Str} {ps : List P} : nLP w (.ins c ns ps) = nLPs w 0 ps := by rw [nLP]
@[simp] theorem nLP_lst {w : W} {ps : List P} : nLP w (.lst ps) = (w.own && nLPs w 0 ps) := by rw [nLP]
@[simp] theorem nLPs_nil {w : W} {k : Nat} : nLPs w k [] = true := by rw [nLPs]
@[simp] theorem nLPs_cons {w : W} {k : Nat} {ps : List P} : nLPs w k (p :: ps) = (nLP (w.kid k) p && nLPs w (k + 1) ps) := by rw [nLPs]
theorem nLPs_all {w : W} {n : Nat} : ∀ {ps : List P}, (∀ p ∈ ps, ∀ k, nLP (w.kid k) p = true) → nLPs w n ps = true
  | [], _ => nLPs_nil
  | p :: ps, h => by
    rw [nLPs_cons, h p List.mem_cons_self, nLPs_all fun q hq => h q (List.mem_cons_of_mem _ hq)]
    rfl
def keepK (wi w : W) (o : Option P) (r : R) : R := match o with
  | some v => if lOP wi v = true then (match r with
      | some (.ok p) => if nLP w p = true then ret p else none
      | o => o)
    else none
  | none => r
theorem xKeep_ap {wi w : W} : xKeep wi w i f ρ = keepK wi w (ρ.getD i none) (f ρ) := by
  unfold xKeep keepK
  cases ρ.getD i none <;> rfl
theorem keepK_ok {wi w : W} {v : P} (h1 : lOP wi v = true) (h2 : nLP w p = true) : keepK wi w (some v) (some (.ok p)) = some (.ok p) := by
  unfold keepK
  simp only
  rw [if_pos h1, if_pos h2]
@[simp] theorem keepK_er {wi w : W} {v : P} {c : Nat} {fe : List (Str × V)} : keepK wi w (some v) (some (.er c fe)) = if lOP wi v = true then some (.er c fe) else none := rfl
/-! what lies deeper -/
def chgD (w : W) (i : Nat) (ρ : PEnv) (k : Chg) (v : P) (o : Option (List Nat × P)) (a : Option PRs) : Option PO := match o with
  | some (π, .lst ps) => if ownAt w π = true ∧ (w.at π).own = true then (match a with
      | some (.ok vs) => (k ps vs).map fun x => .nx (ρ.set i (some (putP v π (.lst x.1))))
      | _ => none) else none
  | _ => none
theorem xChg_deep {w : W} {pt : Pth} {k : Chg} {v : P} (h : ρ.getD i none = some v) : xChg w i pt k fs ρ = chgD w i ρ k v (pt.run ρ v) (xArgs fs ρ) := by
  unfold xChg chgRun chgD
  rw [h]
  simp only
  cases pt.run ρ v with
  | none => rfl
  | some x =>
    obtain ⟨π, u⟩ := x
    cases u with
    | lst ps =>
      simp only
      by_cases hc : ownAt w π = true ∧ (w.at π).own = true
      · simp only [if_pos hc]
        cases xArgs fs ρ with
        | none => rfl
        | some r =>
          cases r with
          | er c fe => rfl
          | ok vs =>
            simp only
            cases k ps vs with
            | none => rfl
            | some x => rfl
      · simp only [if_neg hc]
    | _ => rfl
/-! while -/
theorem whileL_meas {σ : Type} {c : X} {body : S} (env : σ → PEnv) (I : σ → Prop) (go : σ → Bool) (m : σ → Nat) (hc : ∀ x, I x → c (env x) = some (.ok (.bl (go x)))) (hb : ∀ x, I x → go x = true → ∃ y, body (env x) = some (.nx (env y)) ∧ I y ∧ m y < m x) :
    ∀ (n : Nat) (x : σ), m x < n → I x → ∃ y, whileL c body n (env x) = some (.nx (env y)) ∧ I y ∧ go y = false
  | 0, x, h, _ => absurd h (Nat.not_lt_zero _)
  | n + 1, x, h, hi => by
    cases hg : go x with
    | false =>
      refine ⟨x, ?_, hi, hg⟩
      rw [whileL, hc x hi, hg]
    | true =>
      obtain ⟨y, h1, h2, h3⟩ := hb x hi hg
      obtain ⟨z, h4, h5, h6⟩ := whileL_meas env I go m hc hb n y (by omega) h2
      refine ⟨z, ?_, h5, h6⟩
      rw [whileL, hc x hi, hg]
      simp only
      rw [h1]
      exact h4
@[simp] theorem xWhile_ap {n : Nat} {c : X} : xWhile n c s ρ = whileL c s n ρ := rfl
/-! loops: what each turn makes of what is carried -/
/-- a loop that always goes on: the names behind each turn are a function of what is carried -/
theorem forL_fold {α σ : Type} {tk : Tk} {body : S} (inj : α → P) (env : σ → PEnv) (step : σ → α → σ) : ∀ (xs : List α) (c : σ), (∀ (c : σ) (x : α), x ∈ xs → ∃ ρ1, tk (inj x) (env c) = some ρ1 ∧ body ρ1 = some (.nx (env (step c x)))) → forL tk body (xs.map inj) (env c) = some (.nx (env (xs.foldl step c)))
  | [], c, _ => rfl
  | x :: xs, c, h => by
    obtain ⟨ρ1, h1, h2⟩ := h c x List.mem_cons_self
    rw [List.map_cons, forL, h1]
    simp only [h2]
    rw [forL_fold inj env step xs (step c x) fun c y hy => h c y (List.mem_cons_of_mem _ hy)]
    rfl
theorem forL_step {tk : Tk} {q : P} {qs : List P} {ρ1 ρ2 : PEnv} (h1 : tk q ρ = some ρ1) (h2 : s ρ1 = some (.nx ρ2)) : forL tk s (q :: qs) ρ = forL tk s qs ρ2 := by
  rw [forL_cons, h1, oK_some, h2]
  rfl
theorem lcL_map {α : Type} (inj : α → P) (g : α → P) {f : P → Option (Option P)} : ∀ (xs : List α), (∀ x ∈ xs, f (inj x) = some (some (g x))) → lcL f (xs.map inj) = some (xs.map g)
  | [], _ => rfl
  | x :: xs, h => by
    rw [List.map_cons, lcL, h x List.mem_cons_self]
    simp only [lcL_map inj g xs fun y hy => h y (List.mem_cons_of_mem _ hy)]
    rfl
theorem lcL_filter {α : Type} (inj : α → P) (g : α → P) (c : α → Bool) {f : P → Option (Option P)} : ∀ (xs : List α), (∀ x ∈ xs, f (inj x) = some (if c x = true then some (g x) else none)) → lcL f (xs.map inj) = some ((xs.filter c).map g)
  | [], _ => rfl
  | x :: xs, h => by
    rw [List.map_cons, lcL, h x List.mem_cons_self]
    simp only [lcL_filter inj g c xs fun y hy => h y (List.mem_cons_of_mem _ hy)]
    by_cases hc : c x = true
    · rw [if_pos hc, List.filter_cons_of_pos hc]; rfl
    · rw [if_neg hc, List.filter_cons_of_neg hc]; rfl
end
end FP

/-! a list comprehension that a raise may leave: its calls may raise what the def lets through -/
namespace FP
open PySem PySem.Spec PyProof.Rows L2

/-- the block of a comprehension, where calls may raise -/
@[reducible] def blkR (X : Cx) (s : Shared) (H : Hp) (scope : Scope) (ce : PySem.Env) (fp : List Addr) (E : XK) : Cx :=
  { X.blk s H scope ce fp with xe := fun u s' => ∃ pins σ H1 s1, L2.Inv (X.blk s H scope ce fp) pins σ H1 s1 ∧ CX X.prog X.w X.stack H1 s1 E u s' }
section
variable {X : Cx} {E : XK}
theorem ok_blk {s : Shared} {H : Hp} {scope : Scope} {ce : PySem.Env} {fp : List Addr} (h : (X.blk s H scope ce fp).Ok) : (blkR X s H scope ce fp E).Ok :=
  ⟨h.mod, h.kind, h.glob, h.blt, h.above, h.inj, h.has, h.cab, h.hd, h.frames, h.stk, h.exf, h.bs, h.bsz, h.noex, h.exfs, h.funs, h.frf⟩
theorem blk_ok {s : Shared} {H : Hp} {scope : Scope} {ce : PySem.Env} {fp : List Addr} (h : (blkR X s H scope ce fp E).Ok) : (X.blk s H scope ce fp).Ok :=
  ⟨h.mod, h.kind, h.glob, h.blt, h.above, h.inj, h.has, h.cab, h.hd, h.frames, h.stk, h.exf, h.bs, h.bsz, h.noex, h.exfs, h.funs, h.frf⟩
theorem inv_blk {s : Shared} {H : Hp} {scope : Scope} {ce : PySem.Env} {fp : List Addr} {pins σ H1 s1} (h : L2.Inv (X.blk s H scope ce fp) pins σ H1 s1) : L2.Inv (blkR X s H scope ce fp E) pins σ H1 s1 :=
  ⟨ok_blk h.ok, h.os, h.bare, h.base, h.loc, h.cell, h.free, h.freeC, h.pin, h.hok, h.len⟩
theorem blk_inv {s : Shared} {H : Hp} {scope : Scope} {ce : PySem.Env} {fp : List Addr} {pins σ H1 s1} (h : L2.Inv (blkR X s H scope ce fp E) pins σ H1 s1) : L2.Inv (X.blk s H scope ce fp) pins σ H1 s1 :=
  ⟨blk_ok h.ok, h.os, h.bare, h.base, h.loc, h.cell, h.free, h.freeC, h.pin, h.hok, h.len⟩
/-- what the block's calls raise, it takes -/
theorem passR {s : Shared} {H : Hp} {scope : Scope} {ce : PySem.Env} {fp : List Addr} : ∀ σ, PassesAt (CX X.prog X.w) (blkR X s H scope ce fp E) σ E :=
  fun σ pins H1 s1 e s' I c => ⟨pins, σ, H1, s1, blk_inv I, c⟩
theorem passesR {s : Shared} {H : Hp} {scope : Scope} {ce : PySem.Env} {fp : List Addr} : Passes (CX X.prog X.w) (blkR X s H scope ce fp E) E :=
  fun pins σ H1 s1 e s' I c => ⟨pins, σ, H1, s1, blk_inv I, c⟩

/-- a raise leaves the comprehension and is its def's -/
theorem comp_raised {pins : List (Addr × Obj)} {σ : L2.St} {H3 Hc : Hp} {S3 sc s' : Shared} {C : Addr} {cenv : PySem.Env} {u : Value} {m : Str → Option Value}
    (hs : X.stack = X.env :: X.outer) (hf : X.env.frame = some X.env.locals) (tk : L2.Takes X fun cls d _ H => E cls d H)
    (I3 : L2.Inv X pins σ H3 S3) (hC : C = S3.heap.objs.size) (hcl : cenv.locals = C) (hcf : cenv.frame = X.env.frame)
    (I7 : L2.Inv X pins σ Hc sc) (hn : sc.heap.Ns C m) (nC : Hc C = none)
    (c : CX X.prog X.w X.stack Hc sc E u s') :
    notedBy (model X.prog X.w) X.A cenv (CompFails (model X.prog X.w) X.A X.xe cenv) u s' := by
  obtain ⟨a, B, H', cls, d, rfl, fl, hok, ub, na, os, ag, hE⟩ := c
  have fc : FpOk X pins Hc C := Inv.fpOk I3 (Nat.le_of_eq hC.symm) nC
  obtain ⟨-, fcl, fcf, fcs, fcc, fcp⟩ := fc
  have nst : C ∉ frs X.stack := fun h => (List.mem_cons.mp (Inv.stkSub I7 _ h)).elim fcl fcf
  have hfr : X.A.frames = some (X.env :: X.outer) := I7.ok.frames.trans (by rw [hs])
  have hB : ∀ o, sc.heap.get? C = some o → B.get? C = some o := fun o e => ub.keep C o e nC nst
  have hn0 := hn
  obtain ⟨oC, esC, epC, gC, dC, -⟩ := hn0
  have gB : B.get? C = some oC := hB _ gC
  show wpAny _ _ (noteFrame (.ref a) cenv) _ _ _
  rw [noteFrame_env _ hcf]
  refine HandSPX.looks_onZ Zc.steady hfr hf (hs ▸ fl) fun h1 hh up => ?_
  have g1 : ∃ sl, h1.get? C = some { cls := oC.cls, dict := oC.dict, data := oC.data, slots := sl } := up C oC (fl.1 C oC gB) (fun vs z => by rw [dC] at z; cases z)
  have ns1 : h1.Ns C m := by
    obtain ⟨sl, g1⟩ := g1
    obtain ⟨o, es, ep, q1, q2, q3, q4⟩ := hn
    rw [gC] at q1; cases q1
    exact ⟨_, es, ep, g1, q2, q3, q4⟩
  refine ⟨m, hcl ▸ ns1, fun h' m' ns' sb => ?_⟩
  rw [hcl] at ns' sb
  have aC : a ≠ C := fun z => by have y := fl.2.1; rw [z, gB] at y; cases y
  -- the heap without the block's names
  have hh' : HandSPX.HeldZ (PySem.W.hideAll B [C]) X.stack a (Zc cls d) X.env.locals h' := by
    refine ⟨fun b o e => ?_, ?_, ?_, ?_⟩
    · have hb : b ≠ C := fun z => by rw [z, PySem.W.hideAll_none [C] (by simp)] at e; cases e
      rw [sb.2 b hb]
      exact hh.1 b o (PySem.W.of_hideAll [C] e)
    · cases q : (PySem.W.hideAll B [C]).get? a with
      | none => rfl
      | some o => have z := PySem.W.of_hideAll [C] q; rw [hh.2.1] at z; cases z
    · have z : h'.FunFrames B X.stack := (hs ▸ hh.2.2.1 : h1.FunFrames B X.stack).sameBut sb ns'
      refine funFrames_none z fun L hL => ?_
      cases q : (PySem.W.hideAll B [C]).get? L with
      | none => rfl
      | some o => have y := PySem.W.of_hideAll [C] q; rw [(Heap.FunFrames.mem z hL).1] at y; cases y
    · obtain ⟨oe, vs, T, oT, ts, q1, q2, q3, q4, q5, q6, q7, q8, q9⟩ := hh.2.2.2
      have TC : T ≠ C := fun z => by rw [z, gB] at q5; cases q5
      refine ⟨oe, vs, T, oT, ts, by rw [sb.2 a aC]; exact q1, q2, q3, q4, ?_, q6, by rw [sb.2 T TC]; exact q7, q8, q9⟩
      cases q : (PySem.W.hideAll B [C]).get? T with
      | none => rfl
      | some o => have z := PySem.W.of_hideAll [C] q; rw [q5] at z; cases z
  obtain ⟨oe, vs, T, oT, ts, q1, q2, q3, q4, q5, q6, q7, q8, q9⟩ := hh'.2.2.2
  refine wpAny_bind (wpAny_field q1 q3 q4 ?_)
  have nT : ((Value.ref T == Value.none) = true) = False := by simp
  simp only [nT, if_false]
  rw [hcf, hf]
  refine wpAny_bind (HandSPX.setFlight_onZ hh' fun h2 hh2 up2 => wpAny_throw (tk _ _ ?_))
  obtain ⟨G, k1, k2⟩ := restrict s'.heap fun b => ((PySem.W.hideAll B [C]).get? b).isSome || decide (b ∈ frs X.stack)
  have og : ∀ b o, G.get? b = some o → s'.heap.get? b = some o ∧ (((PySem.W.hideAll B [C]).get? b).isSome = true ∨ b ∈ frs X.stack) := fun b o e => by
    cases q : (((PySem.W.hideAll B [C]).get? b).isSome || decide (b ∈ frs X.stack)) with
    | false => rw [k2 b q] at e; cases e
    | true =>
      rw [k1 b q] at e
      exact ⟨e, by simpa using q⟩
  have gBs : ∀ b o, (PySem.W.hideAll B [C]).get? b = some o → G.get? b = some o := fun b o e => by
    rw [k1 b (by simp [e])]
    exact fl.1 b o (PySem.W.of_hideAll [C] e)
  have gF : ∀ b, b ∈ frs X.stack → G.get? b = s'.heap.get? b := fun b hb => k1 b (by simp [hb])
  have nGC : ∀ b o, G.get? b = some o → b ≠ C := fun b o e z => by
    rcases (og b o e).2 with h | h
    · rw [z, PySem.W.hideAll_none [C] (by simp)] at h; cases h
    · exact nst (z ▸ h)
  have bk : ∀ b o, B.get? b = some o → b ≠ C → (PySem.W.hideAll B [C]).get? b = some o := fun b o e n => PySem.W.hideAll_get [C] e (by simpa using n)
  have IG : L2.Inv X pins σ H' { heap := G, gens := s'.gens, drawn := s'.drawn, toks := s'.toks, os := sc.os } := by
    refine Inv.call (ch := [C]) I7 ⟨fun b o e n hb hc => gBs b o (bk b o (ub.keep b o e n hb) (by simpa using hc)), fun b o e n hb hc => ?_, fun b o e n hc => ub.free b o e n, fun b o e hc => ?_, ub.tups, ub.frzs, ub.tbls⟩ ?_ ag fun b hb => ?_
    · obtain ⟨sl, q⟩ := ub.slot b o e hb
      exact ⟨sl, by rw [gF b hb]; exact q⟩
    · by_cases hb : b ∈ frs X.stack
      · obtain ⟨sl, q⟩ := ub.slot b o e hb
        exact ⟨_, by rw [gF b hb]; exact q⟩
      · obtain ⟨o', q⟩ := ub.there b o e hb
        exact ⟨o', gBs b o' (bk b o' q (by simpa using hc))⟩
    · have n' : H' C = none := ub.free C oC gC nC
      exact fun a' o q => ObjOk.stay (hok a' o q) (fun c u hc r => gBs c u (bk c u r fun z => by
        rw [z] at hc
        rcases hc with hc | hc
        · rw [← hc, n'] at q; cases q
        · rw [n'] at hc; cases hc)) (fun x r => r) fun x x_1 r => r
    · simp only [List.mem_singleton] at hb
      subst hb
      exact ⟨fcs, fcl, fcc, fcp⟩
  refine ⟨a, PySem.W.hideAll B [C], _, pins, σ, H', cls, d, rfl, IG, fun b o e hb => ?_, fun b o e nf => ?_, .inr (.inr hh2), na, os, ag, hE⟩
  · obtain ⟨e1, e2⟩ := og b o e
    rcases e2 with h | h
    · obtain ⟨o', q⟩ := Option.isSome_iff_exists.mp h
      have z := fl.1 b o' (PySem.W.of_hideAll [C] q)
      rw [e1] at z; cases z
      exact q
    · exact absurd h hb
  · obtain ⟨e1, -⟩ := og b o e
    obtain ⟨sl, z1⟩ := up b o e1 nf
    have z2 : h'.get? b = _ := (sb.2 b (nGC b o e)).trans z1
    obtain ⟨sl2, z3⟩ := up2 b _ z2 nf
    exact ⟨sl2, z3⟩

/-- a list comprehension whose item may raise -/
theorem lc_coreR {elt tg iter : Expr} {ifs : List Expr} {scope : Scope} {own : List (Str × Nat)} {pos pos' : Pos} {wi : TI} {g : TG} {tt : TT} {te : TE} {pins : List (Addr × Obj)} {s : Shared} {σ : L2.St} {H : Hp} {Q : VK} {use : Option (Value → Sem Unit)} {Qf : Value → Shared → Prop}
    (hst : X.stack = X.env :: X.outer) (hf : X.env.frame = some X.env.locals) (tk : L2.Takes X fun cls d _ H => E cls d H)
    (hc : X.calm = true) (hN : X.N.Nodup) (hi : PI X tg iter wi) (ok : BlkOk X.N X.env.scope scope own)
    (hg : ∀ (s : Shared) (H : Hp) (C : Addr) (cl : List (Str × Addr)) (fp : List Addr), PG (X.blk s H scope (compEnvC scope cl C X.env) fp) tg g)
    (ht : ∀ (s : Shared) (H : Hp) (C : Addr) (cl : List (Str × Addr)) (fp : List Addr), PTs (X.blk s H scope (compEnvC scope cl C X.env) fp) ifs tt)
    (he : ∀ (s : Shared) (H : Hp) (C : Addr) (cl : List (Str × Addr)) (fp : List Addr), PE (blkR X s H scope (compEnvC scope cl C X.env) fp E) elt te)
    (hs : ∀ (x : Value), foldedSetIterable iter X.env x = pure x) (I : L2.Inv X pins σ H s) (h : tLc wi g tt te (own.map (·.snd)) σ H Q)
    (hRR : ∀ (D C : Addr) (cl : List (Str × Addr)) (s' : Shared) (m : Str → Option Value) (H' : Hp), L2.Inv X pins σ H' s' → Q (V.ref D) H' → s'.heap.Ns C m → FpOk X pins H' C → compEnds (model X.prog X.w) X.A X.xe use Qf (Value.ref D) (compEnvC scope cl C X.env) (Except.ok Flow.next) s') :
    wpAny (model X.prog X.w) X.A (comprehension (elt.ListComp [{ target := tg, iter := iter, ifs := ifs, is_async := 0 }] scope pos) scope X.env pos' (newList []) false (eval iter X.env) use) Qf X.xe s := by
    have hfree := fun y hy e => (ok.free y hy e).elim (fun k => I.ok.has y.fst (Or.inl k)) fun k => I.ok.has y.fst (Or.inr k)
    refine comprehension_at rfl hs (closure_ok hfree) ok.kind (fun y hy e => by rw [ok.uniq y hy, e]) ?_
    refine L2.thn (hi.run pins s σ H _ I h) fun xv s1 hx => L2.thn hx fun itv s2 h2 => ?_
    obtain ⟨it, fp, tn, J, H2, rfl, I2, T, st2, f2, q⟩ := h2
    refine wpAny_newObj_type (newEnv_comp ?_)
    have hDn : H2 s2.heap.objs.size = none := HOk.fresh I2.hok (Nat.le_refl _)
    obtain ⟨W, ⟨m0, w0⟩, turn⟩ := q s2.heap.objs.size hDn
    generalize hD : s2.heap.objs.size = D at hDn w0 turn
    generalize hS3 : ({ heap := s2.heap.push { cls := Value.type "list", data := Data.seq #[] }, gens := s2.gens, drawn := s2.drawn, toks := s2.toks, os := s2.os } : Shared) = S3
    have h3 : S3.heap = s2.heap.push { cls := Value.type "list", data := Data.seq #[] } := by rw [← hS3]
    have I3 : L2.Inv X pins σ (upd H2 D (HO.lst [])) S3 := by
      rw [← hS3]
      refine Inv.laid I2 (fun b o e => Heap.get?_push_of_some _ e) (Nat.le_of_eq hD) ⟨Nat.zero_le sizeLine, [], 0, Paired.nil, ?_⟩
      rw [← hD]
      exact Heap.get?_push_size s2.heap rfl
    have sz : ∀ b ∈ fp, b < s2.heap.objs.size := fun b hb => by
      obtain ⟨o, e, -⟩ := T.obj 0 s2.heap st2 b hb
      exact Heap.lt_size e
    have f3 : ∀ b ∈ fp, FpOk X pins (upd H2 D (HO.lst [])) b ∧ b < S3.heap.objs.size := fun b hb => by
      have hlt := sz b hb
      refine ⟨⟨?_, (f2 b hb).2⟩, ?_⟩
      · rw [upd_ne (by rw [← hD]; exact Nat.ne_of_lt hlt)]
        exact (f2 b hb).1
      · rw [h3, Heap.size_push]
        exact Nat.lt_succ_of_lt hlt
    have st3 : tn 0 S3.heap := T.keep 0 s2.heap S3.heap st2 fun b _ o e => by rw [h3]; exact Heap.get?_push_of_some _ e
    have I4 := block_start I3 ok hN f3
    generalize hcl : cellsFrom (S3.heap.objs.size + 1) scope.names (cloFrom X.env.cells scope.names []) = CELLS at I4
    have pg := hg S3 (upd H2 D (HO.lst [])) S3.heap.objs.size CELLS fp
    have pt := ht S3 (upd H2 D (HO.lst [])) S3.heap.objs.size CELLS fp
    have pe := he S3 (upd H2 D (HO.lst [])) S3.heap.objs.size CELLS fp
    generalize hS4 : ({ heap := pushCells (S3.heap.push { cls := Value.type "dict", data := Data.dict #[] }) scope.names, gens := S3.gens, drawn := S3.drawn, toks := S3.toks, os := S3.os } : Shared) = S4 at I4
    have nfp : ∀ b ∈ fp, upd H2 D (HO.lst []) b = none := fun b hb => (f3 b hb).1.1
    have st4 : tn 0 S4.heap := T.keep 0 S3.heap S4.heap st3 fun b _ o e => by
      rw [← hS4]
      exact pushCells_keeps scope.names _ b o (Heap.get?_push_of_some _ e)
    let XB : Cx := X.blk S3 (upd H2 D (HO.lst [])) scope (compEnvC scope CELLS S3.heap.objs.size X.env) fp
    let vs := own.map (·.snd)
    have stat : ∀ {σ' H' s'}, L2.Inv XB [] σ' H' s' → (∀ b ∈ fp, H' b = none) → ∀ b ∈ fp, FpOk XB [] H' b := fun {σ'} {H'} {s'} I' hn b hb =>
      ⟨hn b hb, (I'.ok.exf b hb).1, I'.ok.exfs b hb, .inl hb, fun x c e => (I'.ok.exf b hb).2 x c e, fun p hp => absurd (show p ∈ ([] : List (Addr × Obj)) from hp) (by simp)⟩
    have back : ∀ {pb σb Hc sc}, L2.Inv XB pb σb Hc sc → L2.Inv X pins σ Hc sc := fun I6 =>
      Inv.call' I3 I6.os I6.base I6.hok I6.bare fun b hb => ⟨(f3 b hb).1.2.2.2.1, (f3 b hb).1.2.1, (f3 b hb).1.2.2.2.2.1, (f3 b hb).1.2.2.2.2.2⟩
    let cenv := compEnvC scope CELLS S3.heap.objs.size X.env
    let R := compEnds (model X.prog X.w) X.A X.xe use Qf (Value.ref D) cenv
    have rz : ∀ u s', (blkR X S3 (upd H2 D (HO.lst [])) scope cenv fp E).xe u s' → notedBy (model X.prog X.w) X.A cenv (fun e s'' => R (Except.error e) s'') u s' := by
      rintro u s' ⟨pb, σb, Hc, sc, Ib, c⟩
      obtain ⟨m, hn, -⟩ := Ib.loc
      exact comp_raised hst hf tk I3 rfl rfl rfl (back Ib) hn Ib.free c
    have loop := compLoop_any (prog := X.prog) (w := X.w) (A := X.A) (R := R) (elt := elt) (target := tg) (iter := iter) (ifs := ifs) (scope := scope) (pos := pos) (it := Value.ref it) (acc := Value.ref D) (env := cenv) (s := S4)
      (fun n s' => ∃ i H', L2.Inv XB [] (wipe σ vs) H' s' ∧ tn i s'.heap ∧ (∀ b ∈ fp, H' b = none) ∧ W i n H') ?_ m0 ⟨0, _, I4, st4, nfp, w0⟩
    · have := codeAny_compStart_list (rest := []) loop (T.self X.A 0 S4 (fun it' s' => codeAny (model X.prog X.w) X.A (Code.compLoop (elt.ListComp [{ target := tg, iter := iter, ifs := ifs, is_async := 0 }] scope pos) 0 it' (Value.ref D) cenv) R s') (notedBy (model X.prog X.w) X.A cenv fun x s' => R (Except.error x) s') st4 loop)
      refine Eq.mp (congrArg (fun e => codeAny (model X.prog X.w) X.A (Code.compStart (elt.ListComp [{ target := tg, iter := iter, ifs := ifs, is_async := 0 }] scope pos) 0 (Value.ref it) (Value.ref D) e) (compEnds (model X.prog X.w) X.A X.xe use Qf (Value.ref D) e) S4) ?_) this
      rfl
    rintro n s5 ⟨i, H5, I5, st5, n5, w5⟩
    rcases turn i n H5 w5 with ⟨stop, qq⟩ | ⟨go, Nx, hNx, step⟩
    · have td := T.done XB rfl rfl rfl hc i [] s5 (wipe σ vs) H5 (fun _ _ => False) I5 (stat I5 n5) st5 stop
      refine L2.thnF td fun r s6 x => ?_
      obtain ⟨rfl, I6⟩ := x
      have I7 := back I6
      have nC : H5 S3.heap.objs.size = none := I6.free
      obtain ⟨m, hn, -⟩ := I6.loc
      exact hRR D S3.heap.objs.size CELLS s6 m H5 I7 qq hn (Inv.fpOk I3 (Nat.le_refl S3.heap.objs.size) nC)
    · have ti := T.item XB rfl rfl rfl hc i [] s5 (wipe σ vs) H5 (fun _ _ => False) I5 (stat I5 n5) st5 go
      refine L2.thnF ti fun r s6 x => ?_
      obtain ⟨u, rfl, h6⟩ := x
      refine L2.thnF h6 fun _ s7 x7 => ?_
      obtain ⟨x, H7, I7, r7, y7, st7, n7⟩ := x7
      have I7' := Inv.pinned I7 (stat I7 n7) (T.obj (i + 1) s7.heap st7)
      refine L2.thnF (pg.run ([] ++ pinsAt fp s7.heap) s7 (wipe σ vs) H7 x u _ I7' r7 (step x H7 y7)) fun _ s8 x8 => ?_
      obtain ⟨σ8, H8, I8, hw8, q8⟩ := x8
      refine L2.thnF (pt.run ([] ++ pinsAt fp s7.heap) s8 σ8 H8 _ I8 q8) fun b s9 x9 => ?_
      obtain ⟨H9, I9, q9⟩ := x9
      have fin : ∀ {s' H'}, L2.Inv XB ([] ++ pinsAt fp s7.heap) σ8 H' s' → Nx H' → ∃ m, m < n ∧ ∃ i H', L2.Inv XB [] (wipe σ vs) H' s' ∧ tn i s'.heap ∧ (∀ b ∈ fp, H' b = none) ∧ W i m H' := fun {s'} {H'} I' nx => by
        obtain ⟨m', hm, w'⟩ := hNx H' nx
        have pin' : ∀ b ∈ fp, ∀ o, s7.heap.get? b = some o → s'.heap.get? b = some o ∧ H' b = none := fun b hb o e =>
          let z := I'.pin (b, o) (List.mem_append_right XB.pn (List.mem_append_right [] (mem_pinsAt hb e)))
          ⟨z.1, z.2.1⟩
        have hl : (wipe σ vs).length = σ8.length := by rw [← hw8, wipe_length]
        refine ⟨m', hm, i + 1, H', Inv.weak (Inv.unpinned I') hl fun j v e => (wipe_some (hw8.symm ▸ e)).1, T.keep (i + 1) s7.heap s'.heap st7 fun b hb o e => (pin' b hb o e).1, fun b hb => ?_, w'⟩
        obtain ⟨o, e, -⟩ := T.obj (i + 1) s7.heap st7 b hb
        exact (pin' b hb o e).2
      cases b with
      | false => exact fin I9 q9
      | true =>
        refine wpAny_mono (pe.run ([] ++ pinsAt fp s7.heap) s9 σ8 H9 _ (inv_blk I9) q9) (fun z s10 x10 => ?_) rz
        obtain ⟨yv, H10, I10, r10, acc, hD10, hz10, nx⟩ := x10
        exact app_ok (X := XB) (blk_inv I10) hD10 hz10 r10 fun s11 I11 => fin I11 nx
theorem pe_lcR {elt tg iter : Expr} {ifs : List Expr} {scope : Scope} {own : List (Str × Nat)} {pos : Pos} {wi : TI} {g : TG} {tt : TT} {te : TE}
    (hst : X.stack = X.env :: X.outer) (hf : X.env.frame = some X.env.locals) (tk : L2.Takes X fun cls d _ H => E cls d H)
    (hc : X.calm = true) (hN : X.N.Nodup) (hi : PI X tg iter wi) (ok : BlkOk X.N X.env.scope scope own)
    (hg : ∀ (s : Shared) (H : Hp) (C : Addr) (cl : List (Str × Addr)) (fp : List Addr), PG (X.blk s H scope (compEnvC scope cl C X.env) fp) tg g)
    (ht : ∀ (s : Shared) (H : Hp) (C : Addr) (cl : List (Str × Addr)) (fp : List Addr), PTs (X.blk s H scope (compEnvC scope cl C X.env) fp) ifs tt)
    (he : ∀ (s : Shared) (H : Hp) (C : Addr) (cl : List (Str × Addr)) (fp : List Addr), PE (blkR X s H scope (compEnvC scope cl C X.env) fp E) elt te)
    (hs : ∀ (x : Value), foldedSetIterable iter X.env x = pure x := by intro x; rfl) :
    PE X (elt.ListComp [{ target := tg, iter := iter, ifs := ifs, is_async := 0 }] scope pos) (tLc wi g tt te (own.map (·.snd))) where
  run := fun pins s σ H Q I h => by
    rw [eval_ListComp]
    refine lc_coreR hst hf tk hc hN hi ok hg ht he hs I h fun D C cl s' m H' I' q hn f => ?_
    obtain ⟨f0, f1, f2, f3, f4, f5⟩ := f
    exact ⟨m, hn, fun h'' sb => ⟨V.ref D, H', Inv.turned I' (fun b o hb e => (sb.2 b hb).trans e) f0 f1 f3 f4 f5, rfl, q⟩⟩
theorem ps_setLcR {i : Nat} {y : Str} {py : Pos} {elt tg iter : Expr} {ifs : List Expr} {scope : Scope} {own : List (Str × Nat)} {pos spos : Pos} {wi : TI} {g : TG} {tt : TT} {te : TE}
    (hst : X.stack = X.env :: X.outer) (hf : X.env.frame = some X.env.locals) (tk : L2.Takes X fun cls d _ H => E cls d H)
    (hc : X.calm = true) (hN : X.N.Nodup) (hy : X.N[i]? = some y) (hyl : List.lookup y X.env.scope.names = some NameKind.local)
    (hsw : swapsWith (elt.ListComp [{ target := tg, iter := iter, ifs := ifs, is_async := 0 }] scope pos) (some (Expr.Name y py)) spos.line X.env = pure true)
    (hi : PI X tg iter wi) (ok : BlkOk X.N X.env.scope scope own)
    (hg : ∀ (s : Shared) (H : Hp) (C : Addr) (cl : List (Str × Addr)) (fp : List Addr), PG (X.blk s H scope (compEnvC scope cl C X.env) fp) tg g)
    (ht : ∀ (s : Shared) (H : Hp) (C : Addr) (cl : List (Str × Addr)) (fp : List Addr), PTs (X.blk s H scope (compEnvC scope cl C X.env) fp) ifs tt)
    (he : ∀ (s : Shared) (H : Hp) (C : Addr) (cl : List (Str × Addr)) (fp : List Addr), PE (blkR X s H scope (compEnvC scope cl C X.env) fp E) elt te)
    (hs : ∀ (x : Value), foldedSetIterable iter X.env x = pure x := by intro x; rfl) :
    PS X (Stmt.Assign [Expr.Name y py] (elt.ListComp [{ target := tg, iter := iter, ifs := ifs, is_async := 0 }] scope pos) spos) (tAsg (tLc wi g tt te (own.map (·.snd))) (gName i)) where
  run := fun pins s σ H D I h => by
    rw [exec_Assign_Name_used y py _ spos hsw]
    refine wpAny_bind (wpAny_standAt (wpAny_bind ?_))
    refine wpAny_bind (L2.thn (lc_coreR hst hf tk hc hN hi ok hg ht he hs I h fun L C cl s' m H' I' q hn f => ?_) fun x s' hq => wpAny_pure (wpAny_pure hq))
    obtain ⟨f0, f1, f2, f3, f4, f5⟩ := f
    refine wpAny_assign_Name (store_ok2 (v := V.ref L) I' hN hy (Or.inl hyl) rfl (fun s2 I2 x => ?_) (Or.inr hyl))
    obtain ⟨a, sb, ha⟩ := x
    have haC : C ≠ a := ha.elim (fun z => by rw [z]; exact f1) fun z e => f4 y a z e.symm
    exact ⟨m, Heap.Ns.sameBut hn sb haC, fun h3 sb3 => ⟨List.set σ i (some (V.ref L)), H', Inv.turned I2 (fun b o hb e => (sb3.2 b hb).trans e) f0 f1 f3 f4 f5, q⟩⟩
end
end FP

/-! xs[a:b] = ys of a list, whatever a and b -/
namespace FP
open PySem PySem.Spec PyProof.Rows L2
theorem setItem_sliceG {prog : Program} {w : World} {A : Around} {E : Value → Shared → Prop} {s : Shared} {l b sl : Addr} {items new : Array Value} {n n2 : Nat} {vl vu : Value} {lo hi : Option Int} {Q : Unit → Shared → Prop}
    (e : s.heap.get? l = some { cls := Value.type "list", data := Data.seq items n }) (e2 : s.heap.get? b = some { cls := Value.type "list", data := Data.seq new n2 }) (hne : l ≠ b)
    (hs : s.heap.IsSliceOf sl vl vu Value.none) (pl : IsPart vl lo) (pu : IsPart vu hi) (hsz : items.size + new.size ≤ sizeLine)
    (h : Q () { heap := s.heap.update l (Obj.mapSeq fun xs => xs.extract 0 (lo.elim 0 (clipAt items.size)) ++ new ++ xs.extract (max (lo.elim 0 (clipAt items.size)) (hi.elim items.size (clipAt items.size)))), gens := s.gens, drawn := s.drawn, toks := s.toks, os := s.os }) :
    wpAny (model prog w) A (setItem (Value.ref l) (Value.ref sl) (Value.ref b)) Q E s := by
  have hl := IsL.isList e
  have hb := IsL.isList e2
  obtain ⟨os, hos, hcs, hds⟩ := id hs
  have hTs : s.TypeIs (.ref sl) "slice" := ⟨os, hos, hcs⟩
  refine wpAny_holding (wpAny_bind (wpAny_sequenceKey (Heap.IsList.typeIs hl) (by decide) (wpAny_bind (wpAny_callSpecial?_slot (Heap.IsList.typeIs hl) slot_list_setitem (wpAny_call_entry slot_list_setitem (Heap.IsList.typeIs hl) entry_list_setitem ?_ (args_list_setitem (Value.ref l) (Value.ref sl) (Value.ref b)))))))
  unfold Builtin.«list.__setitem__»
  show wpAny (model prog w) A.in1 (Builtin.List.listSubscript? (Value.ref sl) >>= _) _ _ _
  refine wpAny_bind ?_
  unfold Builtin.List.listSubscript?
  refine wpAny_bind (wpAny_specialOf hTs slice_no_index ?_)
  simp only [Option.isNone_none, if_true]
  refine wpAny_pure ?_
  simp only []
  refine wpAny_bind (wpAny_typeOf ⟨os, hos, hcs⟩ ?_)
  rw [if_neg (by decide)]
  refine wpAny_bind ?_
  rw [listSliceParts_eq]
  refine wpAny_bind (wpAny_field hos hds rfl ?_)
  refine wpAny_bind (wpAny_listPart (k := none) IsPart.none ?_)
  rw [if_neg (by decide)]
  refine wpAny_bind (wpAny_field hos hds rfl ?_)
  refine wpAny_bind (wpAny_listPart (k := lo) pl ?_)
  refine wpAny_bind (wpAny_field hos hds rfl ?_)
  refine wpAny_bind (wpAny_listPart (k := hi) pu ?_)
  refine wpAny_pure ?_
  have hsame : Builtin.List.listSameRef (Value.ref l) (Value.ref b) = false := beq_eq_false_iff_ne.mpr hne
  rw [if_neg (by rw [hsame]; decide)]
  refine wpAny_bind ?_
  unfold Builtin.List.listAllItems
  refine wpAny_bind (wpAny_typeOf (Heap.IsList.typeIs hb) (W.KFB.if_so (by decide) ?_))
  refine wpAny_bind (wpAny_seqItems e2 rfl (wpAny_pure ?_))
  refine wpAny_bind (wpAny_bind (wpAny_seqItems e rfl (wpAny_pure ?_)))
  refine wpAny_bind (wpAny_of_eq ((sliceIndices_raw lo hi none items.size (by simp)).trans (congrArg pure (sliceBounds_plain lo hi items.size))) ?_)
  generalize lo.elim 0 (clipAt items.size) = st at h ⊢
  generalize hi.elim items.size (clipAt items.size) = sp at h ⊢
  rw [if_pos (by rfl)]
  refine wpAny_bind (wpAny_rule ?_)
  rw [if_neg (by rw [notLongL hsz]; decide)]
  have hmax : (max (st : Int) (sp : Int)).toNat = max st sp := by omega
  show wpAny (model prog w) A.in1 (do
    updateSeq l fun xs => xs.extract 0 (st : Int).toNat ++ new ++ xs.extract (max (st : Int) (sp : Int)).toNat
    letGo (items.extract (st : Int).toNat (max (st : Int) (sp : Int)).toNat).toList.reverse
    PySem.ret Value.none) _ _ _
  rw [hmax, Int.toNat_natCast]
  refine wpAny_bind (wpAny_updateSeq e rfl (wpAny_bind (wpAny_letGo (wpAny_bind (wpAny_pure (wpAny_pure ⟨Value.none, rfl, wpAny_pure h⟩))))) (Nat.le_trans (Nat.le_add_right _ _) hsz) ?_)
  simp only [Array.size_append, Array.size_extract]
  omega
/-- the list that xs[lo:hi] = ys leaves -/
def spliceL {α : Type} (xs ys : List α) (lo hi : Option Int) : List α := xs.take (lo.elim 0 (clipAt xs.length)) ++ ys ++ xs.drop (max (lo.elim 0 (clipAt xs.length)) (hi.elim xs.length (clipAt xs.length)))
theorem set_sliceG {X : Cx} {pins : List (Addr × Obj)} {s : Shared} {σ : L2.St} {H : Hp} {l b sl : Addr} {xs ys : List V} {vl vu : Value} {lo hi : Option Int} {Q : Unit → Shared → Prop}
    (I : L2.Inv X pins σ H s) (hH : H l = some (HO.lst xs)) (hB : H b = some (HO.lst ys)) (hne : l ≠ b) (hs : s.heap.IsSliceOf sl vl vu Value.none) (pl : IsPart vl lo) (pu : IsPart vu hi) (hz : xs.length + ys.length ≤ sizeLine)
    (h : ∀ (s' : Shared), L2.Inv X pins σ (upd H l (HO.lst (spliceL xs ys lo hi))) s' → Q () s') :
    wpAny (model X.prog X.w) X.A (setItem (Value.ref l) (Value.ref sl) (Value.ref b)) Q X.xe s := by
  obtain ⟨z, its, n, r, hl, e⟩ := Inv.lstM I hH
  obtain ⟨z2, its2, n2, r2, hl2, e2⟩ := Inv.lstM I hB
  have l1 : its.toArray.size = xs.length := by rw [List.size_toArray, hl]
  have l2 : its2.toArray.size = ys.length := by rw [List.size_toArray, hl2]
  refine setItem_sliceG e e2 hne hs pl pu (by rw [l1, l2]; exact hz) (h _ ?_)
  rw [l1]
  unfold spliceL
  generalize lo.elim 0 (clipAt xs.length) = st
  generalize hi.elim xs.length (clipAt xs.length) = sp
  refine Inv.lset I hH e (splice_eq its its2 st (max st sp)) (Vals.append (Vals.append (Vals.take st r) r2) (Vals.drop (max st sp) r)) ?_
  simp only [List.length_append, List.length_take, List.length_drop]
  omega
/-- x[lo:hi] = v -/
def gSlS (to : TE) (tl th : L2.TO) : TG := fun v σ H Q => to σ H fun x H1 => tl σ H1 fun lo H2 => th σ H2 fun hi H3 => ∃ (a b : Addr) (xs ys : List V), x = .ref a ∧ v = .ref b ∧ H3 a = some (.lst xs) ∧ H3 b = some (.lst ys) ∧ a ≠ b ∧ xs.length + ys.length ≤ sizeLine ∧ Q σ (upd H3 a (.lst (spliceL xs ys lo hi)))
theorem pg_slice {X : Cx} {pos p2 : Pos} {o : Expr} {lo hi : Option Expr} {to : TE} {tl th : L2.TO} (ho : PE X o to) (hl : L2.PO X lo tl) (hh : L2.PO X hi th) : PG X (o.Subscript (.Slice lo hi none p2) pos) (gSlS to tl th) where
  run := fun pins s σ H v u Q I r h => by
    rw [assign_Subscript]
    refine wpAny_bind (wpAny_holding (L2.thn (ho.run pins s σ H _ I h) fun ov s1 x => ?_))
    obtain ⟨x, H1, I1, r1, q1⟩ := x
    refine wpAny_bind (wpAny_holding ?_)
    refine wpAny_Slice (L2.thn (hl.run pins s1 σ H1 _ I1 q1) fun vl s2 x2 => ?_)
    obtain ⟨l, H2, I2, pl, q2⟩ := x2
    refine L2.thn (hh.run pins s2 σ H2 _ I2 q2) fun vu s3 x3 => ?_
    obtain ⟨u', H3, I3, pu, q3⟩ := x3
    rw [evalPart_none X.env]
    refine wpAny_pure ?_
    have I4 := Inv.kept (t' := s3.toks) I3 (h' := s3.heap.push { cls := Value.type "slice", data := Data.fields #[vl, vu, Value.none] }) fun b ob q => Heap.get?_push_of_some { cls := Value.type "slice", data := Data.fields #[vl, vu, Value.none] } q
    obtain ⟨a, b, xs, ys, rfl, rfl, ga, gb, ne, sz, q4⟩ := q3
    cases r1
    cases r
    refine wpAny_bind (wpAny_standAt (wpAny_bind (wpAny_holding ?_)))
    refine set_sliceG I4 ga gb ne (Heap.IsSliceOf.new s3.1 vl vu Value.none) pl pu sz fun s' I5 => ?_
    exact wpAny_release ⟨σ, _, I5, q4⟩
theorem pe_joinK {X : Cx} {K : PySem.W.Frag} {o e : Expr} {to te : TE} {apos pos : Pos} (hK : X.K = K) (ho : PE X o to) (he : PE X e te)
    (hs : starEach [e] X.env = [(false, eval e X.env)] := by rfl) (ha : attributeBase o (Str.ofString "join") X.env (eval o X.env) = eval o X.env := by rfl) (hp : (apos.endLine == pos.line) = true := by rfl) :
    PE X ((o.Attribute (Str.ofString "join") apos).Call [e] [] pos) (tM1 (fun x xs H Q => ∃ a p ys, x = V.str a ∧ xs = [V.ref p] ∧ (SqL K H p (List.map V.str ys) ∨ SqT K H p (List.map V.str ys)) ∧ (List.map (fun x => x.length) ys).sum + ys.length * a.length ≤ 16777216 ∧ Q (V.str (Txt.join a ys)) H) to te) := by
  subst hK
  exact pe_join ho he hs ha hp
end FP

/-! comprehensions that a raise may leave -/
namespace FP
open PySem PySem.Spec PyProof.Rows L2
section
variable {K : PySem.W.Frag} {A : Own} {H : Hp} {σ : L2.St} {ρ ρ' ρ2 : Env} {B : List Addr} {te : TE} {d x : D} {i : Nat} {g : TG} {ds : List D} {wi : TI} {vs : List Nat} {E : XK} {C : Addr} {fe : List (Str × V)}
theorem evx_lc {α : Type} {ds : List α} {inj : α → D} (hw : Walks K wi ρ (ds.map inj)) (ρ1 : α → Env) (f : α → D) (hl : ds.length ≤ 1000000) (k : Nat) (xk : α) (hk : ds[k]? = some xk)
    (ht : ∀ (i : Nat) x, i ≤ k → ds[i]? = some x → Takes K g (some vs) (inj x) (wipeE ρ vs) (ρ1 x)) (he : ∀ (i : Nat) x, i < k → ds[i]? = some x → EvS K te (ρ1 x) (f x))
    (hx : EvX K (fun c d _ H => E c d H) te (ρ1 xk) C fe) :
    EvX K (fun c d _ H => E c d H) (tLc wi g tYes te vs) ρ C fe := fun A H σ B w r hW Q => by
  refine hw A H σ B w r _ fun J H1 e1 hJ Dl hD => ?_
  obtain ⟨w1, r1⟩ := et_step w r e1
  obtain ⟨Bw, rw1, sw⟩ := r1.wipe vs
  have rw2 : EnvR K A H1 (L2.wipe σ vs) (wipeE ρ vs) Bw := rw1
  have klt : k < ds.length := by
    rcases Nat.lt_or_ge k ds.length with h | h
    · exact h
    · rw [List.getElem?_eq_none h] at hk; cases hk
  refine ⟨fun i c H' => i ≤ k ∧ c = ds.length - i ∧ ∃ acc Cs, Ex H1 H' ∧ H' Dl = some (.lst acc) ∧ RpAll K (A.and (Dl :: Cs)) H' acc ((ds.take i).map f) Cs ∧ Dl ∉ Cs ∧ (∀ a ∈ Cs, H1 a = none), ⟨ds.length, Nat.zero_le _, rfl, [], [], Ex.new hD, upd_same, .nil, (fun h => nomatch h), (fun _ h => nomatch h)⟩, ?_⟩
  rintro i c H' ⟨hi, rfl, acc, Cs, e2, hacc, racc, nD, fr⟩
  have wI : WA (A.and (Dl :: Cs)) H' := w1.and e2 fun a h => (List.mem_cons.mp h).elim (fun z => by rw [z, hacc]; simp) fun z => (racc.tracked _ a z).1
  have fr' : ∀ a ∈ Dl :: Cs, H1 a = none := fun a h => (List.mem_cons.mp h).elim (fun z => by rw [z]; exact hD) (fr a)
  have kI : ∀ B0, (∀ a ∈ B0, A a) → Keep A H1 B0 (A.and (Dl :: Cs)) H' := fun B0 hB => keep_and w1 e2 fr' hB
  obtain ⟨hstop, hgo⟩ := hJ i (A.and (Dl :: Cs)) H' (kI [] fun _ h => nomatch h) wI
  refine .inr ?_
  obtain ⟨x, hx'⟩ : ∃ x, ds[i]? = some x := ⟨ds[i]'(by omega), List.getElem?_eq_getElem (by omega)⟩
  have mx : x ∈ ds := List.mem_of_getElem? hx'
  obtain ⟨h1, h2⟩ := hgo (inj x) (by rw [List.getElem?_map, hx']; rfl)
  refine ⟨h1, fun H'' => i + 1 ≤ k ∧ ∃ acc Cs, Ex H1 H'' ∧ H'' Dl = some (.lst acc) ∧ RpAll K (A.and (Dl :: Cs)) H'' acc ((ds.take (i + 1)).map f) Cs ∧ Dl ∉ Cs ∧ (∀ a ∈ Cs, H1 a = none),
    fun H'' h => ⟨ds.length - (i + 1), by omega, h.1, rfl, h.2⟩, fun y H'' hy => ?_⟩
  obtain ⟨e3, ry⟩ := h2 y H'' hy
  have rI : EnvR K (A.and (Dl :: Cs)) H' (L2.wipe σ vs) (wipeE ρ vs) Bw := rw2.keep (kI Bw fun a h => (rw2.tracked a h).2)
  obtain ⟨w3, r3⟩ := et_step wI rI e3
  refine ht i x hi hx' (A.and (Dl :: Cs)) H'' (L2.wipe σ vs) Bw y w3 r3 ry _ fun σ2 B2 hwp sb r4 => ⟨?_, ?_⟩
  · rw [hwp vs rfl, wipe_wipe]
  refine et_yes (K := K) (ρ := ρ1 x) (A.and (Dl :: Cs)) H'' σ2 B2 w3 r4 _ fun H3' e4' => ?_
  obtain ⟨w3, r4⟩ := et_step w3 r4 e4'
  replace e3 := e3.tr e4'
  clear e4' ry r3 hy
  simp only [if_true]
  by_cases hlt : i < k
  · have racc3 : RpAll K (A.and (Dl :: Cs)) H3' acc ((ds.take i).map f) Cs := racc.keep _ ⟨fun a o h n => ⟨e3 a o h, n⟩, fun a o m h => ⟨e3 a o h, .inr (List.mem_cons_of_mem _ m)⟩⟩
    have hacc3 : H3' Dl = some (.lst acc) := e3 _ _ hacc
    have e13 : Ex H1 H3' := e2.tr e3
    refine he i x hlt hx' (A.and (Dl :: Cs)) H3' σ2 B2 w3 r4 _ fun z H4 C e5 f5 p5 => ?_
    have hacc4 : H4 Dl = some (.lst acc) := e5 _ _ hacc3
    have DC : Dl ∉ C := fun z => by rw [f5 Dl z] at hacc3; cases hacc3
    have snoc : (ds.take (i + 1)).map f = (ds.take i).map f ++ [f x] := by
      rw [List.take_add_one, hx', List.map_append]; rfl
    refine ⟨acc, hacc4, ?_, hlt, acc ++ [z], Cs ++ C, ?_, upd_same, ?_, ?_, ?_⟩
    · rw [racc.len, List.length_map, List.length_take]
      exact Nat.lt_of_le_of_lt (Nat.min_le_right _ _) (Nat.lt_of_le_of_lt hl (by decide))
    · intro a o h
      rw [upd_ne fun z => by rw [z, hD] at h; cases h]
      exact e5 a o (e13 a o h)
    · rw [snoc]
      have a4 : RpAll K ((A.and (Dl :: Cs)).and C) H4 acc ((ds.take i).map f) Cs := racc3.keep _ (keep_and w3 e5 f5 fun a h => .inr (List.mem_cons_of_mem _ h))
      have sn := a4.snoc p5 fun a h m => (racc3.tracked _ a h).1 (f5 a m)
      have sn2 := sn.keep _ (keep_upd (A := (A.and (Dl :: Cs)).and C) (a := Dl) (o := .lst (acc ++ [z])) (.inl (.inr List.mem_cons_self)) (fun h => (List.mem_append.mp h).elim nD DC) fun b hb => (sn.tracked _ b hb).2)
      have eqv : ∀ a, ((A.and (Dl :: Cs)).and C) a ↔ (A.and (Dl :: (Cs ++ C))) a := fun a => by simp [Own.and, or_assoc]
      exact sn2.keep _ ⟨fun a o e n => ⟨e, fun z => n ((eqv a).mpr z)⟩, fun a o m e => ⟨e, .inr (List.mem_cons_of_mem _ m)⟩⟩
    · exact fun h => (List.mem_append.mp h).elim nD DC
    · exact fun a h => (List.mem_append.mp h).elim (fr a) fun h => e13.back (f5 a h)
  · have : i = k := by omega
    subst this
    rw [hk] at hx'; cases hx'
    exact hx (A.and (Dl :: Cs)) H3' σ2 B2 w3 r4 (fun d H' e x => hW d H' (((e1.tr e2).tr e3).tr e) (x.less fun a h => .inl h)) _
end
def lcE (f : P → R) : List P → R
  | [] => ret (.lst [])
  | x :: xs => match f x with
    | some (.ok y) => match lcE f xs with
      | some (.ok (.lst ys)) => ret (.lst (y :: ys))
      | some (.er c fs) => some (.er c fs)
      | _ => none
    | some (.er c fs) => some (.er c fs)
    | none => none
def lcS (t : Tk) (e : X) (ρ : PEnv) (x : P) : R := match t x ρ with
  | none => none
  | some ρ1 => e ρ1
def xLcE (it : It') (t : Tk) (e : X) (vs : List Nat) : X := fun ρ => match it ρ with
  | none => none
  | some xs => if xs.length ≤ 1000000 then lcE (lcS t e (wipeP ρ vs)) xs else none
theorem lcE_ok {t : Tk} {e : X} {ρ : PEnv} : ∀ {xs : List P} {p : P}, lcE (lcS t e ρ) xs = some (.ok p) → ∃ ys, p = .lst ys ∧ lcL (lcStep t none e ρ) xs = some ys
  | [], p, h => by cases h; exact ⟨[], rfl, rfl⟩
  | x :: xs, p, h => by
    rw [lcE] at h
    split at h
    · rename_i y hy
      split at h
      · rename_i ys hys
        cases h
        obtain ⟨ys', h1, h2⟩ := lcE_ok hys
        cases h1
        refine ⟨_, rfl, ?_⟩
        rw [lcL]
        unfold lcS at hy
        unfold lcStep
        cases q : t x ρ with
        | none => rw [q] at hy; cases hy
        | some ρ1 =>
          rw [q] at hy
          simp only at hy ⊢
          rw [hy]
          unfold lcStep at h2
          simp only [h2]
          rfl
      · cases h
      · cases h
    · cases h
    · cases h
theorem lcE_er {f : P → R} : ∀ {xs : List P} {c fs}, lcE f xs = some (.er c fs) → ∃ k x, xs[k]? = some x ∧ f x = some (.er c fs) ∧ ∀ (i : Nat) y, i < k → xs[i]? = some y → ∃ z, f y = some (.ok z)
  | [], c, fs, h => by cases h
  | x :: xs, c, fs, h => by
    rw [lcE] at h
    split at h
    · rename_i y hy
      split at h
      · cases h
      · rename_i c' fs' h'
        cases h
        obtain ⟨k, x', h1, h2, h3⟩ := lcE_er h'
        refine ⟨k + 1, x', h1, h2, fun i z hi hz => ?_⟩
        cases i with
        | zero => cases hz; exact ⟨y, hy⟩
        | succ i => exact h3 i z (by omega) hz
      · cases h
    · rename_i c' fs' h'
      cases h
      exact ⟨0, x, rfl, h', fun i z hi => absurd hi (Nat.not_lt_zero _)⟩
    · cases h
section
variable {K : PySem.W.Frag} {A : Nat → Addr} {U : WX} {te : TE} {δ : List W} {y : X} {w : W} {vs : List Nat} {g : TG} {tk : Tk} {wi : TI} {it : It'} {E : XK}
theorem x_lcE (hi : IOk K A wi δ it) (hw : w.own = true) (hk : ∀ n, w.kid n = w.kid 0) (ht : TkOk K A (some vs) g δ tk) (he : XOk K A (fun c d _ H => E c d H) te δ y (w.kid 0)) :
    XOk K A (fun c d _ H => E c d H) (tLc wi g tYes te vs) δ (xLcE it tk y vs) w where
  ok := fun ρ p e => by
    unfold xLcE at e
    cases h1 : it ρ with
    | none => rw [h1] at e; cases e
    | some xs =>
      rw [h1] at e
      simp only at e
      split at e
      · rename_i hl
        obtain ⟨ys, rfl, h2⟩ := lcE_ok e
        -- the item, made to raise nothing
        have he' : XOk K A (fun _ _ _ _ => False) te δ (fun ρ => match y ρ with | some (.ok p) => some (.ok p) | _ => none) (w.kid 0) := .mk (fun ρ p e => he.ok ρ p (by
          split at e
          · rename_i q hq; rw [hq]; exact e
          · cases e)) fun ρ c fs e => by
          split at e <;> cases e
        refine (x_lc (U := fun c d _ H => E c d H) hi hw hk ht (c := none) rfl he').ok ρ _ ?_
        unfold xLc
        rw [h1]
        simp only
        rw [if_pos hl]
        have : lcStep tk none (fun ρ => match y ρ with | some (.ok p) => some (.ok p) | _ => none) (wipeP ρ vs) = lcStep tk none y (wipeP ρ vs) := by
          funext x
          unfold lcStep
          cases tk x (wipeP ρ vs) with
          | none => rfl
          | some ρ1 =>
            simp only
            split
            · rename_i p hp
              split at hp
              · rename_i q hq; cases hp; first | (rw [hq]; done) | rfl | simp_all
              · cases hp
            · rename_i hn
              split
              · rename_i q hq; exact absurd (by rw [hq]) (hn q)
              · rfl
        rw [this, h2]
      · cases e
  er := fun ρ c fs e => by
    unfold xLcE at e
    cases h1 : it ρ with
    | none => rw [h1] at e; cases e
    | some xs =>
      rw [h1] at e
      simp only at e
      split at e
      · rename_i hl
        obtain ⟨k, x, hx, h2, h3⟩ := lcE_er e
        have hW := hi ρ xs h1
        refine evx_lc (inj := emb A .s) hW (fun x => embE A δ ((tk x (wipeP ρ vs)).getD [])) (fun x => match lcS tk y (wipeP ρ vs) x with | some (.ok p) => emb A (w.kid 0) p | _ => .non) hl k x hx ?_ ?_ ?_
        · intro i x' hi hx'
          have : ∃ ρ2, tk x' (wipeP ρ vs) = some ρ2 := by
            cases q : tk x' (wipeP ρ vs) with
            | some ρ2 => exact ⟨ρ2, rfl⟩
            | none =>
              rcases Nat.lt_or_ge i k with h | h
              · obtain ⟨v, hv⟩ := h3 i x' h hx'
                unfold lcS at hv; rw [q] at hv; cases hv
              · have : i = k := by omega
                subst this
                rw [hx] at hx'; cases hx'
                unfold lcS at h2; rw [q] at h2; cases h2
          obtain ⟨ρ2, q⟩ := this
          · show Takes K g (some vs) (emb A .s x') (wipeE (embE A δ ρ) vs) (embE A δ ((tk x' (wipeP ρ vs)).getD []))
            rw [q, ← wipe_emb]
            exact ht.ok x' _ _ q
        · intro i z hi hz
          obtain ⟨v, hv⟩ := h3 i z hi hz
          rw [hv]
          unfold lcS at hv
          cases q : tk z (wipeP ρ vs) with
          | none => rw [q] at hv; cases hv
          | some ρ2 => rw [q] at hv; exact he.ok ρ2 v hv
        · unfold lcS at h2
          cases q : tk x (wipeP ρ vs) with
          | none => rw [q] at h2; cases h2
          | some ρ2 => rw [q] at h2; exact he.er ρ2 c fs h2
      · cases e
end

/-! ### xs[a:b] = ys -/
section
variable {K : PySem.W.Frag} {W : WX} {te to t1 t2 : TE} {ρ : Env} {i : Nat} {π : List Nat} {d : D} {ds es : List D}
theorem run_setsl {a b : Int} (he : EvS K te ρ (.lst true es)) (hp : EvPt K to ρ i π) (hi : ρ[i]? = some (some d)) (hd : subD d π = some (.lst true ds)) (h1 : EvS K t1 ρ (.int a)) (h2 : EvS K t2 ρ (.int b)) (hn : ds.length + es.length ≤ sizeLine) :
    Run K W (tAsg te (gSlS to (tPart t1) (tPart t2))) ρ (.nx (ρ.set i (some (putD d π (.lst true (spliceL ds es (some a) (some b))))))) := fun A0 H σ B E w r p =>
  he.run w r fun v1 H1 C1 e1 f1 r1 q1 dj1 => by
    have w1 : WA (A0.and (C1 ++ B)) H1 := fun a h => h.elim (fun h => e1.ne (w.live a h)) fun h => (List.mem_append.mp h).elim (fun z => (q1.tracked _ a z).1) fun z => (r1.tracked a z).1
    refine hp (A0.and (C1 ++ B)) H1 σ B w1 r1 _ fun v u H2 e2 hv hw => ?_
    have w2 : WA (A0.and (C1 ++ B)) H2 := fun a h => e2.ne (w1 a h)
    have r2 : EnvR K (A0.and (C1 ++ B)) H2 σ ρ B := r1.keep ⟨fun a o h n => ⟨e2 a o h, n⟩, fun a o m h => ⟨e2 a o h, (r1.tracked a m).2⟩⟩
    have q2 : Rp K (A0.and (C1 ++ B)) H2 v1 (.lst true es) C1 := q1.keep _ ⟨fun a o h n => ⟨e2 a o h, n⟩, fun a o m h => ⟨e2 a o h, (q1.tracked _ a m).2⟩⟩
    refine h1 (A0.and (C1 ++ B)) H2 σ B w2 r2 _ fun y H3 C3 e3 f3 p3 => ?_
    cases p3
    refine ⟨a, rfl, ?_⟩
    have w3 : WA (A0.and (C1 ++ B)) H3 := fun a h => e3.ne (w2 a h)
    have r3 : EnvR K (A0.and (C1 ++ B)) H3 σ ρ B := r2.keep ⟨fun a o h n => ⟨e3 a o h, n⟩, fun a o m h => ⟨e3 a o h, (r2.tracked a m).2⟩⟩
    have q3 : Rp K (A0.and (C1 ++ B)) H3 v1 (.lst true es) C1 := q2.keep _ ⟨fun a o h n => ⟨e3 a o h, n⟩, fun a o m h => ⟨e3 a o h, (q2.tracked _ a m).2⟩⟩
    refine h2 (A0.and (C1 ++ B)) H3 σ B w3 r3 _ fun y H4 C4 e4 f4 p4 => ?_
    cases p4
    refine ⟨b, rfl, ?_⟩
    have r4 : EnvR K (A0.and (C1 ++ B)) H4 σ ρ B := r3.keep ⟨fun a o h n => ⟨e4 a o h, n⟩, fun a o m h => ⟨e4 a o h, (r3.tracked a m).2⟩⟩
    have q4 : Rp K (A0.and (C1 ++ B)) H4 v1 (.lst true es) C1 := q3.keep _ ⟨fun a o h n => ⟨e4 a o h, n⟩, fun a o m h => ⟨e4 a o h, (q3.tracked _ a m).2⟩⟩
    obtain ⟨l, xs, B1, rfl, hl, rx, sB, lB, k⟩ := chg_core hi hd hv (walkH_ex (e3.tr e4) hw) w (((e1.tr e2).tr e3).tr e4) f1 r4 dj1
    cases q4 with
    | @lstO m ys _ C2 hm hA hnm ry =>
    have ne : l ≠ m := fun z => dj1 m List.mem_cons_self (z ▸ lB)
    refine ⟨l, m, xs, ys, rfl, rfl, hl, hm, ne, by rw [rx.len, ry.len]; exact hn, ?_⟩
    unfold spliceL at p ⊢
    rw [rx.len]
    generalize (some a).elim 0 (clipAt ds.length) = x1 at p ⊢
    generalize (some b).elim ds.length (clipAt ds.length) = x2 at p ⊢
    obtain ⟨D1, D2, g1, g2, g3, g4, g5⟩ := rx.splitAt x1
    have dr : ∀ {α : Type} (zs : List α), zs.drop (max x1 x2) = (zs.drop x1).drop (max x1 x2 - x1) := fun zs => by
      rw [List.drop_drop]
      congr 1
      omega
    obtain ⟨D3, D4, k1, k2, k3, k4, k5⟩ := g2.splitAt (max x1 x2 - x1)
    have dj' : ∀ a ∈ B1, a ∉ C2 := fun a h z => dj1 a (List.mem_cons_of_mem _ z) (sB a h)
    have all : RpAll K (A0.and ((m :: C2) ++ B)) H4 (xs.take x1 ++ ys ++ xs.drop (max x1 x2)) (ds.take x1 ++ es ++ ds.drop (max x1 x2)) ((D1 ++ C2) ++ D4) := by
      rw [dr xs, dr ds]
      refine (g1.app ry fun a h => dj' a (g3 a h)).app k2 fun a h z => ?_
      rcases List.mem_append.mp h with h | h
      · exact g5 a h (k4 a z)
      · exact dj' a (g4 a (k4 a z)) h
    obtain ⟨B2, g7, g8, _⟩ := k _ _ _ [] .non .non all (fun b hb => by
      rcases List.mem_append.mp hb with hb | hb
      · rcases List.mem_append.mp hb with hb | hb
        · exact .inl (g3 b hb)
        · exact .inr (List.mem_cons_of_mem _ hb)
      · exact .inl (g4 b (k4 b hb))) (.sc _) rfl
    exact p _ σ B2 g8 g7
end
/-- name[..][a:b] = e -/
def xSetSl (w : W) (i : Nat) (pt : Pth) (lo hi : X) (e : X) : S := fun ρ => ans ρ (e ρ) fun y => match ρ.getD i none, y with
  | some v, .lst qs => match pt.run ρ v with
    | some (π, .lst ps) => if ownAt w π = true ∧ (w.at π).own = true ∧ ps.length + qs.length ≤ sizeLine then match lo ρ, hi ρ with
        | some (.ok (.sc (.int a))), some (.ok (.sc (.int b))) => some (.nx (ρ.set i (some (putP v π (.lst (spliceL ps qs (some a) (some b)))))))
        | _, _ => none
      else none
    | _ => none
  | _, _ => none
section
variable {K : PySem.W.Frag} {A : Nat → Addr} {U : WX} {te to t1 t2 : TE} {δ δL : List W} {G : List W → Prop} {w wr : W} {i : Nat} {pt : Pth} {lo hi y : X}
theorem spliceL_map {α β : Type} (f : α → β) (xs ys : List α) (a b : Option Int) : spliceL (xs.map f) (ys.map f) a b = (spliceL xs ys a b).map f := by
  unfold spliceL
  rw [List.length_map, List.map_append, List.map_append, List.map_take, List.map_drop]
theorem s_setSl (hG : G δ) (hw : δ.getD i .s = w) (hp : PtOk K A to δ i pt) (h1 : XOk K A U t1 δ lo .s) (h2 : XOk K A U t2 δ hi .s) {we : W} (he : XOk K A U te δ y we)
    (hkid : ∀ (π : List Nat), π.length = pt.depth → ownAt w π = true → (w.at π).own = true → (∀ n, (w.at π).kid n = (w.at π).kid 0) ∧ we = .o ((w.at π).kid 0)) : SOk K A U wr δL G (tAsg te (gSlS to (tPart t1) (tPart t2))) δ δ (xSetSl w i pt lo hi y) := by
  refine s_of (fun y ρ => match ρ.getD i none, y with
  | some v, .lst qs => match pt.run ρ v with
    | some (π, .lst ps) => if ownAt w π = true ∧ (w.at π).own = true ∧ ps.length + qs.length ≤ sizeLine then match lo ρ, hi ρ with
        | some (.ok (.sc (.int a))), some (.ok (.sc (.int b))) => some (.nx (ρ.set i (some (putP v π (.lst (spliceL ps qs (some a) (some b)))))))
        | _, _ => none
      else none
    | _ => none
  | _, _ => none) (fun p ρ o e => ?_) hG (fun ρ c fs e => run_asg_erX (he.er ρ c fs e)) (fun ρ p ρ' e e2 => ?_) (fun ρ p q e e2 => ?_)
  · repeat' (split at e <;> try cases e)
    exact .inl ⟨_, rfl⟩
  · split at e2
    · rename_i v qs hv
      split at e2
      · rename_i π ps h0
        split at e2
        · rename_i ho
          obtain ⟨o1, o2, o3⟩ := ho
          split at e2
          · rename_i a b ha hb
            cases e2
            subst hw
            have hv' := getD_some hv
            obtain ⟨s1, p1⟩ := hp.ok ρ v π _ hv' h0 o1
            have hs := subD_emb (A := A) o1 s1
            rw [emb_lst, o2] at hs
            obtain ⟨k1, rfl⟩ := hkid π (Pth.run_len h0) o1 o2
            have g1 := h1.ok ρ _ ha
            rw [emb_sc] at g1
            have g2 := h2.ok ρ _ hb
            rw [emb_sc] at g2
            have g3 := he.ok ρ _ e
            rw [emb_lst, embs_o] at g3
            have := run_setsl (W := U) g3 p1 (embE_some hv') hs g1 g2 (by rw [embs_len, List.length_map]; exact o3)
            have e2 := putD_emb (A := A) (e := .lst (spliceL ps qs (some a) (some b))) o1 s1
            rw [emb_lst, o2, embs_kid k1, ← spliceL_map] at e2
            rw [embs_kid k1, e2] at this
            rw [embE_set δ δ ρ i _ _ rfl fun _ _ => rfl]
            exact this
          · cases e2
        · cases e2
      · cases e2
    · cases e2
  · repeat' (split at e2 <;> try cases e2)
end

/-! ### owning less -/
mutual
inductive Wk : D → D → Prop
  | frz (d : D) : Wk d d.frz
  | refl (d : D) : Wk d d
  | lst {ds es : List D} : Wks ds es → Wk (.lst true ds) (.lst true es)
  | tup {ds es : List D} : Wks ds es → Wk (.tup true ds) (.tup true es)
  | ins {C : Addr} {fs : List Str} {ds es : List D} : Wks ds es → Wk (.ins .ow C fs ds) (.ins .ow C fs es)
  | dK {ks : List Key} {ds es : List D} : Wks ds es → Wk (.dK true ks ds) (.dK true ks es)
  | dT {ks : List (List Key)} {ds es : List D} : Wks ds es → Wk (.dT true ks ds) (.dT true ks es)
inductive Wks : List D → List D → Prop
  | nil : Wks [] []
  | cons {d e : D} {ds es : List D} : Wk d e → Wks ds es → Wks (d :: ds) (e :: es)
end
section
variable {K : PySem.W.Frag} {A : Own} {H : Hp}
def WkP (K : PySem.W.Frag) (A : Own) (H : Hp) (v : V) (e : D) (B : List Addr) : Prop := ∃ B', (∀ a ∈ B', a ∈ B) ∧ ∀ A2 : Own, (∀ a, ¬ A a → ¬ A2 a) → (∀ a ∈ B, a ∉ B' → ¬ A2 a) → (∀ a ∈ B', A2 a) → Rp K A2 H v e B'
def WksP (K : PySem.W.Frag) (A : Own) (H : Hp) (vs : List V) (es : List D) (B : List Addr) : Prop := ∃ B', (∀ a ∈ B', a ∈ B) ∧ ∀ A2 : Own, (∀ a, ¬ A a → ¬ A2 a) → (∀ a ∈ B, a ∉ B' → ¬ A2 a) → (∀ a ∈ B', A2 a) → RpAll K A2 H vs es B'
theorem wk_con {a : Addr} {vs : List V} {es : List D} {B : List Addr} {e : D} (na : a ∉ B) (h : WksP K A H vs es B) (k : ∀ (A2 : Own) B', A2 a → a ∉ B' → RpAll K A2 H vs es B' → Rp K A2 H (.ref a) e (a :: B')) : WkP K A H (.ref a) e (a :: B) := by
  obtain ⟨B', s, r⟩ := h
  have n' : a ∉ B' := fun z => na (s a z)
  refine ⟨a :: B', fun b hb => (List.mem_cons.mp hb).elim (fun z => z ▸ List.mem_cons_self) fun z => List.mem_cons_of_mem _ (s b z), fun A2 h1 h2 h3 => k A2 B' (h3 a List.mem_cons_self) n' (r A2 h1 (fun b hb nb => h2 b (List.mem_cons_of_mem _ hb) fun z => (List.mem_cons.mp z).elim (fun z => na (z ▸ hb)) nb) fun b hb => h3 b (List.mem_cons_of_mem _ hb))⟩
mutual
theorem Rp.wk : ∀ {d e : D}, Wk d e → ∀ {v : V} {B : List Addr}, Rp K A H v d B → WkP K A H v e B
  | _, _, .frz d, v, B, r => ⟨[], fun _ h => (nomatch h), fun A2 h1 h2 h3 => r.loose _ ⟨fun a o h n => ⟨h, h1 a n⟩, fun a o m h => ⟨h, h2 a m (fun z => nomatch z)⟩⟩⟩
  | _, _, .refl d, v, B, r => ⟨B, fun _ h => h, fun A2 h1 h2 h3 => r.keep _ ⟨fun a o h n => ⟨h, h1 a n⟩, fun a o m h => ⟨h, h3 a m⟩⟩⟩
  | _, _, .lst w, _, _, .lstO ha hA hn r => wk_con hn (RpAll.wk w r) fun A2 B' h1 h2 h3 => .lstO ha h1 h2 h3
  | _, _, .tup w, _, _, .tupO ha hA hn r => wk_con hn (RpAll.wk w r) fun A2 B' h1 h2 h3 => .tupO ha h1 h2 h3
  | _, _, .ins w, _, _, .insO ha hA hn hl r => wk_con hn (RpAll.wk w r) fun A2 B' h1 h2 h3 => .insO ha h1 h2 hl h3
  | _, _, .dK w, _, _, .dKO ha hA hn hl r => wk_con hn (RpAll.wk w r) fun A2 B' h1 h2 h3 => .dKO ha h1 h2 hl h3
  | _, _, .dT w, _, _, .dTO ha hA hn hl r => wk_con hn (RpAll.wk w r) fun A2 B' h1 h2 h3 => .dTO ha h1 h2 hl h3
theorem RpAll.wk : ∀ {ds es : List D}, Wks ds es → ∀ {vs : List V} {B : List Addr}, RpAll K A H vs ds B → WksP K A H vs es B
  | _, _, .nil, _, _, .nil => ⟨[], fun _ h => h, fun _ _ _ _ => .nil⟩
  | _, _, .cons w ws, _, _, .cons (B := B) (C := C) r t n => by
    obtain ⟨B', s1, k1⟩ := r.wk w
    obtain ⟨C', s2, k2⟩ := t.wk ws
    refine ⟨B' ++ C', fun a h => (List.mem_append.mp h).elim (fun z => List.mem_append_left _ (s1 a z)) fun z => List.mem_append_right _ (s2 a z), fun A2 h1 h2 h3 => .cons (k1 A2 h1 (fun a ha na => h2 a (List.mem_append_left _ ha) fun z => (List.mem_append.mp z).elim na fun z => n a ha (s2 a z)) fun a ha => h3 a (List.mem_append_left _ ha)) (k2 A2 h1 (fun a ha na => h2 a (List.mem_append_right _ ha) fun z => (List.mem_append.mp z).elim (fun z => n a (s1 a z) ha) na) fun a ha => h3 a (List.mem_append_right _ ha)) fun a ha z => n a (s1 a ha) (s2 a z)⟩
end
theorem ev_wk {te : TE} {ρ : Env} {d e : D} (h : EvS K te ρ d) (w : Wk d e) : EvS K te ρ e := fun A H σ B wa r Q q => h A H σ B wa r _ fun v H' C ex f p => by
  obtain ⟨C', s, k⟩ := p.wk w
  refine q v H' C' ex (fun a h => f a (s a h)) (k _ (fun a n z => n (z.imp id (s a))) (fun a ha na z => z.elim (fun z => wa a z (f a ha)) na) fun a ha => .inr ha)
end
mutual
def leW : W → W → Bool
  | .s, _ => true
  | .o a, .o b => leW a b
  | .f as, .f bs => leWs as bs
  | .o .s, .f _ => true
  | _, _ => false
def leWs : List W → List W → Bool
  | [], _ => true
  | a :: as, b :: bs => leW a b && leWs as bs
  | _ :: _, [] => false
end
theorem leWs_get : ∀ {as bs : List W}, leWs as bs = true → ∀ i, leW (as.getD i .s) (bs.getD i .s) = true
  | [], bs, _, i => by simp [leW]
  | a :: as, b :: bs, h, 0 => by
    rw [leWs, Bool.and_eq_true] at h
    exact h.1
  | a :: as, b :: bs, h, i + 1 => by
    rw [leWs, Bool.and_eq_true] at h
    exact leWs_get h.2 i
  | a :: as, [], h, _ => by rw [leWs] at h; cases h
theorem leW_kid : ∀ {a b : W}, leW a b = true → ∀ i, leW (a.kid i) (b.kid i) = true
  | .s, b, _, i => by simp [W.kid, leW]
  | .o a, .o b, h, i => by rw [leW] at h; exact h
  | .f as, .f bs, h, i => by rw [leW] at h; exact leWs_get h i
  | .o .s, .f bs, _, i => by simp [W.kid, leW]
  | .o (.o _), .f _, h, _ => by simp [leW] at h
  | .o (.f _), .f _, h, _ => by simp [leW] at h
  | .o (.me _ _), .f _, h, _ => by simp [leW] at h
  | .o _, .s, h, _ => by simp [leW] at h
  | .o _, .me _ _, h, _ => by simp [leW] at h
  | .f _, .s, h, _ => by simp [leW] at h
  | .f _, .o _, h, _ => by simp [leW] at h
  | .f _, .me _ _, h, _ => by simp [leW] at h
  | .me _ _, _, h, _ => by simp [leW] at h
theorem leW_own {a b : W} (h : leW a b = true) : a = .s ∨ (a.own = true ∧ b.own = true ∧ a.fl = .ow ∧ b.fl = .ow) := by
  cases a <;> cases b <;> simp_all [leW, W.own, W.fl]
section
variable {A : Nat → Addr}
mutual
theorem emb_wk : ∀ {a b : W} (p : P), leW a b = true → Wk (emb A b p) (emb A a p)
  | a, b, .sc x, h => by rw [emb_sc, emb_sc]; exact .refl _
  | a, b, .cls x, h => by rw [emb_cls, emb_cls]; exact .refl _
  | a, b, .exc c fs, h => by rw [emb_exc, emb_exc]; exact .refl _
  | a, b, .lst ps, h => by
    rcases leW_own h with rfl | ⟨h1, h2, _⟩
    · rw [← emb_frz b]; exact .frz _
    · rw [emb_lst, emb_lst, h1, h2]; exact .lst (embs_wk ps 0 h)
  | a, b, .tup ps, h => by
    rcases leW_own h with rfl | ⟨h1, h2, _⟩
    · rw [← emb_frz b]; exact .frz _
    · rw [emb_tup, emb_tup, h1, h2]; exact .tup (embs_wk ps 0 h)
  | a, b, .ins c fs ps, h => by
    rcases leW_own h with rfl | ⟨_, _, h1, h2⟩
    · rw [← emb_frz b]; exact .frz _
    · rw [emb_ins, emb_ins, h1, h2]; exact .ins (embs_wk ps 0 h)
  | a, b, .dK ks ps, h => by
    rcases leW_own h with rfl | ⟨h1, h2, _⟩
    · rw [← emb_frz b]; exact .frz _
    · rw [emb, emb, h1, h2]; exact .dK (embs_wk ps 0 h)
  | a, b, .dT ks ps, h => by
    rcases leW_own h with rfl | ⟨h1, h2, _⟩
    · rw [← emb_frz b]; exact .frz _
    · rw [emb, emb, h1, h2]; exact .dT (embs_wk ps 0 h)
theorem embs_wk : ∀ {a b : W} (ps : List P) (i : Nat), leW a b = true → Wks (embs A b i ps) (embs A a i ps)
  | a, b, [], i, h => by rw [embs, embs]; exact .nil
  | a, b, p :: ps, i, h => by rw [embs, embs]; exact .cons (emb_wk p (leW_kid h i)) (embs_wk ps (i + 1) h)
end
theorem x_wk {K : PySem.W.Frag} {U : WX} {te : TE} {δ : List W} {f : X} {w w' : W} (h : XOk K A U te δ f w) (hw : leW w' w = true) : XOk K A U te δ f w' := ⟨fun ρ p e => ev_wk (h.ok ρ p e) (emb_wk p hw), h.er⟩
end
end FP

namespace FP
open PySem PySem.Spec PyProof.Rows L2
/-! more of the reckoning layer -/
section
variable {ρ : PEnv} {f g h : X} {fs : List X} {s t : S} {i j : Nat} {p q : P} {a b : Int} {u v : Bool}
@[simp] theorem itE_ap {qs : List P} (h : xArgs fs ρ = some (.ok [.lst qs])) : itE fs ρ = some (enumP 0 qs) := by
  unfold itE
  rw [h]
  unfold enumP
  simp
def rng2K (o : Option PRs) : Option (List P) := match o with
  | some (.ok [.sc (.int i), .sc (.int j)]) => if -2 ^ 62 ≤ i ∧ i < 2 ^ 62 ∧ -2 ^ 62 ≤ j ∧ j < 2 ^ 62 then some (rngP i (j - i).toNat) else none
  | _ => none
@[simp] theorem rng2K_ok : rng2K (some (.ok [.sc (.int a), .sc (.int b)])) = if -2 ^ 62 ≤ a ∧ a < 2 ^ 62 ∧ -2 ^ 62 ≤ b ∧ b < 2 ^ 62 then some (rngP a (b - a).toNat) else none := rfl
@[simp] theorem itR2_ap : itR2 fs ρ = rng2K (xArgs fs ρ) := rfl
def zipK (o : Option PRs) : Option (List P) := match o with
  | some (.ok [.lst ps, .lst qs]) => some (List.zipWith (fun a b => .tup [a, b]) ps qs)
  | _ => none
@[simp] theorem zipK_ok {ps qs : List P} : zipK (some (.ok [.lst ps, .lst qs])) = some (List.zipWith (fun a b => .tup [a, b]) ps qs) := rfl
@[simp] theorem itZ_ap : itZ fs ρ = zipK (xArgs fs ρ) := rfl
@[simp] theorem itRev_ap {qs : List P} (h : xArgs fs ρ = some (.ok [.lst qs])) : itRev fs ρ = some qs.reverse := by
  unfold itRev
  rw [h]
def str1K (q : P → P → Option P) (a b : R) : R := match a with
  | some (.ok x) => match b with
    | some (.ok y) => (q x y).map .ok
    | _ => none
  | _ => none
@[simp] theorem str1K_ok {q : P → P → Option P} {x y : P} : str1K q (some (.ok x)) (some (.ok y)) = (q x y).map .ok := rfl
@[simp] theorem xStr1_ap {q : P → P → Option P} {f g : X} {ρ : PEnv} : xStr1 q f g ρ = str1K q (f ρ) (g ρ) := rfl
def lcEK (tk : Tk) (e : X) (vs : List Nat) (ρ : PEnv) (o : Option (List P)) : R := match o with
  | some xs => if xs.length ≤ 1000000 then lcE (lcS tk e (wipeP ρ vs)) xs else none
  | none => none
@[simp] theorem xLcE_ap {it : It'} {tk : Tk} {e : X} {vs : List Nat} {ρ : PEnv} : xLcE it tk e vs ρ = lcEK tk e vs ρ (it ρ) := by
  unfold xLcE lcEK
  cases it ρ <;> rfl
theorem lcEK_some {tk : Tk} {e : X} {vs : List Nat} {ρ : PEnv} {xs : List P} {r : R} (h1 : xs.length ≤ 1000000) (h2 : lcE (lcS tk e (wipeP ρ vs)) xs = r) : lcEK tk e vs ρ (some xs) = r := by
  unfold lcEK
  simp only
  rw [if_pos h1, h2]
theorem enumP_len (k : Int) (ps : List P) : (enumP k ps).length = ps.length := by
  unfold enumP
  simp
theorem fin_ans_rt {ρ : PEnv} {r : R} : fin (ans ρ r fun p => some (.rt p)) = r := by
  cases r with
  | none => rfl
  | some x => cases x <;> rfl
theorem qNi_of {p q : P} {b : Bool} (h : qIn p q = some (.bl b)) : qNi p q = some (.bl !b) := by
  have h' : (inOk p q).map (fun b => P.bl b) = some (.bl b) := h
  show (inOk p q).map (fun b => P.bl !b) = some (.bl !b)
  cases hq : inOk p q with
  | none => rw [hq] at h'; cases h'
  | some c => rw [hq] at h'; cases h'; rfl
def jsK (fs : List X) (acc : Str) (ρ : PEnv) (r : R) : R := match r with
  | some (.ok (.sc (.str y))) => if (acc ++ y).length ≤ sizeLine then xJs fs (acc ++ y) ρ else none
  | _ => none
@[simp] theorem jsK_ok {acc y : Str} : jsK fs acc ρ (some (.ok (.sc (.str y)))) = if (acc ++ y).length ≤ sizeLine then xJs fs (acc ++ y) ρ else none := rfl
@[simp] theorem xJs_cons {acc : Str} : xJs (f :: fs) acc ρ = jsK fs acc ρ (f ρ) := by
  rw [xJs]
  unfold jsK
  rfl
@[simp] theorem xJs_nil {acc : Str} : xJs [] acc ρ = some (.ok (.sc (.str acc))) := by rw [xJs]
@[simp] theorem xJoined_ap : xJoined fs ρ = xJs fs Str.empty ρ := rfl
@[simp] theorem xFmt_ap : xFmt f ρ = bnd (f ρ) fun p => (fmtP p).map fun y => .ok (.str y) := rfl
@[simp] theorem fmtP_str {y : Str} : fmtP (.sc (.str y)) = if y.length ≤ sizeLine then some y else none := rfl
/-- what changes in place a name's own list -/
def splK (i : Nat) (ρ : PEnv) (o : Option P) (y : P) (l h : Option (Option Int)) : Option PO := match o, y with
  | some (.lst ps), .lst qs => if ps.length + qs.length ≤ sizeLine then match l, h with
      | some (some a), some (some b) => some (.nx (ρ.set i (some (.lst (spliceL ps qs (some a) (some b))))))
      | _, _ => none
    else none
  | _, _ => none
@[simp] theorem splK_ok {ps qs : List P} {a b : Int} : splK i ρ (some (.lst ps)) (.lst qs) (some (some a)) (some (some b)) = if ps.length + qs.length ≤ sizeLine then some (.nx (ρ.set i (some (.lst (spliceL ps qs (some a) (some b)))))) else none := rfl
theorem xSetSl_root {w : W} {lo hi : X} (hw : w.own = true) : xSetSl w i .root lo hi f ρ = ans ρ (f ρ) fun y => splK i ρ (ρ.getD i none) y (intK (lo ρ)) (intK (hi ρ)) := by
  unfold xSetSl
  congr 1
  funext y
  unfold splK
  cases ρ.getD i none with
  | none => rfl
  | some v =>
    cases y with
    | lst qs =>
      cases v with
      | lst ps =>
        simp only [Pth.run, ownAt, W.at, hw, true_and]
        split
        · unfold intK
          cases lo ρ with
          | none => rfl
          | some a =>
            cases a with
            | er c fe => rfl
            | ok a =>
              cases a with
              | sc a =>
                cases a with
                | int a =>
                  cases hi ρ with
                  | none => rfl
                  | some b =>
                    cases b with
                    | er c fe => rfl
                    | ok b =>
                      cases b with
                      | sc b => cases b <;> rfl
                      | _ => rfl
                | _ => rfl
              | _ => rfl
        · rfl
      | _ => rfl
    | _ => cases v <;> rfl
@[simp] theorem xSetSl_o {w : W} {lo hi : X} : xSetSl (.o w) i .root lo hi f ρ = ans ρ (f ρ) fun y => splK i ρ (ρ.getD i none) y (intK (lo ρ)) (intK (hi ρ)) := xSetSl_root rfl
theorem splice_one {α : Type} {xs : List α} {y : α} {n : Nat} (h : n ≤ xs.length) : spliceL xs [y] (some (n : Int)) (some ((n : Int) + 1)) = xs.take n ++ [y] ++ xs.drop (n + 1) := by
  unfold spliceL
  have c1 : clipAt xs.length (n : Int) = n := by unfold clipAt; omega
  have c2 : clipAt xs.length ((n : Int) + 1) = min (n + 1) xs.length := by unfold clipAt; omega
  simp only [Option.elim_some, c1, c2]
  by_cases hh : n + 1 ≤ xs.length
  · rw [Nat.min_eq_left hh, Nat.max_eq_right (by omega)]
  · rw [Nat.min_eq_right (by omega), Nat.max_eq_right h, List.drop_length, List.drop_of_length_le (by omega)]
end
end FP

namespace PX
open PySem PySem.Spec PyProof.Rows L2 FP
def B_is_whole : S := (xRet (xAnd (xCB qIsi [(xV 0), (xC (.ty "int"))]) (xNot (xCB qIsi [(xV 0), (xC (.ty "bool"))]))))
def X_is_whole : List P → R := xDef 1 1 B_is_whole
def B_is_word_of : S := (xRet (xAnd (xCB qIsi [(xV 0), (xC (.ty "str"))]) (xOp qIn (xV 0) (xV 1))))
def X_is_word_of : List P → R := xDef 2 2 B_is_word_of
def B_Scheme_told : S := (xRet (xTup [(xFld "_rows" (isC 8) noC (xV 0)), (xFld "_columns" (isC 8) noC (xV 0)), (xCB qList [(xFld "_folds" (isC 8) noC (xV 0))])]))
def X_Scheme_told : List P → R := xDef 1 1 B_Scheme_told
def B_is_among : S := (xRet (xAnd (xCall X_is_whole [(xV 0)]) (xChn qLe qLe (xV 1) (xV 0) (xV 2))))
def X_is_among : List P → R := xDef 3 3 B_is_among
def B__is_fold : S := (xSeq (xIfS (xTOr (xTNot (xTru (xCB qIsi [(xV 0), (xC (.ty "tuple"))]))) (xOp qNe (xCB qLen [(xV 0)]) (xC (.int 3))))
  (xRet (xC (.bl false))) xNext)
  (xSeq (xAsT (tkT [(tkN 1), (tkN 2), (tkN 3)]) (xV 0))
  (xRet (xAnd (xCall X_is_word_of [(xV 1), (xKT ["left", "right", "top", "bottom"])]) (xAnd (xCall X_is_whole [(xV 2)]) (xAnd (xOp qGe (xV 2) (xC (.int 1))) (xCall X_is_word_of [(xV 3), (xKT ["over", "under"])])))))))
def X__is_fold : List P → R := xDef 4 1 B__is_fold
def B_is_size : S := (xSeq (xIfS (xTOr (xTNot (xTru (xCall X_is_among [(xV 0), (xC (.int 1)), (xC (.int 8))]))) (xTNot (xTru (xCall X_is_among [(xV 1), (xC (.int 1)), (xC (.int 8))]))))
  (xRet (xC (.bl false))) xNext)
  (xRet (xOp qLe (xOp qMul (xV 0) (xV 1)) (xC (.int 32)))))
def X_is_size : List P → R := xDef 2 2 B_is_size
def B_size_after : S := (xSeq (xIfS (xTNot (xTru (xCall X__is_fold [(xV 2)])))
  (xRet (xC .non)) xNext)
  (xSeq (xAsT (tkT [(tkN 3), (tkN 4), (tkN 5)]) (xV 2))
  (xSeq (xIfS (xOp qIn (xV 3) (xKT ["top", "bottom"]))
  (xRet (xIf (xOp qLe (xOp qMul (xC (.int 2)) (xV 4)) (xV 0)) (xTup [(xOp qSub (xV 0) (xV 4)), (xV 1)]) (xC .non))) xNext)
  (xRet (xIf (xOp qLe (xOp qMul (xC (.int 2)) (xV 4)) (xV 1)) (xTup [(xV 0), (xOp qSub (xV 1) (xV 4))]) (xC .non))))))
def X_size_after : List P → R := xDef 6 3 B_size_after
def L_first_wrong_fold_1 : S := (xFg [4, 5] (xSeq (xSet 3 (xCall X_size_after [(xOp qIx (xV 3) (xC (.int 0))), (xOp qIx (xV 3) (xC (.int 1))), (xV 5)]))
  (xIfS (xOp qIs (xV 3) (xC .non))
  (xRet (xV 4)) xNext)))
def B_first_wrong_fold : S := (xSeq (xSet 3 (xTup [(xV 0), (xV 1)]))
  (xSeq (xFor (itES 1 [(xV 2)]) (tkT [(tkN 4), (tkN 5)])
  L_first_wrong_fold_1)
  (xSeq (xIfS (xOp qNe (xV 3) (xTup [(xC (.int 1)), (xC (.int 1))]))
  (xRet (xOp qAdd (xCB qLen [(xV 2)]) (xC (.int 1)))) xNext)
  (xRet (xC .non)))))
def X_first_wrong_fold : List P → R := xDef 6 3 B_first_wrong_fold
def B_Scheme___init__ : S := (xSeq (xIfS (xTOr (xTNot (xTru (xCall X_is_size [(xV 1), (xV 2)]))) (xTNot (xTru (xCB qIsi [(xV 3), (xC (.ty "list"))]))))
  (xRaise (xMI 3 mk_BadScheme [(xC (.int 0))])) xNext)
  (xSeq (xSet 4 (xCall X_first_wrong_fold [(xV 1), (xV 2), (xV 3)]))
  (xSeq (xIfS (xOp qIsn (xV 4) (xC .non))
  (xRaise (xMI 3 mk_BadScheme [(xV 4)])) xNext)
  (xSeq (xSetF 0 "_rows" (isC 8) 0 (xV 1))
  (xSeq (xSetF 0 "_columns" (isC 8) 1 (xV 2))
  (xSetF 0 "_folds" (isC 8) 2 (xCB qTuple [(xLc (itL (xV 3)) (tkT [(tkN 5), (tkN 6), (tkN 7)]) none (xTup [(xV 5), (xV 6), (xV 7)]) [5, 6, 7])])))))))
def X_Scheme___init__ : List P → R := xInit 8 8 4 B_Scheme___init__
def B_words_of : S := (xSeq (xIfS (xTNot (xTru (xCB qIsi [(xV 0), (xC (.ty "str"))])))
  (xRet (xC .non)) xNext)
  (xSeq (xSet 1 (xStr1 qSplit (xV 0) (xC (.str " "))))
  (xSeq (xIfS (xOp qIn (xC (.str "")) (xV 1))
  (xRet (xC .non)) xNext)
  (xRet (xV 1)))))
def X_words_of : List P → R := xDef 2 1 B_words_of
def B_scheme_rows : S := (xSeq (xAsT (tkT [(tkN 1), (tkN 2), (tkN 3)]) (xMeth 8 "told" X_Scheme_told (xV 0) []))
  (xRet (xOp qCat (xLst [(xJoined [(xC (.str "sheet ")), (xFmt (xV 1)), (xC (.str " ")), (xFmt (xV 2))])]) (xLc (itL (xV 3)) (tkT [(tkN 4), (tkN 5), (tkN 6)]) none (xJoined [(xC (.str "fold ")), (xFmt (xV 4)), (xC (.str " ")), (xFmt (xV 5)), (xC (.str " ")), (xFmt (xV 6))]) [4, 5, 6]))))
def X_scheme_rows : List P → R := xDef 7 1 B_scheme_rows
def B_rows_of : S := (xSeq (xIfS (xTNot (xTru (xCB qIsi [(xV 0), (xC (.ty "str"))])))
  (xRaise (xMI 2 mk_BadRow [(xC (.int 1)), (xC (.int 0))])) xNext)
  (xRet (xStr1 qSplit (xV 0) (xC (.str "
")))))
def X_rows_of : List P → R := xDef 1 1 B_rows_of
def B_words_at : S := (xSeq (xSet 2 (xCall X_words_of [(xV 0)]))
  (xSeq (xIfS (xOp qIs (xV 2) (xC .non))
  (xRaise (xMI 2 mk_BadRow [(xV 1), (xC (.int 0))])) xNext)
  (xRet (xV 2))))
def X_words_at : List P → R := xDef 3 2 B_words_at
def L_words_among_1 : S := (xFg [3, 4] (xIfS (xTOr (xOp qGt (xV 3) (xCB qLen [(xV 2)])) (xOp qNi (xV 4) (xOp qIx (xV 2) (xOp qSub (xV 3) (xC (.int 1))))))
  (xRaise (xMI 2 mk_BadRow [(xV 1), (xV 3)])) xNext))
def B_words_among : S := (xSeq (xFor (itES 1 [(xV 0)]) (tkT [(tkN 3), (tkN 4)])
  L_words_among_1)
  (xSeq (xIfS (xOp qLt (xCB qLen [(xV 0)]) (xCB qLen [(xV 2)]))
  (xRaise (xMI 2 mk_BadRow [(xV 1), (xOp qAdd (xCB qLen [(xV 0)]) (xC (.int 1)))])) xNext)
  (xRet (xV 0))))
def X_words_among : List P → R := xDef 5 3 B_words_among
def B_scheme_text : S := (xRet (xStr1 qJoin (xC (.str "
")) (xCall X_scheme_rows [(xV 0)])))
def X_scheme_text : List P → R := xDef 1 1 B_scheme_text
def B_read_size : S := (xSeq (xDo (xCall X_words_among [(xV 0), (xV 1), (xTup [(xTup [(xC (.str "sheet"))]), (xKT ["1", "2", "3", "4", "5", "6", "7", "8"]), (xKT ["1", "2", "3", "4", "5", "6", "7", "8"])])]))
  (xRet (xTup [(xCB qInt [(xOp qIx (xV 0) (xC (.int 1)))]), (xCB qInt [(xOp qIx (xV 0) (xC (.int 2)))])])))
def X_read_size : List P → R := xDef 2 2 B_read_size
def B_read_fold : S := (xSeq (xDo (xCall X_words_among [(xV 0), (xV 1), (xTup [(xTup [(xC (.str "fold"))]), (xKT ["left", "right", "top", "bottom"]), (xKT ["1", "2", "3", "4", "5", "6", "7", "8"]), (xKT ["over", "under"])])]))
  (xRet (xTup [(xOp qIx (xV 0) (xC (.int 1))), (xCB qInt [(xOp qIx (xV 0) (xC (.int 2)))]), (xOp qIx (xV 0) (xC (.int 3)))])))
def X_read_fold : List P → R := xDef 2 2 B_read_fold
def B_read_scheme : S := (xSeq (xSet 1 (xCall X_rows_of [(xV 0)]))
  (xSeq (xSet 2 (xCall X_read_size [(xCall X_words_at [(xOp qIx (xV 1) (xC (.int 0))), (xC (.int 1))]), (xC (.int 1))]))
  (xSeq (xSet 3 (xLcE (itES 2 [(xSlc (xV 1) (some (xC (.int 1))) none)]) (tkT [(tkN 4), (tkN 5)]) (xCall X_read_fold [(xCall X_words_at [(xV 5), (xV 4)]), (xV 4)]) [4, 5]))
  (xRet (xCall X_Scheme___init__ [(xOp qIx (xV 2) (xC (.int 0))), (xOp qIx (xV 2) (xC (.int 1))), (xV 3)])))))
def X_read_scheme : List P → R := xDef 6 1 B_read_scheme
end PX

namespace Q03
open PySem PySem.Spec PyProof.Rows L2 FP PX
def isT : Nat → Nat → Option Bool
  | 2, 2 => some true
  | 2, 3 => some false
  | 2, 4 => some false
  | 2, 5 => some false
  | 2, 6 => some false
  | 2, 7 => some false
  | 2, 1 => some true
  | 3, 2 => some false
  | 3, 3 => some true
  | 3, 4 => some false
  | 3, 5 => some false
  | 3, 6 => some false
  | 3, 7 => some false
  | 3, 1 => some true
  | 4, 2 => some false
  | 4, 3 => some false
  | 4, 4 => some true
  | 4, 5 => some false
  | 4, 6 => some false
  | 4, 7 => some false
  | 4, 1 => some true
  | 5, 2 => some false
  | 5, 3 => some false
  | 5, 4 => some false
  | 5, 5 => some true
  | 5, 6 => some false
  | 5, 7 => some false
  | 5, 1 => some true
  | 6, 2 => some false
  | 6, 3 => some false
  | 6, 4 => some false
  | 6, 5 => some false
  | 6, 6 => some true
  | 6, 7 => some false
  | 6, 1 => some true
  | 7, 2 => some false
  | 7, 3 => some false
  | 7, 4 => some false
  | 7, 5 => some false
  | 7, 6 => some false
  | 7, 7 => some true
  | 7, 1 => some true
  | _, _ => none
def isV : Nat → Option Bool
  | 2 => some true
  | 3 => some true
  | 4 => some true
  | 5 => some true
  | 6 => some true
  | 7 => some true
  | _ => none
def catch_PressError (c : Nat) : Bool := c == 2 || c == 3 || c == 4 || c == 5 || c == 6 || c == 7
def B__law_mixed : S := (xSeq (xSet 0 (xOp qAdd (xOp qAdd (xOp qMd (xV 0) (xC (.int 1000000007))) (xOp qMul (xC (.int 7919)) (xV 1))) (xC (.int 13))))
  (xRet (xOp qMd (xOp qMul (xOp qMd (xOp qMul (xV 0) (xV 0)) (xC (.int 1000000007))) (xC (.int 48271))) (xC (.int 2147483647)))))
def X__law_mixed : List P → R := xDef 2 2 B__law_mixed
def B__law_kinds : S := (xSeq (xSet 1 (xLst [(xTup [(xC (.str "row")), (xCB (qIsy isT isV) [(xV 0), (xCls 2)])]), (xTup [(xC (.str "scheme")), (xCB (qIsy isT isV) [(xV 0), (xCls 3)])])]))
  (xSeq (xSet 1 (xOp qAdd (xV 1) (xLst [(xTup [(xC (.str "sheet")), (xCB (qIsy isT isV) [(xV 0), (xCls 4)])]), (xTup [(xC (.str "book")), (xCB (qIsy isT isV) [(xV 0), (xCls 5)])])])))
  (xSeq (xSet 1 (xOp qAdd (xV 1) (xLst [(xTup [(xC (.str "great")), (xCB (qIsy isT isV) [(xV 0), (xCls 6)])]), (xTup [(xC (.str "place")), (xCB (qIsy isT isV) [(xV 0), (xCls 7)])])])))
  (xSeq (xSet 1 (xOp qAdd (xV 1) (xLst [(xTup [(xC (.str "other")), (xOr (xNot (xCB (qIsy isT isV) [(xV 0), (xC (.ty "ValueError"))])) (xNot (xCB (qIsy isT isV) [(xV 0), (xCls 1)])))])])))
  (xRet (xLc (itL (xV 1)) (tkT [(tkN 2), (tkN 3)]) (some (xTru (xV 3))) (xV 2) [2, 3]))))))
def X__law_kinds : List P → R := xDef 4 1 B__law_kinds
def B__law_size : S := (xSeq (xSet 1 (xOp qAdd (xC (.int 1)) (xOp qMd (xV 0) (xC (.int 8)))))
  (xSeq (xSet 2 (xOp qAdd (xC (.int 1)) (xOp qMd (xOp qFd (xV 0) (xC (.int 8))) (xC (.int 8)))))
  (xRet (xIf (xOp qEq (xOp qMd (xOp qFd (xV 0) (xC (.int 64))) (xC (.int 2))) (xC (.int 0))) (xTup [(xV 1), (xCB qMin [(xV 2), (xOp qFd (xC (.int 32)) (xV 1))])]) (xTup [(xCB qMin [(xV 1), (xC (.int 4))]), (xCB qMin [(xV 2), (xC (.int 4))])])))))
def X__law_size : List P → R := xDef 3 1 B__law_size
def B__law_rows : S := (xRet (xOp qAdd (xLst [(xLst [(xC (.str "sheet")), (xCB qStr [(xV 0)]), (xCB qStr [(xV 1)])])]) (xLc (itL (xV 2)) (tkT [(tkN 3), (tkN 4), (tkN 5)]) none (xLst [(xC (.str "fold")), (xV 3), (xCB qStr [(xV 4)]), (xV 5)]) [3, 4, 5])))
def X__law_rows : List P → R := xDef 6 3 B__law_rows
def B__law_bent : S := (xSeq (xSet 2 (xLst [(xC (.str "sheet")), (xC (.str "fold")), (xC (.str "left")), (xC (.str "bottom")), (xC (.str "over")), (xC (.str "under")), (xC (.str "1")), (xC (.str "8")), (xC (.str "9")), (xC (.str "0")), (xC (.str "01")), (xC (.str "")), (xC (.str "x")), (xC (.str "Left"))]))
  (xSeq (xSet 3 (xOp qMd (xOp qFd (xV 1) (xC (.int 12))) (xCB qLen [(xV 0)])))
  (xSeq (xSet 4 (xOp qIx (xV 0) (xV 3)))
  (xSeq (xSet 5 (xOp qMd (xOp qFd (xV 1) (xC (.int 1200))) (xOp qAdd (xCB qLen [(xV 4)]) (xC (.int 1)))))
  (xSeq (xSet 6 (xOp qIx (xV 2) (xOp qMd (xOp qFd (xV 1) (xC (.int 40000))) (xC (.int 14)))))
  (xSeq (xSet 7 (xOp qMd (xV 1) (xC (.int 12))))
  (xSeq (xIfS (xOp qEq (xV 7) (xC (.int 0)))
  (xRet (xOp qAdd (xOp qAdd (xSlc (xV 0) none (some (xV 3))) (xSlc (xV 0) (some (xOp qAdd (xV 3) (xC (.int 1)))) none)) (xOp qRep (xLst [(xLst [(xC (.str "fold")), (xC (.str "top")), (xC (.str "1")), (xC (.str "over"))])]) (xCB qInt [(xOp qEq (xCB qLen [(xV 0)]) (xC (.int 1)))])))) xNext)
  (xSeq (xIfS (xOp qEq (xV 7) (xC (.int 1)))
  (xRet (xOp qAdd (xOp qAdd (xSlc (xV 0) none (some (xV 3))) (xLst [(xV 4)])) (xSlc (xV 0) (some (xV 3)) none))) xNext)
  (xSeq (xIfS (xOp qEq (xV 7) (xC (.int 2)))
  (xRet (xOp qAdd (xOp qAdd (xSlc (xV 0) none (some (xV 3))) (xSlc (xV 0) (some (xOp qAdd (xV 3) (xC (.int 1)))) none)) (xLst [(xV 4)]))) xNext)
  (xSeq (xSet 8 (xCB qList [(xV 4)]))
  (xSeq (xIfS (xOp qLt (xV 7) (xC (.int 6)))
  (xChg (.o .s) 8 .root qInsert [(xV 5), (xV 6)]) (xIfS (xOp qLt (xV 7) (xC (.int 8)))
  (xSet 8 (xOp qCat (xSlc (xV 4) none (some (xV 5))) (xSlc (xV 4) (some (xOp qAdd (xV 5) (xC (.int 1)))) none))) (xSetSl (.o .s) 8 .root (xV 5) (xOp qAdd (xV 5) (xC (.int 1))) (xLst [(xV 6)]))))
  (xRet (xOp qAdd (xOp qAdd (xSlc (xV 0) none (some (xV 3))) (xLst [(xV 8)])) (xSlc (xV 0) (some (xOp qAdd (xV 3) (xC (.int 1)))) none))))))))))))))
def X__law_bent : List P → R := xDef 9 2 B__law_bent
def L__law_first_wrong_1 : S := (xFg [4, 5] (xIfS (xTOr (xOp qEq (xV 4) (xCB qLen [(xV 0)])) (xOp qNi (xOp qIx (xV 0) (xV 4)) (xV 5)))
  (xRet (xOp qAdd (xV 4) (xC (.int 1)))) xNext))
def B__law_first_wrong : S := (xSeq (xSet 2 (xLc (itR2 [(xC (.int 1)), (xC (.int 9))]) (tkN 4) none (xCB qStr [(xV 4)]) [4]))
  (xSeq (xSet 3 (xLst [(xLst [(xC (.str "fold"))]), (xLst [(xC (.str "left")), (xC (.str "right")), (xC (.str "top")), (xC (.str "bottom"))]), (xV 2), (xLst [(xC (.str "over")), (xC (.str "under"))])]))
  (xSeq (xIfS (xTru (xV 1))
  (xSet 3 (xLst [(xLst [(xC (.str "sheet"))]), (xV 2), (xV 2)])) xNext)
  (xSeq (xIfS (xOp qIn (xC (.str "")) (xV 0))
  (xRet (xC (.int 0))) xNext)
  (xSeq (xFor (itE [(xV 3)]) (tkT [(tkN 4), (tkN 5)])
  L__law_first_wrong_1)
  (xRet (xIf (xOp qEq (xCB qLen [(xV 0)]) (xCB qLen [(xV 3)])) (xC .non) (xOp qAdd (xCB qLen [(xV 3)]) (xC (.int 1))))))))))
def X__law_first_wrong : List P → R := xDef 6 2 B__law_first_wrong
def L__law_folds_1 : S := (xFg [5, 6, 7, 8, 9] (xSeq (xSet 5 (xOp qAdd (xCall X__law_mixed [(xOp qIx (xV 2) (xSc (xOp qMd (xCB qLen [(xV 4)]) (xCB qLen [(xV 2)])))), (xSc (xOp qAdd (xC (.int 7)) (xCB qLen [(xV 4)])))]) (xV 3)))
  (xSeq (xSet 6 (xAnd (xOp qGt (xV 0) (xC (.int 1))) (xOr (xOp qEq (xV 1) (xC (.int 1))) (xOp qEq (xOp qMd (xV 5) (xC (.int 2))) (xC (.int 0))))))
  (xSeq (xSet 7 (xIf (xTru (xV 6)) (xV 0) (xV 1)))
  (xSeq (xSet 8 (xIf (xOp qEq (xOp qMd (xOp qFd (xV 5) (xC (.int 2))) (xC (.int 3))) (xC (.int 0))) (xOp qFd (xV 7) (xC (.int 2))) (xOp qAdd (xC (.int 1)) (xOp qMd (xOp qFd (xV 5) (xC (.int 6))) (xOp qFd (xV 7) (xC (.int 2)))))))
  (xSeq (xSet 9 (xOp qIx (xOp qIx (xLst [(xLst [(xC (.str "left")), (xC (.str "right"))]), (xLst [(xC (.str "top")), (xC (.str "bottom"))])]) (xCB qInt [(xV 6)])) (xOp qMd (xOp qFd (xV 5) (xC (.int 100))) (xC (.int 2)))))
  (xSeq (xChg (.o .s) 4 .root qAppend [(xTup [(xV 9), (xV 8), (xOp qIx (xLst [(xC (.str "over")), (xC (.str "under"))]) (xOp qMd (xOp qFd (xV 5) (xC (.int 200))) (xC (.int 2))))])])
  (xIfS (xTru (xV 6))
  (xSet 0 (xOp qSub (xV 0) (xV 8))) (xSet 1 (xOp qSub (xV 1) (xV 8)))))))))))
def B__law_folds : S := (xSeq (xSet 4 (xLst []))
  (xSeq (xWhile 10000 (xOp qNe (xTup [(xV 0), (xV 1)]) (xTup [(xC (.int 1)), (xC (.int 1))]))
  L__law_folds_1)
  (xRet (xV 4))))
def X__law_folds : List P → R := xDef 10 4 B__law_folds
def L__law_read_1 : S := (xFg [4, 6] (xSeq (xSet 6 (xCall X__law_first_wrong [(xV 5), (xOp qEq (xV 4) (xC (.int 0)))]))
  (xIfS (xOp qIsn (xV 6) (xC .non))
  (xRet (xTup [(xOp qAdd (xV 4) (xC (.int 1))), (xV 6)])) xNext)))
def L__law_read_2 : S := (xFg [4, 7, 8, 9, 10] (xSeq (xSet 7 (xOp qIn (xV 8) (xTup [(xC (.str "left")), (xC (.str "right"))])))
  (xSeq (xIfS (xOp qGt (xOp qMul (xC (.int 2)) (xV 9)) (xOp qIx (xV 2) (xCB qInt [(xV 7)])))
  (xRet (xOp qAdd (xV 4) (xC (.int 1)))) xNext)
  (xSet 2 (xIf (xTru (xV 7)) (xTup [(xOp qIx (xV 2) (xC (.int 0))), (xOp qSub (xOp qIx (xV 2) (xC (.int 1))) (xV 9))]) (xTup [(xOp qSub (xOp qIx (xV 2) (xC (.int 0))) (xV 9)), (xOp qIx (xV 2) (xC (.int 1)))]))))))
def B__law_read : S := (xSeq (xFor (itE [(xV 0)]) (tkT [(tkN 4), (tkN 5)])
  L__law_read_1)
  (xSeq (xSet 1 (xTup [(xCB qInt [(xOp qIx (xOp qIx (xV 0) (xC (.int 0))) (xC (.int 1)))]), (xCB qInt [(xOp qIx (xOp qIx (xV 0) (xC (.int 0))) (xC (.int 2)))])]))
  (xSeq (xIfS (xOp qGt (xOp qMul (xOp qIx (xV 1) (xC (.int 0))) (xOp qIx (xV 1) (xC (.int 1)))) (xC (.int 32)))
  (xRet (xC (.int 0))) xNext)
  (xSeq (xSet 2 (xV 1))
  (xSeq (xSet 3 (xLc (itL (xSlc (xV 0) (some (xC (.int 1))) none)) (tkN 5) none (xTup [(xOp qIx (xV 5) (xC (.int 1))), (xCB qInt [(xOp qIx (xV 5) (xC (.int 2)))]), (xOp qIx (xV 5) (xC (.int 3)))]) [5]))
  (xSeq (xFor (itE [(xV 3)]) (tkT [(tkN 4), (tkT [(tkN 8), (tkN 9), (tkN 10)])])
  L__law_read_2)
  (xRet (xIf (xOp qEq (xV 2) (xTup [(xC (.int 1)), (xC (.int 1))])) (xTup [(xOp qIx (xV 1) (xC (.int 0))), (xOp qIx (xV 1) (xC (.int 1))), (xV 3)]) (xOp qAdd (xCB qLen [(xV 3)]) (xC (.int 1)))))))))))
def X__law_read : List P → R := xDef 11 1 B__law_read
def B__law_scheme : S := (xSeq (xSet 2 (xOp qAdd (xSlc (xV 0) none (some (xC (.int 200)))) (xLst [(xOp qAdd (xCB qSum [(xV 0)]) (xCB qLen [(xV 0)]))])))
  (xSeq (xSet 3 (xCall X__law_mixed [(xCB qSum [(xV 2)]), (xV 1)]))
  (xSeq (xAsT (tkT [(tkN 4), (tkN 5)]) (xCall X__law_size [(xV 3)]))
  (xRet (xTup [(xV 4), (xV 5), (xCall X__law_folds [(xV 4), (xV 5), (xV 2), (xOp qFd (xV 3) (xC (.int 1000)))])])))))
def X__law_scheme : List P → R := xDef 6 2 B__law_scheme
def B__law_found : S := (xSeq (xSet 1 (xC .non))
  (xSeq (xSet 2 (xC .non))
  (xSeq (xTry catch_PressError 3 1 (xSet 2 (xCall X_read_scheme [(xV 0)])))
  (xSeq (xIfS (xOp qIs (xV 1) (xC .non))
  (xRet (xMeth 8 "told" X_Scheme_told (xV 2) [])) xNext)
  (xSeq (xSet 4 (xCall X__law_kinds [(xV 1)]))
  (xSeq (xIfS (xOp qEq (xV 4) (xLst [(xC (.str "row"))]))
  (xRet (xTup [(xFld "row" noC (isC 2) (xV 1)), (xFld "word" noC (isC 2) (xV 1))])) xNext)
  (xRet (xIf (xOp qEq (xV 4) (xLst [(xC (.str "scheme"))])) (xSc (xFld "at" noC (isC 3) (xV 1))) (xC .non)))))))))
def X__law_found : List P → R := xDef 5 1 B__law_found
def L_law_1 : S := (xFg [4, 10] (xSeq (xSet 10 (xCall X_scheme_rows [(xV 2)]))
  (xSeq (xIfS (xTs (xTOr (xTNot (xTru (xCB qIsi [(xV 10), (xC (.ty "list"))]))) (xOp qNe (xV 10) (xLc (itL (xV 3)) (tkN 13) none (xStr1 qJoin (xC (.str " ")) (xV 13)) [13]))))
  (xRet (xC (.bl false))) xNext)
  (xChg (.o .s) 10 .root qAppend [(xC (.str "x"))]))))
def L_law_2 : S := (xFg [10, 12] (xSeq (xSet 10 (xCall X__law_found [(xV 5)]))
  (xIfS (xTs (xTOr (xOp qNe (xV 10) (xV 11)) (xOp qNe (xCB qIsi [(xV 10), (xC (.ty "tuple"))]) (xCB qIsi [(xV 11), (xC (.ty "tuple"))]))))
  (xRet (xC (.bl false))) xNext)))
def L_law_3 : S := (xFg [4, 10, 11, 12] (xSeq (xSet 3 (xCall X__law_bent [(xV 3), (xCall X__law_mixed [(xV 1), (xOp qAdd (xC (.int 50)) (xV 4))])]))
  (xSeq (xSet 5 (xStr1 qJoin (xC (.str "
")) (xLc (itL (xV 3)) (tkN 13) none (xStr1 qJoin (xC (.str " ")) (xV 13)) [13])))
  (xSeq (xSet 11 (xCall X__law_read [(xLc (itL (xStr1 qSplit (xV 5) (xC (.str "
")))) (tkN 14) none (xStr1 qSplit (xV 14) (xC (.str " "))) [14])]))
  (xFor (itR1 [(xC (.int 2))]) (tkN 12)
  L_law_2)))))
def B_law : S := (xSeq (xSet 1 (xOp qAdd (xCB qSum [(xV 0)]) (xCB qLen [(xV 0)])))
  (xSeq (xAsT (tkT [(tkN 7), (tkN 8), (tkN 9)]) (xCall X__law_scheme [(xV 0), (xC (.int 3))]))
  (xSeq (xSet 2 (xCall X_Scheme___init__ [(xV 7), (xV 8), (xV 9)]))
  (xSeq (xSet 3 (xCall X__law_rows [(xV 7), (xV 8), (xV 9)]))
  (xSeq (xFor (itR1 [(xC (.int 2))]) (tkN 4)
  L_law_1)
  (xSeq (xSet 5 (xCall X_scheme_text [(xV 2)]))
  (xSeq (xIfS (xTOr (xOp qNe (xV 5) (xStr1 qJoin (xC (.str "
")) (xLc (itL (xV 3)) (tkN 13) none (xStr1 qJoin (xC (.str " ")) (xV 13)) [13]))) (xOp qNe (xCall X__law_found [(xV 5)]) (xTup [(xV 7), (xV 8), (xV 9)])))
  (xRet (xC (.bl false))) xNext)
  (xSeq (xFor (itR1 [(xC (.int 3))]) (tkN 4)
  L_law_3)
  (xSeq (xSet 6 (xOp qIx (xLst [(xC .non), (xC (.int 7)), (xC (.bl true)), (xLst [(xV 5)]), (xTup [(xV 5)]), xDnew]) (xOp qMd (xCall X__law_mixed [(xV 1), (xC (.int 60))]) (xC (.int 6)))))
  (xRet (xAnd (xOp qEq (xCall X__law_found [(xV 6)]) (xTup [(xC (.int 1)), (xC (.int 0))])) (xOp qEq (xCall X__law_found [(xC (.str ""))]) (xTup [(xC (.int 1)), (xC (.int 0))])))))))))))))
def X_law : List P → R := xDef 15 1 B_law
end Q03

namespace Q03
open PySem PySem.Spec PyProof.Rows L2 FP PX
def topS (i : Nat) : Stmt := PySem.Challenge.pw_foldpress_k03_schemes_as_texts.main.body.getD i (.Pass ⟨0, 0, 0, 0⟩)
abbrev s_BadRow___init__ : Stmt := inClass (topS 2) 0
theorem sc_BadRow___init__ : FnScope ["self", "row", "word"] ["self", "row", "word"] (defScope s_BadRow___init__) := ⟨rfl, rfl, rfl, by decide +kernel, rfl, by decide +kernel, by decide +kernel⟩
abbrev s_BadScheme___init__ : Stmt := inClass (topS 3) 0
theorem sc_BadScheme___init__ : FnScope ["self", "at"] ["self", "at"] (defScope s_BadScheme___init__) := ⟨rfl, rfl, rfl, by decide +kernel, rfl, by decide +kernel, by decide +kernel⟩
abbrev s_is_whole : Stmt := topS 9
theorem sc_is_whole : FnScope ["thing"] ["thing"] (defScope s_is_whole) := ⟨rfl, rfl, rfl, by decide +kernel, rfl, by decide +kernel, by decide +kernel⟩
abbrev s_is_among : Stmt := topS 10
theorem sc_is_among : FnScope ["thing", "least", "most"] ["thing", "least", "most"] (defScope s_is_among) := ⟨rfl, rfl, rfl, by decide +kernel, rfl, by decide +kernel, by decide +kernel⟩
abbrev s_is_word_of : Stmt := topS 11
theorem sc_is_word_of : FnScope ["thing", "words"] ["thing", "words"] (defScope s_is_word_of) := ⟨rfl, rfl, rfl, by decide +kernel, rfl, by decide +kernel, by decide +kernel⟩
abbrev s_words_of : Stmt := topS 12
theorem sc_words_of : FnScope ["row", "words"] ["row"] (defScope s_words_of) := ⟨rfl, rfl, rfl, by decide +kernel, rfl, by decide +kernel, by decide +kernel⟩
abbrev s_Scheme___init__ : Stmt := inClass (topS 19) 0
theorem sc_Scheme___init__ : FnScope ["self", "rows", "columns", "folds", "at", "edge", "many", "way"] ["self", "rows", "columns", "folds"] (defScope s_Scheme___init__) := ⟨rfl, rfl, rfl, by decide +kernel, rfl, by decide +kernel, by decide +kernel⟩
abbrev s_Scheme_told : Stmt := inClass (topS 19) 1
theorem sc_Scheme_told : FnScope ["self"] ["self"] (defScope s_Scheme_told) := ⟨rfl, rfl, rfl, by decide +kernel, rfl, by decide +kernel, by decide +kernel⟩
abbrev s_is_size : Stmt := topS 20
theorem sc_is_size : FnScope ["rows", "columns"] ["rows", "columns"] (defScope s_is_size) := ⟨rfl, rfl, rfl, by decide +kernel, rfl, by decide +kernel, by decide +kernel⟩
abbrev s_first_wrong_fold : Stmt := topS 21
theorem sc_first_wrong_fold : FnScope ["rows", "columns", "folds", "left", "at", "fold"] ["rows", "columns", "folds"] (defScope s_first_wrong_fold) := ⟨rfl, rfl, rfl, by decide +kernel, rfl, by decide +kernel, by decide +kernel⟩
abbrev s_size_after : Stmt := topS 22
theorem sc_size_after : FnScope ["rows", "columns", "fold", "edge", "many", "_"] ["rows", "columns", "fold"] (defScope s_size_after) := ⟨rfl, rfl, rfl, by decide +kernel, rfl, by decide +kernel, by decide +kernel⟩
abbrev s__is_fold : Stmt := topS 23
theorem sc__is_fold : FnScope ["fold", "edge", "many", "way"] ["fold"] (defScope s__is_fold) := ⟨rfl, rfl, rfl, by decide +kernel, rfl, by decide +kernel, by decide +kernel⟩
abbrev s_rows_of : Stmt := topS 25
theorem sc_rows_of : FnScope ["text"] ["text"] (defScope s_rows_of) := ⟨rfl, rfl, rfl, by decide +kernel, rfl, by decide +kernel, by decide +kernel⟩
abbrev s_words_at : Stmt := topS 26
theorem sc_words_at : FnScope ["row", "at", "words"] ["row", "at"] (defScope s_words_at) := ⟨rfl, rfl, rfl, by decide +kernel, rfl, by decide +kernel, by decide +kernel⟩
abbrev s_words_among : Stmt := topS 27
theorem sc_words_among : FnScope ["words", "at", "choices", "number", "word"] ["words", "at", "choices"] (defScope s_words_among) := ⟨rfl, rfl, rfl, by decide +kernel, rfl, by decide +kernel, by decide +kernel⟩
abbrev s_scheme_rows : Stmt := topS 30
theorem sc_scheme_rows : FnScope ["scheme", "rows", "columns", "folds", "edge", "many", "way"] ["scheme"] (defScope s_scheme_rows) := ⟨rfl, rfl, rfl, by decide +kernel, rfl, by decide +kernel, by decide +kernel⟩
abbrev s_scheme_text : Stmt := topS 31
theorem sc_scheme_text : FnScope ["scheme"] ["scheme"] (defScope s_scheme_text) := ⟨rfl, rfl, rfl, by decide +kernel, rfl, by decide +kernel, by decide +kernel⟩
abbrev s_read_scheme : Stmt := topS 32
theorem sc_read_scheme : FnScope ["text", "rows", "size", "folds", "at", "row"] ["text"] (defScope s_read_scheme) := ⟨rfl, rfl, rfl, by decide +kernel, rfl, by decide +kernel, by decide +kernel⟩
abbrev s_read_size : Stmt := topS 33
theorem sc_read_size : FnScope ["words", "at"] ["words", "at"] (defScope s_read_size) := ⟨rfl, rfl, rfl, by decide +kernel, rfl, by decide +kernel, by decide +kernel⟩
abbrev s_read_fold : Stmt := topS 34
theorem sc_read_fold : FnScope ["words", "at"] ["words", "at"] (defScope s_read_fold) := ⟨rfl, rfl, rfl, by decide +kernel, rfl, by decide +kernel, by decide +kernel⟩
abbrev s__law_mixed : Stmt := topS 36
theorem sc__law_mixed : FnScope ["_law_cell", "_law_k"] ["_law_cell", "_law_k"] (defScope s__law_mixed) := ⟨rfl, rfl, rfl, by decide +kernel, rfl, by decide +kernel, by decide +kernel⟩
abbrev s__law_kinds : Stmt := topS 37
theorem sc__law_kinds : FnScope ["_law_error", "_law_kinds_here", "_law_name", "_law_fits"] ["_law_error"] (defScope s__law_kinds) := ⟨rfl, rfl, rfl, by decide +kernel, rfl, by decide +kernel, by decide +kernel⟩
abbrev s__law_size : Stmt := topS 38
theorem sc__law_size : FnScope ["_law_number", "_law_rows_here", "_law_columns"] ["_law_number"] (defScope s__law_size) := ⟨rfl, rfl, rfl, by decide +kernel, rfl, by decide +kernel, by decide +kernel⟩
abbrev s__law_folds : Stmt := topS 39
theorem sc__law_folds : FnScope ["_law_rows_here", "_law_columns", "_law_cells", "_law_number", "_law_folds_here", "_law_own", "_law_is_level", "_law_side", "_law_many", "_law_edge"] ["_law_rows_here", "_law_columns", "_law_cells", "_law_number"] (defScope s__law_folds) := ⟨rfl, rfl, rfl, by decide +kernel, rfl, by decide +kernel, by decide +kernel⟩
abbrev s__law_scheme : Stmt := topS 40
theorem sc__law_scheme : FnScope ["_law_script", "_law_k", "_law_cells", "_law_whole", "_law_rows_here", "_law_columns"] ["_law_script", "_law_k"] (defScope s__law_scheme) := ⟨rfl, rfl, rfl, by decide +kernel, rfl, by decide +kernel, by decide +kernel⟩
abbrev s__law_rows : Stmt := topS 41
theorem sc__law_rows : FnScope ["_law_rows_here", "_law_columns", "_law_folds_here", "_law_edge", "_law_many", "_law_way"] ["_law_rows_here", "_law_columns", "_law_folds_here"] (defScope s__law_rows) := ⟨rfl, rfl, rfl, by decide +kernel, rfl, by decide +kernel, by decide +kernel⟩
abbrev s__law_bent : Stmt := topS 42
theorem sc__law_bent : FnScope ["_law_rows_here", "_law_number", "_law_some", "_law_at", "_law_row", "_law_spot", "_law_word", "_law_way", "_law_more"] ["_law_rows_here", "_law_number"] (defScope s__law_bent) := ⟨rfl, rfl, rfl, by decide +kernel, rfl, by decide +kernel, by decide +kernel⟩
abbrev s__law_first_wrong : Stmt := topS 43
theorem sc__law_first_wrong : FnScope ["_law_words", "_law_is_first", "_law_sides", "_law_wanted", "_law_k", "_law_goods"] ["_law_words", "_law_is_first"] (defScope s__law_first_wrong) := ⟨rfl, rfl, rfl, by decide +kernel, rfl, by decide +kernel, by decide +kernel⟩
abbrev s__law_read : Stmt := topS 44
theorem sc__law_read : FnScope ["_law_rows_here", "_law_size_here", "_law_left", "_law_folds_here", "_law_k", "_law_words", "_law_wrong", "_law_is_upright", "_law_edge", "_law_many", "_law_way"] ["_law_rows_here"] (defScope s__law_read) := ⟨rfl, rfl, rfl, by decide +kernel, rfl, by decide +kernel, by decide +kernel⟩
abbrev s__law_found : Stmt := topS 45
theorem sc__law_found : FnScope ["_law_text", "_law_wrong", "_law_told", "e", "_law_kinds_here"] ["_law_text"] (defScope s__law_found) := ⟨rfl, rfl, rfl, by decide +kernel, rfl, by decide +kernel, by decide +kernel⟩
abbrev s_law : Stmt := topS 46
theorem sc_law : FnScope ["_law_script", "_law_whole", "_law_scheme_here", "_law_due", "_law_turn", "_law_text", "_law_odd", "_law_rows_here", "_law_columns", "_law_folds_here", "_law_told", "_law_wants", "_law_again", "_law_words", "_law_row"] ["_law_script"] (defScope s_law) := ⟨rfl, rfl, rfl, by decide +kernel, rfl, by decide +kernel, by decide +kernel⟩
structure Txt (K : PySem.W.Frag) (mg : Str → Option Value) where
  f_BadRow___init__ : Addr
  fd_BadRow___init__ : FuncData
  F_BadRow___init__ : Fun K "__init__" "BadRow.__init__" s_BadRow___init__ f_BadRow___init__ fd_BadRow___init__
  b_BadRow___init__ : Binds K fd_BadRow___init__ ["self", "row", "word"] []
  f_BadScheme___init__ : Addr
  fd_BadScheme___init__ : FuncData
  F_BadScheme___init__ : Fun K "__init__" "BadScheme.__init__" s_BadScheme___init__ f_BadScheme___init__ fd_BadScheme___init__
  b_BadScheme___init__ : Binds K fd_BadScheme___init__ ["self", "at"] []
  f_is_whole : Addr
  fd_is_whole : FuncData
  F_is_whole : Fun K "is_whole" "is_whole" s_is_whole f_is_whole fd_is_whole
  b_is_whole : Binds K fd_is_whole ["thing"] []
  g_is_whole : mg "is_whole" = some (.ref f_is_whole)
  f_is_among : Addr
  fd_is_among : FuncData
  F_is_among : Fun K "is_among" "is_among" s_is_among f_is_among fd_is_among
  b_is_among : Binds K fd_is_among ["thing", "least", "most"] []
  g_is_among : mg "is_among" = some (.ref f_is_among)
  f_is_word_of : Addr
  fd_is_word_of : FuncData
  F_is_word_of : Fun K "is_word_of" "is_word_of" s_is_word_of f_is_word_of fd_is_word_of
  b_is_word_of : Binds K fd_is_word_of ["thing", "words"] []
  g_is_word_of : mg "is_word_of" = some (.ref f_is_word_of)
  f_words_of : Addr
  fd_words_of : FuncData
  F_words_of : Fun K "words_of" "words_of" s_words_of f_words_of fd_words_of
  b_words_of : Binds K fd_words_of ["row"] []
  g_words_of : mg "words_of" = some (.ref f_words_of)
  f_Scheme___init__ : Addr
  fd_Scheme___init__ : FuncData
  F_Scheme___init__ : Fun K "__init__" "Scheme.__init__" s_Scheme___init__ f_Scheme___init__ fd_Scheme___init__
  b_Scheme___init__ : Binds K fd_Scheme___init__ ["self", "rows", "columns", "folds"] []
  f_Scheme_told : Addr
  fd_Scheme_told : FuncData
  F_Scheme_told : Fun K "told" "Scheme.told" s_Scheme_told f_Scheme_told fd_Scheme_told
  b_Scheme_told : Binds K fd_Scheme_told ["self"] []
  f_is_size : Addr
  fd_is_size : FuncData
  F_is_size : Fun K "is_size" "is_size" s_is_size f_is_size fd_is_size
  b_is_size : Binds K fd_is_size ["rows", "columns"] []
  g_is_size : mg "is_size" = some (.ref f_is_size)
  f_first_wrong_fold : Addr
  fd_first_wrong_fold : FuncData
  F_first_wrong_fold : Fun K "first_wrong_fold" "first_wrong_fold" s_first_wrong_fold f_first_wrong_fold fd_first_wrong_fold
  b_first_wrong_fold : Binds K fd_first_wrong_fold ["rows", "columns", "folds"] []
  g_first_wrong_fold : mg "first_wrong_fold" = some (.ref f_first_wrong_fold)
  f_size_after : Addr
  fd_size_after : FuncData
  F_size_after : Fun K "size_after" "size_after" s_size_after f_size_after fd_size_after
  b_size_after : Binds K fd_size_after ["rows", "columns", "fold"] []
  g_size_after : mg "size_after" = some (.ref f_size_after)
  f__is_fold : Addr
  fd__is_fold : FuncData
  F__is_fold : Fun K "_is_fold" "_is_fold" s__is_fold f__is_fold fd__is_fold
  b__is_fold : Binds K fd__is_fold ["fold"] []
  g__is_fold : mg "_is_fold" = some (.ref f__is_fold)
  f_rows_of : Addr
  fd_rows_of : FuncData
  F_rows_of : Fun K "rows_of" "rows_of" s_rows_of f_rows_of fd_rows_of
  b_rows_of : Binds K fd_rows_of ["text"] []
  g_rows_of : mg "rows_of" = some (.ref f_rows_of)
  f_words_at : Addr
  fd_words_at : FuncData
  F_words_at : Fun K "words_at" "words_at" s_words_at f_words_at fd_words_at
  b_words_at : Binds K fd_words_at ["row", "at"] []
  g_words_at : mg "words_at" = some (.ref f_words_at)
  f_words_among : Addr
  fd_words_among : FuncData
  F_words_among : Fun K "words_among" "words_among" s_words_among f_words_among fd_words_among
  b_words_among : Binds K fd_words_among ["words", "at", "choices"] []
  g_words_among : mg "words_among" = some (.ref f_words_among)
  f_scheme_rows : Addr
  fd_scheme_rows : FuncData
  F_scheme_rows : Fun K "scheme_rows" "scheme_rows" s_scheme_rows f_scheme_rows fd_scheme_rows
  b_scheme_rows : Binds K fd_scheme_rows ["scheme"] []
  g_scheme_rows : mg "scheme_rows" = some (.ref f_scheme_rows)
  f_scheme_text : Addr
  fd_scheme_text : FuncData
  F_scheme_text : Fun K "scheme_text" "scheme_text" s_scheme_text f_scheme_text fd_scheme_text
  b_scheme_text : Binds K fd_scheme_text ["scheme"] []
  g_scheme_text : mg "scheme_text" = some (.ref f_scheme_text)
  f_read_scheme : Addr
  fd_read_scheme : FuncData
  F_read_scheme : Fun K "read_scheme" "read_scheme" s_read_scheme f_read_scheme fd_read_scheme
  b_read_scheme : Binds K fd_read_scheme ["text"] []
  g_read_scheme : mg "read_scheme" = some (.ref f_read_scheme)
  f_read_size : Addr
  fd_read_size : FuncData
  F_read_size : Fun K "read_size" "read_size" s_read_size f_read_size fd_read_size
  b_read_size : Binds K fd_read_size ["words", "at"] []
  g_read_size : mg "read_size" = some (.ref f_read_size)
  f_read_fold : Addr
  fd_read_fold : FuncData
  F_read_fold : Fun K "read_fold" "read_fold" s_read_fold f_read_fold fd_read_fold
  b_read_fold : Binds K fd_read_fold ["words", "at"] []
  g_read_fold : mg "read_fold" = some (.ref f_read_fold)
  f__law_mixed : Addr
  fd__law_mixed : FuncData
  F__law_mixed : Fun K "_law_mixed" "_law_mixed" s__law_mixed f__law_mixed fd__law_mixed
  b__law_mixed : Binds K fd__law_mixed ["_law_cell", "_law_k"] []
  g__law_mixed : mg "_law_mixed" = some (.ref f__law_mixed)
  f__law_kinds : Addr
  fd__law_kinds : FuncData
  F__law_kinds : Fun K "_law_kinds" "_law_kinds" s__law_kinds f__law_kinds fd__law_kinds
  b__law_kinds : Binds K fd__law_kinds ["_law_error"] []
  g__law_kinds : mg "_law_kinds" = some (.ref f__law_kinds)
  f__law_size : Addr
  fd__law_size : FuncData
  F__law_size : Fun K "_law_size" "_law_size" s__law_size f__law_size fd__law_size
  b__law_size : Binds K fd__law_size ["_law_number"] []
  g__law_size : mg "_law_size" = some (.ref f__law_size)
  f__law_folds : Addr
  fd__law_folds : FuncData
  F__law_folds : Fun K "_law_folds" "_law_folds" s__law_folds f__law_folds fd__law_folds
  b__law_folds : Binds K fd__law_folds ["_law_rows_here", "_law_columns", "_law_cells", "_law_number"] []
  g__law_folds : mg "_law_folds" = some (.ref f__law_folds)
  f__law_scheme : Addr
  fd__law_scheme : FuncData
  F__law_scheme : Fun K "_law_scheme" "_law_scheme" s__law_scheme f__law_scheme fd__law_scheme
  b__law_scheme : Binds K fd__law_scheme ["_law_script", "_law_k"] []
  g__law_scheme : mg "_law_scheme" = some (.ref f__law_scheme)
  f__law_rows : Addr
  fd__law_rows : FuncData
  F__law_rows : Fun K "_law_rows" "_law_rows" s__law_rows f__law_rows fd__law_rows
  b__law_rows : Binds K fd__law_rows ["_law_rows_here", "_law_columns", "_law_folds_here"] []
  g__law_rows : mg "_law_rows" = some (.ref f__law_rows)
  f__law_bent : Addr
  fd__law_bent : FuncData
  F__law_bent : Fun K "_law_bent" "_law_bent" s__law_bent f__law_bent fd__law_bent
  b__law_bent : Binds K fd__law_bent ["_law_rows_here", "_law_number"] []
  g__law_bent : mg "_law_bent" = some (.ref f__law_bent)
  f__law_first_wrong : Addr
  fd__law_first_wrong : FuncData
  F__law_first_wrong : Fun K "_law_first_wrong" "_law_first_wrong" s__law_first_wrong f__law_first_wrong fd__law_first_wrong
  b__law_first_wrong : Binds K fd__law_first_wrong ["_law_words", "_law_is_first"] []
  g__law_first_wrong : mg "_law_first_wrong" = some (.ref f__law_first_wrong)
  f__law_read : Addr
  fd__law_read : FuncData
  F__law_read : Fun K "_law_read" "_law_read" s__law_read f__law_read fd__law_read
  b__law_read : Binds K fd__law_read ["_law_rows_here"] []
  g__law_read : mg "_law_read" = some (.ref f__law_read)
  f__law_found : Addr
  fd__law_found : FuncData
  F__law_found : Fun K "_law_found" "_law_found" s__law_found f__law_found fd__law_found
  b__law_found : Binds K fd__law_found ["_law_text"] []
  g__law_found : mg "_law_found" = some (.ref f__law_found)
  f_law : Addr
  fd_law : FuncData
  F_law : Fun K "law" "law" s_law f_law fd_law
  b_law : Binds K fd_law ["_law_script"] []
  g_law : mg "law" = some (.ref f_law)
  A_PressError : Addr
  m_PressError : mg "PressError" = some (.ref A_PressError)
  xs_PressError : PySem.W.subIn K (.ref A_PressError) (.type "BaseException") = some true
  xt_PressError : PySem.W.typeIn K (.ref A_PressError) = some (.type "type")
  xh_PressError : PySem.W.hasDictIn K A_PressError = true
  ba_PressError : BasC K A_PressError
  A_BadRow : Addr
  m_BadRow : mg "BadRow" = some (.ref A_BadRow)
  xs_BadRow : PySem.W.subIn K (.ref A_BadRow) (.type "BaseException") = some true
  xt_BadRow : PySem.W.typeIn K (.ref A_BadRow) = some (.type "type")
  xh_BadRow : PySem.W.hasDictIn K A_BadRow = true
  k_BadRow : PySem.W.keepIn K (.ref A_BadRow) = true
  ec_BadRow : ExcC K A_BadRow
  xf_BadRow : XfC K A_BadRow
  ex_BadRow_PressError : PySem.W.exmOne K (.ref A_BadRow) (.ref A_PressError) = some true
  ox_BadRow : OexC K A_BadRow
  in_BadRow : PySem.W.findIn K (.ref A_BadRow) "__init__" = some (some (.ref f_BadRow___init__))
  ft_BadRow___init__ : PySem.W.typeIn K (.ref f_BadRow___init__) = some (.type "function")
  nf_BadRow_row : PySem.W.findIn K (.ref A_BadRow) "row" = some none
  nf_BadRow_word : PySem.W.findIn K (.ref A_BadRow) "word" = some none
  A_BadScheme : Addr
  m_BadScheme : mg "BadScheme" = some (.ref A_BadScheme)
  xs_BadScheme : PySem.W.subIn K (.ref A_BadScheme) (.type "BaseException") = some true
  xt_BadScheme : PySem.W.typeIn K (.ref A_BadScheme) = some (.type "type")
  xh_BadScheme : PySem.W.hasDictIn K A_BadScheme = true
  k_BadScheme : PySem.W.keepIn K (.ref A_BadScheme) = true
  ec_BadScheme : ExcC K A_BadScheme
  xf_BadScheme : XfC K A_BadScheme
  ex_BadScheme_PressError : PySem.W.exmOne K (.ref A_BadScheme) (.ref A_PressError) = some true
  ox_BadScheme : OexC K A_BadScheme
  in_BadScheme : PySem.W.findIn K (.ref A_BadScheme) "__init__" = some (some (.ref f_BadScheme___init__))
  ft_BadScheme___init__ : PySem.W.typeIn K (.ref f_BadScheme___init__) = some (.type "function")
  nf_BadScheme_at : PySem.W.findIn K (.ref A_BadScheme) "at" = some none
  A_BadSheet : Addr
  m_BadSheet : mg "BadSheet" = some (.ref A_BadSheet)
  xs_BadSheet : PySem.W.subIn K (.ref A_BadSheet) (.type "BaseException") = some true
  xt_BadSheet : PySem.W.typeIn K (.ref A_BadSheet) = some (.type "type")
  xh_BadSheet : PySem.W.hasDictIn K A_BadSheet = true
  k_BadSheet : PySem.W.keepIn K (.ref A_BadSheet) = true
  ec_BadSheet : ExcC K A_BadSheet
  xf_BadSheet : XfC K A_BadSheet
  ex_BadSheet_PressError : PySem.W.exmOne K (.ref A_BadSheet) (.ref A_PressError) = some true
  q_BadSheet : PySem.W.excIn K A_BadSheet [.type "ValueError", .type "Exception", .type "BaseException", .type "object"] "ValueError.__new__" = true
  A_BadBook : Addr
  m_BadBook : mg "BadBook" = some (.ref A_BadBook)
  xs_BadBook : PySem.W.subIn K (.ref A_BadBook) (.type "BaseException") = some true
  xt_BadBook : PySem.W.typeIn K (.ref A_BadBook) = some (.type "type")
  xh_BadBook : PySem.W.hasDictIn K A_BadBook = true
  k_BadBook : PySem.W.keepIn K (.ref A_BadBook) = true
  ec_BadBook : ExcC K A_BadBook
  xf_BadBook : XfC K A_BadBook
  ex_BadBook_PressError : PySem.W.exmOne K (.ref A_BadBook) (.ref A_PressError) = some true
  q_BadBook : PySem.W.excIn K A_BadBook [.type "ValueError", .type "Exception", .type "BaseException", .type "object"] "ValueError.__new__" = true
  A_TooGreat : Addr
  m_TooGreat : mg "TooGreat" = some (.ref A_TooGreat)
  xs_TooGreat : PySem.W.subIn K (.ref A_TooGreat) (.type "BaseException") = some true
  xt_TooGreat : PySem.W.typeIn K (.ref A_TooGreat) = some (.type "type")
  xh_TooGreat : PySem.W.hasDictIn K A_TooGreat = true
  k_TooGreat : PySem.W.keepIn K (.ref A_TooGreat) = true
  ec_TooGreat : ExcC K A_TooGreat
  xf_TooGreat : XfC K A_TooGreat
  ex_TooGreat_PressError : PySem.W.exmOne K (.ref A_TooGreat) (.ref A_PressError) = some true
  q_TooGreat : PySem.W.excIn K A_TooGreat [.type "ValueError", .type "Exception", .type "BaseException", .type "object"] "ValueError.__new__" = true
  A_OutOfPlace : Addr
  m_OutOfPlace : mg "OutOfPlace" = some (.ref A_OutOfPlace)
  xs_OutOfPlace : PySem.W.subIn K (.ref A_OutOfPlace) (.type "BaseException") = some true
  xt_OutOfPlace : PySem.W.typeIn K (.ref A_OutOfPlace) = some (.type "type")
  xh_OutOfPlace : PySem.W.hasDictIn K A_OutOfPlace = true
  k_OutOfPlace : PySem.W.keepIn K (.ref A_OutOfPlace) = true
  ec_OutOfPlace : ExcC K A_OutOfPlace
  xf_OutOfPlace : XfC K A_OutOfPlace
  ex_OutOfPlace_PressError : PySem.W.exmOne K (.ref A_OutOfPlace) (.ref A_PressError) = some true
  q_OutOfPlace : PySem.W.excIn K A_OutOfPlace [.type "ValueError", .type "Exception", .type "BaseException", .type "object"] "ValueError.__new__" = true
  A_Scheme : Addr
  m_Scheme : mg "Scheme" = some (.ref A_Scheme)
  cl_Scheme : Cls K A_Scheme
  na_Scheme__rows : NoAttr K A_Scheme "_rows"
  na_Scheme__columns : NoAttr K A_Scheme "_columns"
  na_Scheme__folds : NoAttr K A_Scheme "_folds"
  mk_Scheme : Mk K A_Scheme f_Scheme___init__
  me_Scheme_told : Meth K A_Scheme "told" f_Scheme_told
  ki_BadRow_BadRow : PySem.W.kitOne K (.ref A_BadRow) (.ref A_BadRow) = some true
  ki_BadRow_BadScheme : PySem.W.kitOne K (.ref A_BadRow) (.ref A_BadScheme) = some false
  ki_BadRow_BadSheet : PySem.W.kitOne K (.ref A_BadRow) (.ref A_BadSheet) = some false
  ki_BadRow_BadBook : PySem.W.kitOne K (.ref A_BadRow) (.ref A_BadBook) = some false
  ki_BadRow_TooGreat : PySem.W.kitOne K (.ref A_BadRow) (.ref A_TooGreat) = some false
  ki_BadRow_OutOfPlace : PySem.W.kitOne K (.ref A_BadRow) (.ref A_OutOfPlace) = some false
  ki_BadRow_ValueError : PySem.W.kitOne K (.ref A_BadRow) (.type "ValueError") = some true
  ki_BadRow_PressError : PySem.W.kitOne K (.ref A_BadRow) (.ref A_PressError) = some true
  ki_BadScheme_BadRow : PySem.W.kitOne K (.ref A_BadScheme) (.ref A_BadRow) = some false
  ki_BadScheme_BadScheme : PySem.W.kitOne K (.ref A_BadScheme) (.ref A_BadScheme) = some true
  ki_BadScheme_BadSheet : PySem.W.kitOne K (.ref A_BadScheme) (.ref A_BadSheet) = some false
  ki_BadScheme_BadBook : PySem.W.kitOne K (.ref A_BadScheme) (.ref A_BadBook) = some false
  ki_BadScheme_TooGreat : PySem.W.kitOne K (.ref A_BadScheme) (.ref A_TooGreat) = some false
  ki_BadScheme_OutOfPlace : PySem.W.kitOne K (.ref A_BadScheme) (.ref A_OutOfPlace) = some false
  ki_BadScheme_ValueError : PySem.W.kitOne K (.ref A_BadScheme) (.type "ValueError") = some true
  ki_BadScheme_PressError : PySem.W.kitOne K (.ref A_BadScheme) (.ref A_PressError) = some true
  ki_BadSheet_BadRow : PySem.W.kitOne K (.ref A_BadSheet) (.ref A_BadRow) = some false
  ki_BadSheet_BadScheme : PySem.W.kitOne K (.ref A_BadSheet) (.ref A_BadScheme) = some false
  ki_BadSheet_BadSheet : PySem.W.kitOne K (.ref A_BadSheet) (.ref A_BadSheet) = some true
  ki_BadSheet_BadBook : PySem.W.kitOne K (.ref A_BadSheet) (.ref A_BadBook) = some false
  ki_BadSheet_TooGreat : PySem.W.kitOne K (.ref A_BadSheet) (.ref A_TooGreat) = some false
  ki_BadSheet_OutOfPlace : PySem.W.kitOne K (.ref A_BadSheet) (.ref A_OutOfPlace) = some false
  ki_BadSheet_ValueError : PySem.W.kitOne K (.ref A_BadSheet) (.type "ValueError") = some true
  ki_BadSheet_PressError : PySem.W.kitOne K (.ref A_BadSheet) (.ref A_PressError) = some true
  ki_BadBook_BadRow : PySem.W.kitOne K (.ref A_BadBook) (.ref A_BadRow) = some false
  ki_BadBook_BadScheme : PySem.W.kitOne K (.ref A_BadBook) (.ref A_BadScheme) = some false
  ki_BadBook_BadSheet : PySem.W.kitOne K (.ref A_BadBook) (.ref A_BadSheet) = some false
  ki_BadBook_BadBook : PySem.W.kitOne K (.ref A_BadBook) (.ref A_BadBook) = some true
  ki_BadBook_TooGreat : PySem.W.kitOne K (.ref A_BadBook) (.ref A_TooGreat) = some false
  ki_BadBook_OutOfPlace : PySem.W.kitOne K (.ref A_BadBook) (.ref A_OutOfPlace) = some false
  ki_BadBook_ValueError : PySem.W.kitOne K (.ref A_BadBook) (.type "ValueError") = some true
  ki_BadBook_PressError : PySem.W.kitOne K (.ref A_BadBook) (.ref A_PressError) = some true
  ki_TooGreat_BadRow : PySem.W.kitOne K (.ref A_TooGreat) (.ref A_BadRow) = some false
  ki_TooGreat_BadScheme : PySem.W.kitOne K (.ref A_TooGreat) (.ref A_BadScheme) = some false
  ki_TooGreat_BadSheet : PySem.W.kitOne K (.ref A_TooGreat) (.ref A_BadSheet) = some false
  ki_TooGreat_BadBook : PySem.W.kitOne K (.ref A_TooGreat) (.ref A_BadBook) = some false
  ki_TooGreat_TooGreat : PySem.W.kitOne K (.ref A_TooGreat) (.ref A_TooGreat) = some true
  ki_TooGreat_OutOfPlace : PySem.W.kitOne K (.ref A_TooGreat) (.ref A_OutOfPlace) = some false
  ki_TooGreat_ValueError : PySem.W.kitOne K (.ref A_TooGreat) (.type "ValueError") = some true
  ki_TooGreat_PressError : PySem.W.kitOne K (.ref A_TooGreat) (.ref A_PressError) = some true
  ki_OutOfPlace_BadRow : PySem.W.kitOne K (.ref A_OutOfPlace) (.ref A_BadRow) = some false
  ki_OutOfPlace_BadScheme : PySem.W.kitOne K (.ref A_OutOfPlace) (.ref A_BadScheme) = some false
  ki_OutOfPlace_BadSheet : PySem.W.kitOne K (.ref A_OutOfPlace) (.ref A_BadSheet) = some false
  ki_OutOfPlace_BadBook : PySem.W.kitOne K (.ref A_OutOfPlace) (.ref A_BadBook) = some false
  ki_OutOfPlace_TooGreat : PySem.W.kitOne K (.ref A_OutOfPlace) (.ref A_TooGreat) = some false
  ki_OutOfPlace_OutOfPlace : PySem.W.kitOne K (.ref A_OutOfPlace) (.ref A_OutOfPlace) = some true
  ki_OutOfPlace_ValueError : PySem.W.kitOne K (.ref A_OutOfPlace) (.type "ValueError") = some true
  ki_OutOfPlace_PressError : PySem.W.kitOne K (.ref A_OutOfPlace) (.ref A_PressError) = some true
  z_ValueError : mg "ValueError" = none
  z_bool : mg "bool" = none
  z_enumerate : mg "enumerate" = none
  z_int : mg "int" = none
  z_isinstance : mg "isinstance" = none
  z_len : mg "len" = none
  z_list : mg "list" = none
  z_min : mg "min" = none
  z_range : mg "range" = none
  z_str : mg "str" = none
  z_sum : mg "sum" = none
  z_tuple : mg "tuple" = none
  a_EDGES : Addr
  c_EDGES : mg "EDGES" = some (.ref a_EDGES)
  k_EDGES : KT K a_EDGES [.str "left", .str "right", .str "top", .str "bottom"]
  a_FIGURES : Addr
  c_FIGURES : mg "FIGURES" = some (.ref a_FIGURES)
  k_FIGURES : KT K a_FIGURES [.str "1", .str "2", .str "3", .str "4", .str "5", .str "6", .str "7", .str "8"]
  a_LEVEL_EDGES : Addr
  c_LEVEL_EDGES : mg "LEVEL_EDGES" = some (.ref a_LEVEL_EDGES)
  k_LEVEL_EDGES : KT K a_LEVEL_EDGES [.str "top", .str "bottom"]
  t_MOST_CELLS : Tok
  c_MOST_CELLS : mg "MOST_CELLS" = some (.int 32 t_MOST_CELLS)
  t_MOST_LINES : Tok
  c_MOST_LINES : mg "MOST_LINES" = some (.int 8 t_MOST_LINES)
  a_WAYS : Addr
  c_WAYS : mg "WAYS" = some (.ref a_WAYS)
  k_WAYS : KT K a_WAYS [.str "over", .str "under"]
section
variable {K : PySem.W.Frag} {mg : Str → Option Value} (T : Txt K mg)
def Txt.A : Nat → Addr
  | 1 => T.A_PressError
  | 2 => T.A_BadRow
  | 3 => T.A_BadScheme
  | 4 => T.A_BadSheet
  | 5 => T.A_BadBook
  | 6 => T.A_TooGreat
  | 7 => T.A_OutOfPlace
  | 8 => T.A_Scheme
  | _ => T.A_PressError
theorem Txt.fo_BadRow_row : FldOk K T.A "row" noC (isC 2) := ⟨(fun c h => nomatch h), (fun c h => by rw [isC_eq h]; exact ⟨T.xf_BadRow, T.nf_BadRow_row⟩)⟩
theorem Txt.fo_BadRow_word : FldOk K T.A "word" noC (isC 2) := ⟨(fun c h => nomatch h), (fun c h => by rw [isC_eq h]; exact ⟨T.xf_BadRow, T.nf_BadRow_word⟩)⟩
theorem Txt.fo_BadScheme_at : FldOk K T.A "at" noC (isC 3) := ⟨(fun c h => nomatch h), (fun c h => by rw [isC_eq h]; exact ⟨T.xf_BadScheme, T.nf_BadScheme_at⟩)⟩
theorem Txt.fo_Scheme__columns : FldOk K T.A "_columns" (isC 8) noC := ⟨(fun c h => by rw [isC_eq h]; exact ⟨T.cl_Scheme, T.na_Scheme__columns⟩), (fun c h => nomatch h)⟩
theorem Txt.fo_Scheme__folds : FldOk K T.A "_folds" (isC 8) noC := ⟨(fun c h => by rw [isC_eq h]; exact ⟨T.cl_Scheme, T.na_Scheme__folds⟩), (fun c h => nomatch h)⟩
theorem Txt.fo_Scheme__rows : FldOk K T.A "_rows" (isC 8) noC := ⟨(fun c h => by rw [isC_eq h]; exact ⟨T.cl_Scheme, T.na_Scheme__rows⟩), (fun c h => nomatch h)⟩
theorem Txt.isy : IsyOk K T.A isT isV := .mk (fun c d b h => by
    unfold isT at h
    split at h
    · cases h; exact ⟨T.ec_BadRow, T.ki_BadRow_BadRow⟩
    · cases h; exact ⟨T.ec_BadRow, T.ki_BadRow_BadScheme⟩
    · cases h; exact ⟨T.ec_BadRow, T.ki_BadRow_BadSheet⟩
    · cases h; exact ⟨T.ec_BadRow, T.ki_BadRow_BadBook⟩
    · cases h; exact ⟨T.ec_BadRow, T.ki_BadRow_TooGreat⟩
    · cases h; exact ⟨T.ec_BadRow, T.ki_BadRow_OutOfPlace⟩
    · cases h; exact ⟨T.ec_BadRow, T.ki_BadRow_PressError⟩
    · cases h; exact ⟨T.ec_BadScheme, T.ki_BadScheme_BadRow⟩
    · cases h; exact ⟨T.ec_BadScheme, T.ki_BadScheme_BadScheme⟩
    · cases h; exact ⟨T.ec_BadScheme, T.ki_BadScheme_BadSheet⟩
    · cases h; exact ⟨T.ec_BadScheme, T.ki_BadScheme_BadBook⟩
    · cases h; exact ⟨T.ec_BadScheme, T.ki_BadScheme_TooGreat⟩
    · cases h; exact ⟨T.ec_BadScheme, T.ki_BadScheme_OutOfPlace⟩
    · cases h; exact ⟨T.ec_BadScheme, T.ki_BadScheme_PressError⟩
    · cases h; exact ⟨T.ec_BadSheet, T.ki_BadSheet_BadRow⟩
    · cases h; exact ⟨T.ec_BadSheet, T.ki_BadSheet_BadScheme⟩
    · cases h; exact ⟨T.ec_BadSheet, T.ki_BadSheet_BadSheet⟩
    · cases h; exact ⟨T.ec_BadSheet, T.ki_BadSheet_BadBook⟩
    · cases h; exact ⟨T.ec_BadSheet, T.ki_BadSheet_TooGreat⟩
    · cases h; exact ⟨T.ec_BadSheet, T.ki_BadSheet_OutOfPlace⟩
    · cases h; exact ⟨T.ec_BadSheet, T.ki_BadSheet_PressError⟩
    · cases h; exact ⟨T.ec_BadBook, T.ki_BadBook_BadRow⟩
    · cases h; exact ⟨T.ec_BadBook, T.ki_BadBook_BadScheme⟩
    · cases h; exact ⟨T.ec_BadBook, T.ki_BadBook_BadSheet⟩
    · cases h; exact ⟨T.ec_BadBook, T.ki_BadBook_BadBook⟩
    · cases h; exact ⟨T.ec_BadBook, T.ki_BadBook_TooGreat⟩
    · cases h; exact ⟨T.ec_BadBook, T.ki_BadBook_OutOfPlace⟩
    · cases h; exact ⟨T.ec_BadBook, T.ki_BadBook_PressError⟩
    · cases h; exact ⟨T.ec_TooGreat, T.ki_TooGreat_BadRow⟩
    · cases h; exact ⟨T.ec_TooGreat, T.ki_TooGreat_BadScheme⟩
    · cases h; exact ⟨T.ec_TooGreat, T.ki_TooGreat_BadSheet⟩
    · cases h; exact ⟨T.ec_TooGreat, T.ki_TooGreat_BadBook⟩
    · cases h; exact ⟨T.ec_TooGreat, T.ki_TooGreat_TooGreat⟩
    · cases h; exact ⟨T.ec_TooGreat, T.ki_TooGreat_OutOfPlace⟩
    · cases h; exact ⟨T.ec_TooGreat, T.ki_TooGreat_PressError⟩
    · cases h; exact ⟨T.ec_OutOfPlace, T.ki_OutOfPlace_BadRow⟩
    · cases h; exact ⟨T.ec_OutOfPlace, T.ki_OutOfPlace_BadScheme⟩
    · cases h; exact ⟨T.ec_OutOfPlace, T.ki_OutOfPlace_BadSheet⟩
    · cases h; exact ⟨T.ec_OutOfPlace, T.ki_OutOfPlace_BadBook⟩
    · cases h; exact ⟨T.ec_OutOfPlace, T.ki_OutOfPlace_TooGreat⟩
    · cases h; exact ⟨T.ec_OutOfPlace, T.ki_OutOfPlace_OutOfPlace⟩
    · cases h; exact ⟨T.ec_OutOfPlace, T.ki_OutOfPlace_PressError⟩
    · cases h) (fun c b h => by
    unfold isV at h
    split at h
    · cases h; exact ⟨T.ec_BadRow, T.ki_BadRow_ValueError⟩
    · cases h; exact ⟨T.ec_BadScheme, T.ki_BadScheme_ValueError⟩
    · cases h; exact ⟨T.ec_BadSheet, T.ki_BadSheet_ValueError⟩
    · cases h; exact ⟨T.ec_BadBook, T.ki_BadBook_ValueError⟩
    · cases h; exact ⟨T.ec_TooGreat, T.ki_TooGreat_ValueError⟩
    · cases h; exact ⟨T.ec_OutOfPlace, T.ki_OutOfPlace_ValueError⟩
    · cases h)
theorem Txt.catch_PressError : ∀ c, catch_PressError c = true → PySem.W.exmOne K (.ref (T.A c)) (.ref T.A_PressError) = some true := fun c h => by
  unfold Q03.catch_PressError at h
  simp only [Bool.or_eq_true, beq_iff_eq] at h
  rcases h with (((((rfl | rfl) | rfl) | rfl) | rfl) | rfl)
  · exact T.ex_BadRow_PressError
  · exact T.ex_BadScheme_PressError
  · exact T.ex_BadSheet_PressError
  · exact T.ex_BadBook_PressError
  · exact T.ex_TooGreat_PressError
  · exact T.ex_OutOfPlace_PressError
end
end Q03

section
open PySem PySem.Spec PyProof.Rows L2 FP
local macro_rules | `(tactic| walk_at "fg") => `(tactic| (intro j hj; rcases j with _ | j <;> first | rfl | (exact absurd (by decide) hj) | (rcases j with _ | j <;> first | rfl | (exact absurd (by decide) hj) | (rcases j with _ | j <;> first | rfl | (exact absurd (by decide) hj) | (rcases j with _ | j <;> first | rfl | (exact absurd (by decide) hj) | (rcases j with _ | j <;> first | rfl | (exact absurd (by decide) hj) | (rcases j with _ | j <;> first | rfl | (exact absurd (by decide) hj) | (rcases j with _ | j <;> first | rfl | (exact absurd (by decide) hj) | (rcases j with _ | j <;> first | rfl | (exact absurd (by decide) hj) | (rcases j with _ | j <;> first | rfl | (exact absurd (by decide) hj) | (rcases j with _ | j <;> first | rfl | (exact absurd (by decide) hj) | (rcases j with _ | j <;> first | rfl | (exact absurd (by decide) hj) | (rcases j with _ | j <;> first | rfl | (exact absurd (by decide) hj) | (rcases j with _ | j <;> first | rfl | (exact absurd (by decide) hj) | (rcases j with _ | j <;> first | rfl | (exact absurd (by decide) hj) | (rcases j with _ | j <;> first | rfl | (exact absurd (by decide) hj)))))))))))))))))

namespace Q03
open PySem PySem.Spec PyProof.Rows L2 FP PX
section
variable {P : Program} {w : World} {K : PySem.W.Frag} {mg : Str → Option Value} {base : Heap}
set_option maxHeartbeats 4000000 in
theorem ok__law_kinds (T : Txt K mg) : FnOk P w K mg base (L2.CX P w) 1 T.f__law_kinds T.fd__law_kinds ["_law_error"] (spX K (rX T.A X__law_kinds (W.s) 1)) := by
  refine ok_ofX (N := ["_law_error", "_law_kinds_here", "_law_name", "_law_fits"]) T.F__law_kinds sc__law_kinds rX_len fun cdv A outer s H E hr => ⟨_, (pss_cons (ps_set (i := 1) sc__law_kinds.nd rfl (by first | exact Or.inl rfl | exact Or.inr rfl) (pe_lst (pa_cons (pe_tup (pa_cons pe_str (pa_cons (pe_callB (call_isyK (K := K) rfl) (by rfl) T.z_isinstance (by decide +kernel) (pa_cons (pv 0) (pa_cons (pe_glob (v := .ref T.A_BadRow) (by rfl) T.m_BadRow rfl) pa_nil))) pa_nil))) (pa_cons (pe_tup (pa_cons pe_str (pa_cons (pe_callB (call_isyK (K := K) rfl) (by rfl) T.z_isinstance (by decide +kernel) (pa_cons (pv 0) (pa_cons (pe_glob (v := .ref T.A_BadScheme) (by rfl) T.m_BadScheme rfl) pa_nil))) pa_nil))) pa_nil))))
      (pss_cons (ps_set (i := 1) sc__law_kinds.nd rfl (by first | exact Or.inl rfl | exact Or.inr rfl) (pe_op (op_plusK (K := K) rfl) (pv 1) (pe_lst (pa_cons (pe_tup (pa_cons pe_str (pa_cons (pe_callB (call_isyK (K := K) rfl) (by rfl) T.z_isinstance (by decide +kernel) (pa_cons (pv 0) (pa_cons (pe_glob (v := .ref T.A_BadSheet) (by rfl) T.m_BadSheet rfl) pa_nil))) pa_nil))) (pa_cons (pe_tup (pa_cons pe_str (pa_cons (pe_callB (call_isyK (K := K) rfl) (by rfl) T.z_isinstance (by decide +kernel) (pa_cons (pv 0) (pa_cons (pe_glob (v := .ref T.A_BadBook) (by rfl) T.m_BadBook rfl) pa_nil))) pa_nil))) pa_nil)))))
      (pss_cons (ps_set (i := 1) sc__law_kinds.nd rfl (by first | exact Or.inl rfl | exact Or.inr rfl) (pe_op (op_plusK (K := K) rfl) (pv 1) (pe_lst (pa_cons (pe_tup (pa_cons pe_str (pa_cons (pe_callB (call_isyK (K := K) rfl) (by rfl) T.z_isinstance (by decide +kernel) (pa_cons (pv 0) (pa_cons (pe_glob (v := .ref T.A_TooGreat) (by rfl) T.m_TooGreat rfl) pa_nil))) pa_nil))) (pa_cons (pe_tup (pa_cons pe_str (pa_cons (pe_callB (call_isyK (K := K) rfl) (by rfl) T.z_isinstance (by decide +kernel) (pa_cons (pv 0) (pa_cons (pe_glob (v := .ref T.A_OutOfPlace) (by rfl) T.m_OutOfPlace rfl) pa_nil))) pa_nil))) pa_nil)))))
      (pss_cons (ps_set (i := 1) sc__law_kinds.nd rfl (by first | exact Or.inl rfl | exact Or.inr rfl) (pe_op (op_plusK (K := K) rfl) (pv 1) (pe_lst (pa_cons (pe_tup (pa_cons pe_str (pa_cons (pe_orTK (K := K) rfl (pe_notTK (K := K) rfl (pe_callB (call_isyK (K := K) rfl) (by rfl) T.z_isinstance (by decide +kernel) (pa_cons (pv 0) (pa_cons (pe_bltn (v := .ty "ValueError") (by rfl) T.z_ValueError (by decide +kernel) rfl) pa_nil)))) (pe_one (pe_notTK (K := K) rfl (pe_callB (call_isyK (K := K) rfl) (by rfl) T.z_isinstance (by decide +kernel) (pa_cons (pv 0) (pa_cons (pe_glob (v := .ref T.A_PressError) (by rfl) T.m_PressError rfl) pa_nil)))))) pa_nil))) pa_nil))))
      (pss_one (ps_ret (pe_lc (own := [("_law_name", 2), ("_law_fits", 3)]) (by rfl) sc__law_kinds.nd (pi_listK (K := K) rfl (pv 1)) (blkOk_by (own := [("_law_name", 2), ("_law_fits", 3)]) (N := ["_law_error", "_law_kinds_here", "_law_name", "_law_fits"]) (sc := defScope s__law_kinds) (by decide +kernel)) (fun _ _ _ _ _ => (pg_tupK (K := K) (n := 2) rfl rfl (pgs_cons (pg_name (i := 2) sc__law_kinds.nd rfl (by first | exact Or.inl rfl | exact Or.inr rfl)) (pgs_cons (pg_name (i := 3) sc__law_kinds.nd rfl (by first | exact Or.inl rfl | exact Or.inr rfl)) pgs_nil)))) (fun _ _ _ _ _ => (pts_one (pt_truthK (K := K) rfl (pv 3) (by intro _; rfl)))) (fun _ _ _ _ _ => (pv 2))))))))), ?_⟩
  (try simp only [cxK])
  have hS : SOk K T.A (fun cls d _ H => E cls d H) (W.s) [] (fun _ => True) _ [.s, .s, .s, .s] [.s, .s, .s, .s] B__law_kinds := (s_seq (s_setK trivial (x_frz (x_lst (w := (.o .s)) rfl (a_cons (x_frz (x_tup (w := (.o .s)) rfl (a_cons x_c (a_cons (x_cb (w1 := .s) (c_isy T.isy) (a_cons (x_v rfl) (a_cons (x_cls (A := T.A) (c := 2)) a_nil))) a_nil)))) (a_cons (x_frz (x_tup (w := (.o .s)) rfl (a_cons x_c (a_cons (x_cb (w1 := .s) (c_isy T.isy) (a_cons (x_v rfl) (a_cons (x_cls (A := T.A) (c := 3)) a_nil))) a_nil)))) a_nil)))) rfl)
  (s_seq (s_setK trivial (x_op o_add (x_v rfl) (x_frz (x_lst (w := (.o .s)) rfl (a_cons (x_frz (x_tup (w := (.o .s)) rfl (a_cons x_c (a_cons (x_cb (w1 := .s) (c_isy T.isy) (a_cons (x_v rfl) (a_cons (x_cls (A := T.A) (c := 4)) a_nil))) a_nil)))) (a_cons (x_frz (x_tup (w := (.o .s)) rfl (a_cons x_c (a_cons (x_cb (w1 := .s) (c_isy T.isy) (a_cons (x_v rfl) (a_cons (x_cls (A := T.A) (c := 5)) a_nil))) a_nil)))) a_nil))))) rfl)
  (s_seq (s_setK trivial (x_op o_add (x_v rfl) (x_frz (x_lst (w := (.o .s)) rfl (a_cons (x_frz (x_tup (w := (.o .s)) rfl (a_cons x_c (a_cons (x_cb (w1 := .s) (c_isy T.isy) (a_cons (x_v rfl) (a_cons (x_cls (A := T.A) (c := 6)) a_nil))) a_nil)))) (a_cons (x_frz (x_tup (w := (.o .s)) rfl (a_cons x_c (a_cons (x_cb (w1 := .s) (c_isy T.isy) (a_cons (x_v rfl) (a_cons (x_cls (A := T.A) (c := 7)) a_nil))) a_nil)))) a_nil))))) rfl)
  (s_seq (s_setK trivial (x_op o_add (x_v rfl) (x_frz (x_lst (w := (.o .s)) rfl (a_cons (x_frz (x_tup (w := (.o .s)) rfl (a_cons x_c (a_cons (x_or (x_not (w1 := .s) (x_cb (w1 := .s) (c_isy T.isy) (a_cons (x_v rfl) (a_cons x_c a_nil)))) (x_not (w1 := .s) (x_cb (w1 := .s) (c_isy T.isy) (a_cons (x_v rfl) (a_cons (x_cls (A := T.A) (c := 1)) a_nil))))) a_nil)))) a_nil)))) rfl)
  (s_ret trivial (x_frz (x_lc (w := (.o .s)) (c := some _) (i_list (U := (fun cls d _ H => E cls d H)) (x_v rfl)) rfl (fun _ => rfl) (tk_tup rfl (tks_cons (tk_n (fun _ h => by cases h; decide) rfl) (tks_cons (tk_n (fun _ h => by cases h; decide) rfl) tks_nil))) (t_tru (w := .s) (x_v rfl)) (x_v rfl))))))))
  exact run_X hS 4 rfl (fun j hj => match j, hj with | 0, _ => rfl | j + 1, h => absurd h (by omega))
end
end Q03

namespace Q03
open PySem PySem.Spec PyProof.Rows L2 FP PX
section
variable {P : Program} {w : World} {K : PySem.W.Frag} {mg : Str → Option Value} {base : Heap}
set_option maxHeartbeats 4000000 in
theorem ok_Scheme_told (T : Txt K mg) : FnOk P w K mg base (L2.CX P w) 1 T.f_Scheme_told T.fd_Scheme_told ["self"] (spX K (rX T.A X_Scheme_told (.f [.s, .s, (.o .s)]) 1)) := by
  refine ok_ofX (N := ["self"]) T.F_Scheme_told sc_Scheme_told rX_len fun cdv A outer s H E hr => ⟨_, (pss_one (ps_ret (pe_tup (pa_cons (pe_fldA (K := K) rfl (pv 0)) (pa_cons (pe_fldA (K := K) rfl (pv 0)) (pa_cons (pe_callTy (call_listOfK (K := K) rfl) (by rfl) T.z_list (by decide +kernel) (pa_cons (pe_fldA (K := K) rfl (pv 0)) pa_nil)) pa_nil)))))), ?_⟩
  (try simp only [cxK])
  have hS : SOk K T.A (fun cls d _ H => E cls d H) (.f [.s, .s, (.o .s)]) [] (fun _ => True) _ [.s] [.s] B_Scheme_told := (s_ret trivial (x_tup (w := (.f [.s, .s, (.o .s)])) rfl (a_cons (x_fld T.fo_Scheme__rows (x_v rfl)) (a_cons (x_fld T.fo_Scheme__columns (x_v rfl)) (a_cons (x_cb (w1 := .s) (c_list (fun _ => rfl)) (a_cons (x_fld T.fo_Scheme__folds (x_v rfl)) a_nil)) a_nil)))))
  exact run_X hS 1 rfl (fun j hj => match j, hj with | 0, _ => rfl | j + 1, h => absurd h (by omega))
end
end Q03

namespace Q03
open PySem PySem.Spec PyProof.Rows L2 FP PX
section
variable {P : Program} {w : World} {K : PySem.W.Frag} {mg : Str → Option Value} {base : Heap}
set_option maxHeartbeats 4000000 in
theorem ok_BadScheme___init__ (T : Txt K mg) : FnOk P w K mg base CX0 1 T.f_BadScheme___init__ T.fd_BadScheme___init__ ["self", "at"] (spE T.A_BadScheme R_BadScheme) := by
  refine T.F_BadScheme___init__.ok (N := ["self", "at"]) sc_BadScheme___init__ len_BadScheme fun cdv A outer s H vs Q E hr h => ⟨_, (pss_cons (ps_expr (pe_binit (K := K) rfl T.ba_PressError (by rfl) T.m_PressError (pa_cons (pv 0) (pa_cons (pe_joined (PJ.cons pe_str (PJ.cons (pe_fmt (pv 1)) PJ.nil))) pa_nil))))
      (pss_one (ps_ost (pv 0) (pv 1)))), ?_⟩
  (try simp only [cxK])
  obtain ⟨a, ws, fs, rfl, ha, ⟨i, rfl, h0, h1, rfl⟩, k⟩ := h
  have e1 : (Str.empty ++ ("no scheme: refused at " : Str)).length = 22 := by decide +kernel
  have e2 := txt_len h0 h1
  refine ⟨.ref a, rfl, _, rfl, (by rw [e1]; decide), .int i, rfl, .inr ⟨i, rfl, log_sm h0 h1, _, rfl, ?_, ?_⟩⟩
  · rw [str_app_len, e1]
    exact Nat.le_trans (Nat.add_le_add_left e2 22) (by decide)
  refine ⟨a, _, _, rfl, (show 1 ≤ 1000 by decide), T.ox_BadScheme, ha, ?_⟩
  refine ⟨.int i, rfl, .ref a, rfl, a, _, rfl, T.ox_BadScheme, T.nf_BadScheme_at, .inl ⟨ha, fun dx nd ne => k dx _ nd ne (fun b o hb h => ?_) upd_same ?_⟩⟩
  · rw [upd_ne hb, upd_ne fun z => by rw [z, nd] at h; cases h]
    exact h
  · rw [upd_ne ne, upd_same]
end
end Q03

namespace Q03
open PySem PySem.Spec PyProof.Rows L2 FP PX
section
variable {P : Program} {w : World} {K : PySem.W.Frag} {mg : Str → Option Value} {base : Heap}
set_option maxHeartbeats 4000000 in
theorem ok_is_word_of (T : Txt K mg) : FnOk P w K mg base (L2.CX P w) 1 T.f_is_word_of T.fd_is_word_of ["thing", "words"] (spX K (rX T.A X_is_word_of (W.s) 2)) := by
  refine ok_ofX (N := ["thing", "words"]) T.F_is_word_of sc_is_word_of rX_len fun cdv A outer s H E hr => ⟨_, (pss_one (ps_ret (pe_andTK (K := K) rfl (pe_callB (call_isisK (K := K) rfl) (by rfl) T.z_isinstance (by decide +kernel) (pa_cons (pv 0) (pa_cons (pe_bltn (v := .ty "str") (by rfl) T.z_str (by decide +kernel) rfl) pa_nil))) (pe_one (pe_cmpR (op_innK (K := K) rfl) (pv 0) (pv 1) (by with_unfolding_all rfl)))))), ?_⟩
  (try simp only [cxK])
  have hS : SOk K T.A (fun cls d _ H => E cls d H) (W.s) [] (fun _ => True) _ [.s, .s] [.s, .s] B_is_word_of := (s_ret trivial (x_and (x_cb (w1 := .s) c_isi (a_cons (x_v rfl) (a_cons x_c a_nil))) (x_op (w1 := .s) (w2 := .s) o_in (x_v rfl) (x_v rfl))))
  exact run_X hS 2 rfl (fun j hj => match j, hj with | 0, _ => rfl | 1, _ => rfl | j + 2, h => absurd h (by omega))
end
end Q03

namespace Q03
open PySem PySem.Spec PyProof.Rows L2 FP PX
section
variable {P : Program} {w : World} {K : PySem.W.Frag} {mg : Str → Option Value} {base : Heap}
set_option maxHeartbeats 4000000 in
theorem ok_is_whole (T : Txt K mg) : FnOk P w K mg base (L2.CX P w) 1 T.f_is_whole T.fd_is_whole ["thing"] (spX K (rX T.A X_is_whole (W.s) 1)) := by
  refine ok_ofX (N := ["thing"]) T.F_is_whole sc_is_whole rX_len fun cdv A outer s H E hr => ⟨_, (pss_one (ps_ret (pe_andTK (K := K) rfl (pe_callB (call_isisK (K := K) rfl) (by rfl) T.z_isinstance (by decide +kernel) (pa_cons (pv 0) (pa_cons (pe_bltn (v := .ty "int") (by rfl) T.z_int (by decide +kernel) rfl) pa_nil))) (pe_one (pe_notTK (K := K) rfl (pe_callB (call_isisK (K := K) rfl) (by rfl) T.z_isinstance (by decide +kernel) (pa_cons (pv 0) (pa_cons (pe_bltn (v := .ty "bool") (by rfl) T.z_bool (by decide +kernel) rfl) pa_nil)))))))), ?_⟩
  (try simp only [cxK])
  have hS : SOk K T.A (fun cls d _ H => E cls d H) (W.s) [] (fun _ => True) _ [.s] [.s] B_is_whole := (s_ret trivial (x_and (x_cb (w1 := .s) c_isi (a_cons (x_v rfl) (a_cons x_c a_nil))) (x_not (w1 := .s) (x_cb (w1 := .s) c_isi (a_cons (x_v rfl) (a_cons x_c a_nil))))))
  exact run_X hS 1 rfl (fun j hj => match j, hj with | 0, _ => rfl | j + 1, h => absurd h (by omega))
end
end Q03

namespace Q03
open PySem PySem.Spec PyProof.Rows L2 FP PX
section
variable {P : Program} {w : World} {K : PySem.W.Frag} {mg : Str → Option Value} {base : Heap}
set_option maxHeartbeats 4000000 in
theorem ok__is_fold (T : Txt K mg) : FnOk P w K mg base (L2.CX P w) 2 T.f__is_fold T.fd__is_fold ["fold"] (spX K (rX T.A X__is_fold (W.s) 1)) := by
  refine ok_ofX (N := ["fold", "edge", "many", "way"]) T.F__is_fold sc__is_fold rX_len fun cdv A outer s H E hr => ⟨_, (pss_cons (ps_if (PW.pt (pw_or (pt_not (pt_truthK (K := K) rfl (pe_callB (call_isisK (K := K) rfl) (by rfl) T.z_isinstance (by decide +kernel) (pa_cons (pv 0) (pa_cons (pe_bltn (v := .ty "tuple") (by rfl) T.z_tuple (by decide +kernel) rfl) pa_nil))) (by intro _; rfl))) (pw_or1 (pt_cmpR (op_neeK (K := K) rfl hr.units) (pe_callB (call_lennK (K := K) rfl) (by rfl) T.z_len (by decide +kernel) (pa_cons (pv 0) pa_nil)) pe_int (nomark _)))))
      (pss_one (ps_ret pe_bl)) pss_nil)
      (pss_cons (ps_asg (pv 0) (pg_tupK (K := K) (n := 3) rfl rfl (pgs_cons (pg_name (i := 1) sc__is_fold.nd rfl (by first | exact Or.inl rfl | exact Or.inr rfl)) (pgs_cons (pg_name (i := 2) sc__is_fold.nd rfl (by first | exact Or.inl rfl | exact Or.inr rfl)) (pgs_cons (pg_name (i := 3) sc__is_fold.nd rfl (by first | exact Or.inl rfl | exact Or.inr rfl)) pgs_nil)))))
      (pss_one (ps_ret (pe_andTK (K := K) rfl (pe_callS (ok_is_word_of T) (hr.mono (by decide)) (by rfl) T.g_is_word_of T.F_is_word_of.kp T.b_is_word_of (fun σ => passAt (takes_of rfl rfl rfl rfl) σ) (pa_cons (pv 1) (pa_cons (pe_glob (v := .ref T.a_EDGES) (by rfl) T.c_EDGES rfl) pa_nil))) (pe_andTK (K := K) rfl (pe_callS (ok_is_whole T) (hr.mono (by decide)) (by rfl) T.g_is_whole T.F_is_whole.kp T.b_is_whole (fun σ => passAt (takes_of rfl rfl rfl rfl) σ) (pa_cons (pv 2) pa_nil)) (pe_andTK (K := K) rfl (pe_cmpR op_gee (pv 2) pe_int (nomark _)) (pe_one (pe_callS (ok_is_word_of T) (hr.mono (by decide)) (by rfl) T.g_is_word_of T.F_is_word_of.kp T.b_is_word_of (fun σ => passAt (takes_of rfl rfl rfl rfl) σ) (pa_cons (pv 3) (pa_cons (pe_glob (v := .ref T.a_WAYS) (by rfl) T.c_WAYS rfl) pa_nil))))))))))), ?_⟩
  (try simp only [cxK])
  have hS : SOk K T.A (fun cls d _ H => E cls d H) (W.s) [] (fun _ => True) _ [.s, .s, .s, .s] [.s, .s, .s, .s] B__is_fold := (s_seq (s_if trivial (t_or (t_not (t_tru (w := .s) (x_cb (w1 := .s) c_isi (a_cons (x_v rfl) (a_cons x_c a_nil))))) (t_test (w := .s) (x_op (w1 := .s) (w2 := .s) o_ne (x_cb (w1 := .s) c_len (a_cons (x_v rfl) a_nil)) x_c)))
  (s_ret trivial x_c) s_next)
  (s_seq (s_asT trivial (x_v rfl) (tk_tup rfl (tks_cons (tk_n (fun _ h => nomatch h) rfl) (tks_cons (tk_n (fun _ h => nomatch h) rfl) (tks_cons (tk_n (fun _ h => nomatch h) rfl) tks_nil)))))
  (s_ret trivial (x_and (x_call (w := (W.s)) (n := 2) (a_cons (x_v rfl) (a_cons (x_kt (ws := ["left", "right", "top", "bottom"]) T.k_EDGES) a_nil)) rfl) (x_and (x_call (w := (W.s)) (n := 1) (a_cons (x_v rfl) a_nil) rfl) (x_and (x_op (w1 := .s) (w2 := .s) o_ge (x_v rfl) x_c) (x_call (w := (W.s)) (n := 2) (a_cons (x_v rfl) (a_cons (x_kt (ws := ["over", "under"]) T.k_WAYS) a_nil)) rfl)))))))
  exact run_X hS 4 rfl (fun j hj => match j, hj with | 0, _ => rfl | j + 1, h => absurd h (by omega))
end
end Q03

namespace Q03
open PySem PySem.Spec PyProof.Rows L2 FP PX
section
variable {P : Program} {w : World} {K : PySem.W.Frag} {mg : Str → Option Value} {base : Heap}
set_option maxHeartbeats 4000000 in
theorem ok_size_after (T : Txt K mg) : FnOk P w K mg base (L2.CX P w) 3 T.f_size_after T.fd_size_after ["rows", "columns", "fold"] (spX K (rX T.A X_size_after (W.s) 3)) := by
  refine ok_ofX (N := ["rows", "columns", "fold", "edge", "many", "_"]) T.F_size_after sc_size_after rX_len fun cdv A outer s H E hr => ⟨_, (pss_cons (ps_if (pt_not (pt_truthK (K := K) rfl (pe_callS (ok__is_fold T) (hr.mono (by decide)) (by rfl) T.g__is_fold T.F__is_fold.kp T.b__is_fold (fun σ => passAt (takes_of rfl rfl rfl rfl) σ) (pa_cons (pv 2) pa_nil)) (by intro _; rfl)))
      (pss_one (ps_ret pe_non)) pss_nil)
      (pss_cons (ps_asg (pv 2) (pg_tupK (K := K) (n := 3) rfl rfl (pgs_cons (pg_name (i := 3) sc_size_after.nd rfl (by first | exact Or.inl rfl | exact Or.inr rfl)) (pgs_cons (pg_name (i := 4) sc_size_after.nd rfl (by first | exact Or.inl rfl | exact Or.inr rfl)) (pgs_cons (pg_name (i := 5) sc_size_after.nd rfl (by first | exact Or.inl rfl | exact Or.inr rfl)) pgs_nil)))))
      (pss_cons (ps_if (pt_cmpR (op_innK (K := K) rfl) (pv 3) (pe_glob (v := .ref T.a_LEVEL_EDGES) (by rfl) T.c_LEVEL_EDGES rfl) (by with_unfolding_all rfl))
      (pss_one (ps_ret (pe_ifExp (pt_cmpR op_lee (pe_op op_times pe_int (pv 4)) (pv 0) (nomark _)) (pe_tup (pa_cons (pe_op op_sb (pv 0) (pv 4)) (pa_cons (pv 1) pa_nil))) pe_non))) pss_nil)
      (pss_one (ps_ret (pe_ifExp (pt_cmpR op_lee (pe_op op_times pe_int (pv 4)) (pv 1) (nomark _)) (pe_tup (pa_cons (pv 0) (pa_cons (pe_op op_sb (pv 1) (pv 4)) pa_nil))) pe_non)))))), ?_⟩
  (try simp only [cxK])
  have hS : SOk K T.A (fun cls d _ H => E cls d H) (W.s) [] (fun _ => True) _ [.s, .s, .s, .s, .s, .s] [.s, .s, .s, .s, .s, .s] B_size_after := (s_seq (s_if trivial (t_not (t_tru (w := .s) (x_call (w := (W.s)) (n := 1) (a_cons (x_v rfl) a_nil) rfl)))
  (s_ret trivial x_c) s_next)
  (s_seq (s_asT trivial (x_v rfl) (tk_tup rfl (tks_cons (tk_n (fun _ h => nomatch h) rfl) (tks_cons (tk_n (fun _ h => nomatch h) rfl) (tks_cons (tk_n (fun _ h => nomatch h) rfl) tks_nil)))))
  (s_seq (s_if trivial (t_test (w := .s) (x_op (w1 := .s) (w2 := .s) o_in (x_v rfl) (x_kt (ws := ["top", "bottom"]) T.k_LEVEL_EDGES)))
  (s_ret trivial (x_if (t_test (w := .s) (x_op (w1 := .s) (w2 := .s) o_le (x_op (w1 := .s) (w2 := .s) o_mul x_c (x_v rfl)) (x_v rfl))) (x_frz (x_tup (w := (.o .s)) rfl (a_cons (x_op (w1 := .s) (w2 := .s) o_sub (x_v rfl) (x_v rfl)) (a_cons (x_v rfl) a_nil)))) x_c)) s_next)
  (s_ret trivial (x_if (t_test (w := .s) (x_op (w1 := .s) (w2 := .s) o_le (x_op (w1 := .s) (w2 := .s) o_mul x_c (x_v rfl)) (x_v rfl))) (x_frz (x_tup (w := (.o .s)) rfl (a_cons (x_v rfl) (a_cons (x_op (w1 := .s) (w2 := .s) o_sub (x_v rfl) (x_v rfl)) a_nil)))) x_c)))))
  exact run_X hS 6 rfl (fun j hj => match j, hj with | 0, _ => rfl | 1, _ => rfl | 2, _ => rfl | j + 3, h => absurd h (by omega))
end
end Q03

namespace Q03
open PySem PySem.Spec PyProof.Rows L2 FP PX
section
variable {P : Program} {w : World} {K : PySem.W.Frag} {mg : Str → Option Value} {base : Heap}
set_option maxHeartbeats 4000000 in
theorem ok_first_wrong_fold (T : Txt K mg) : FnOk P w K mg base (L2.CX P w) 4 T.f_first_wrong_fold T.fd_first_wrong_fold ["rows", "columns", "folds"] (spX K (rX T.A X_first_wrong_fold (W.s) 3)) := by
  refine ok_ofX (N := ["rows", "columns", "folds", "left", "at", "fold"]) T.F_first_wrong_fold sc_first_wrong_fold rX_len fun cdv A outer s H E hr => ⟨_, (pss_cons (ps_set (i := 3) sc_first_wrong_fold.nd rfl (by first | exact Or.inl rfl | exact Or.inr rfl) (pe_tup (pa_cons (pv 0) (pa_cons (pv 1) pa_nil))))
      (pss_cons (ps_for (passes_of rfl) rfl (pi_enumSK (K := K) rfl (by rfl) T.z_enumerate (pa_cons (pv 2) pa_nil)) (pg_tupK (K := K) (n := 2) rfl rfl (pgs_cons (pg_name (i := 4) sc_first_wrong_fold.nd rfl (by first | exact Or.inl rfl | exact Or.inr rfl)) (pgs_cons (pg_name (i := 5) sc_first_wrong_fold.nd rfl (by first | exact Or.inl rfl | exact Or.inr rfl)) pgs_nil)))
      (pss_cons (ps_set (i := 3) sc_first_wrong_fold.nd rfl (by first | exact Or.inl rfl | exact Or.inr rfl) (pe_callS (ok_size_after T) (hr.mono (by decide)) (by rfl) T.g_size_after T.F_size_after.kp T.b_size_after (fun σ => passAt (takes_of rfl rfl rfl rfl) σ) (pa_cons (pe_ix (ix_seqK (K := K) rfl) (pv 3) pe_int (fun _ _ => rfl)) (pa_cons (pe_ix (ix_seqK (K := K) rfl) (pv 3) pe_int (fun _ _ => rfl)) (pa_cons (pv 5) pa_nil)))))
      (pss_one (ps_if (pt_cmpR op_iss (pv 3) pe_non (nomark _))
      (pss_one (ps_ret (pv 4))) pss_nil))))
      (pss_cons (ps_if (pt_cmpR (op_neeK (K := K) rfl hr.units) (pv 3) (pe_tup (pa_cons pe_int (pa_cons pe_int pa_nil))) (nomark _))
      (pss_one (ps_ret (pe_op (op_plusK (K := K) rfl) (pe_callB (call_lennK (K := K) rfl) (by rfl) T.z_len (by decide +kernel) (pa_cons (pv 2) pa_nil)) pe_int))) pss_nil)
      (pss_one (ps_ret pe_non))))), ?_⟩
  (try simp only [cxK])
  have hS : SOk K T.A (fun cls d _ H => E cls d H) (W.s) [] (fun _ => True) _ [.s, .s, .s, .s, .s, .s] [.s, .s, .s, .s, .s, .s] B_first_wrong_fold := (s_seq (s_setK trivial (x_frz (x_tup (w := (.o .s)) rfl (a_cons (x_v rfl) (a_cons (x_v rfl) a_nil)))) rfl)
  (s_seq (s_for (i_enumS (U := (fun cls d _ H => E cls d H)) (k := 1) (a_cons (x_v rfl) a_nil)) (tk_tup rfl (tks_cons (tk_n (fun _ h => nomatch h) rfl) (tks_cons (tk_n (fun _ h => nomatch h) rfl) tks_nil)))
  (s_fgR [4, 5] (s_seq (s_setK trivial (x_call (w := (W.s)) (n := 3) (a_cons (x_op (w2 := .s) (o_ix (w1 := .s) (fun _ => rfl)) (x_v rfl) x_c) (a_cons (x_op (w2 := .s) (o_ix (w1 := .s) (fun _ => rfl)) (x_v rfl) x_c) (a_cons (x_v rfl) a_nil))) rfl) rfl)
  (s_if trivial (t_test (w := .s) (x_op (w1 := .s) (w2 := .s) o_is (x_v rfl) x_c))
  (s_ret trivial (x_v rfl)) s_next)) (by walk_at "fg")))
  (s_seq (s_if trivial (t_test (w := .s) (x_op (w1 := .s) (w2 := .s) o_ne (x_v rfl) (x_frz (x_tup (w := (.o .s)) rfl (a_cons x_c (a_cons x_c a_nil))))))
  (s_ret trivial (x_op o_add (x_cb (w1 := .s) c_len (a_cons (x_v rfl) a_nil)) x_c)) s_next)
  (s_ret trivial x_c))))
  exact run_X hS 6 rfl (fun j hj => match j, hj with | 0, _ => rfl | 1, _ => rfl | 2, _ => rfl | j + 3, h => absurd h (by omega))
end
end Q03

namespace Q03
open PySem PySem.Spec PyProof.Rows L2 FP PX
section
variable {P : Program} {w : World} {K : PySem.W.Frag} {mg : Str → Option Value} {base : Heap}
set_option maxHeartbeats 4000000 in
theorem ok_is_among (T : Txt K mg) : FnOk P w K mg base (L2.CX P w) 2 T.f_is_among T.fd_is_among ["thing", "least", "most"] (spX K (rX T.A X_is_among (W.s) 3)) := by
  refine ok_ofX (N := ["thing", "least", "most"]) T.F_is_among sc_is_among rX_len fun cdv A outer s H E hr => ⟨_, (pss_one (ps_ret (pe_andTK (K := K) rfl (pe_callS (ok_is_whole T) (hr.mono (by decide)) (by rfl) T.g_is_whole T.F_is_whole.kp T.b_is_whole (fun σ => passAt (takes_of rfl rfl rfl rfl) σ) (pa_cons (pv 0) pa_nil)) (pe_one (pe_chain op_lee op_lee (pv 1) (pv 0) (pv 2)))))), ?_⟩
  (try simp only [cxK])
  have hS : SOk K T.A (fun cls d _ H => E cls d H) (W.s) [] (fun _ => True) _ [.s, .s, .s] [.s, .s, .s] B_is_among := (s_ret trivial (x_and (x_call (w := (W.s)) (n := 1) (a_cons (x_v rfl) a_nil) rfl) (x_chain sc_le sc_le (x_v rfl) (x_v rfl) (x_v rfl))))
  exact run_X hS 3 rfl (fun j hj => match j, hj with | 0, _ => rfl | 1, _ => rfl | 2, _ => rfl | j + 3, h => absurd h (by omega))
end
end Q03

namespace Q03
open PySem PySem.Spec PyProof.Rows L2 FP PX
section
variable {P : Program} {w : World} {K : PySem.W.Frag} {mg : Str → Option Value} {base : Heap}
set_option maxHeartbeats 4000000 in
theorem ok_is_size (T : Txt K mg) : FnOk P w K mg base (L2.CX P w) 3 T.f_is_size T.fd_is_size ["rows", "columns"] (spX K (rX T.A X_is_size (W.s) 2)) := by
  refine ok_ofX (N := ["rows", "columns"]) T.F_is_size sc_is_size rX_len fun cdv A outer s H E hr => ⟨_, (pss_cons (ps_if (PW.pt (pw_or (pt_not (pt_truthK (K := K) rfl (pe_callS (ok_is_among T) (hr.mono (by decide)) (by rfl) T.g_is_among T.F_is_among.kp T.b_is_among (fun σ => passAt (takes_of rfl rfl rfl rfl) σ) (pa_cons (pv 0) (pa_cons pe_int (pa_cons (pe_glob (v := .int 8) (by rfl) T.c_MOST_LINES ⟨_, rfl⟩) pa_nil)))) (by intro _; rfl))) (pw_or1 (pt_not (pt_truthK (K := K) rfl (pe_callS (ok_is_among T) (hr.mono (by decide)) (by rfl) T.g_is_among T.F_is_among.kp T.b_is_among (fun σ => passAt (takes_of rfl rfl rfl rfl) σ) (pa_cons (pv 1) (pa_cons pe_int (pa_cons (pe_glob (v := .int 8) (by rfl) T.c_MOST_LINES ⟨_, rfl⟩) pa_nil)))) (by intro _; rfl))))))
      (pss_one (ps_ret pe_bl)) pss_nil)
      (pss_one (ps_ret (pe_cmpR op_lee (pe_op op_times (pv 0) (pv 1)) (pe_glob (v := .int 32) (by rfl) T.c_MOST_CELLS ⟨_, rfl⟩) (nomark _))))), ?_⟩
  (try simp only [cxK])
  have hS : SOk K T.A (fun cls d _ H => E cls d H) (W.s) [] (fun _ => True) _ [.s, .s] [.s, .s] B_is_size := (s_seq (s_if trivial (t_or (t_not (t_tru (w := .s) (x_call (w := (W.s)) (n := 3) (a_cons (x_v rfl) (a_cons x_c (a_cons x_c a_nil))) rfl))) (t_not (t_tru (w := .s) (x_call (w := (W.s)) (n := 3) (a_cons (x_v rfl) (a_cons x_c (a_cons x_c a_nil))) rfl))))
  (s_ret trivial x_c) s_next)
  (s_ret trivial (x_op (w1 := .s) (w2 := .s) o_le (x_op (w1 := .s) (w2 := .s) o_mul (x_v rfl) (x_v rfl)) x_c)))
  exact run_X hS 2 rfl (fun j hj => match j, hj with | 0, _ => rfl | 1, _ => rfl | j + 2, h => absurd h (by omega))
end
end Q03

namespace Q03
open PySem PySem.Spec PyProof.Rows L2 FP PX
section
variable {P : Program} {w : World} {K : PySem.W.Frag} {mg : Str → Option Value} {base : Heap}
set_option maxHeartbeats 4000000 in
theorem ok_Scheme___init__ (T : Txt K mg) : FnOk P w K mg base (L2.CX P w) 6 T.f_Scheme___init__ T.fd_Scheme___init__ ["self", "rows", "columns", "folds"] (spI K (T.A 8) (rI T.A X_Scheme___init__ [] 4)) := by
  refine ok_ofI (N := ["self", "rows", "columns", "folds", "at", "edge", "many", "way"]) T.F_Scheme___init__ sc_Scheme___init__ rI_len fun cdv A outer s H E hr => ⟨_, (pss_cons (ps_if (PW.pt (pw_or (pt_not (pt_truthK (K := K) rfl (pe_callS (ok_is_size T) (hr.mono (by decide)) (by rfl) T.g_is_size T.F_is_size.kp T.b_is_size (fun σ => passAt (takes_of rfl rfl rfl rfl) σ) (pa_cons (pv 1) (pa_cons (pv 2) pa_nil))) (by intro _; rfl))) (pw_or1 (pt_not (pt_truthK (K := K) rfl (pe_callB (call_isisK (K := K) rfl) (by rfl) T.z_isinstance (by decide +kernel) (pa_cons (pv 3) (pa_cons (pe_bltn (v := .ty "list") (by rfl) T.z_list (by decide +kernel) rfl) pa_nil))) (by intro _; rfl))))))
      (pss_one (ps_raise rfl (takes_of rfl rfl rfl rfl) (pmk_oex T.ox_BadScheme T.in_BadScheme T.ft_BadScheme___init__ (ok_BadScheme___init__ T) (hr.mono (by decide)) T.b_BadScheme___init__ .nil pass0 (by rfl) T.m_BadScheme (pa_cons pe_int pa_nil)))) pss_nil)
      (pss_cons (ps_set (i := 4) sc_Scheme___init__.nd rfl (by first | exact Or.inl rfl | exact Or.inr rfl) (pe_callS (ok_first_wrong_fold T) (hr.mono (by decide)) (by rfl) T.g_first_wrong_fold T.F_first_wrong_fold.kp T.b_first_wrong_fold (fun σ => passAt (takes_of rfl rfl rfl rfl) σ) (pa_cons (pv 1) (pa_cons (pv 2) (pa_cons (pv 3) pa_nil)))))
      (pss_cons (ps_if (pt_cmpR op_isn (pv 4) pe_non (nomark _))
      (pss_one (ps_raise rfl (takes_of rfl rfl rfl rfl) (pmk_oex T.ox_BadScheme T.in_BadScheme T.ft_BadScheme___init__ (ok_BadScheme___init__ T) (hr.mono (by decide)) T.b_BadScheme___init__ .nil pass0 (by rfl) T.m_BadScheme (pa_cons (pv 4) pa_nil)))) pss_nil)
      (pss_cons (ps_fld (pv 0) (pv 1) (by rfl))
      (pss_cons (ps_fld (pv 0) (pv 2) (by rfl))
      (pss_one (ps_fld (pv 0) (pe_callTy (call_tupOfK (K := K) rfl) (by rfl) T.z_tuple (by decide +kernel) (pa_cons (pe_lc (own := [("edge", 5), ("many", 6), ("way", 7)]) (by rfl) sc_Scheme___init__.nd (pi_listK (K := K) rfl (pv 3)) (blkOk_by (own := [("edge", 5), ("many", 6), ("way", 7)]) (N := ["self", "rows", "columns", "folds", "at", "edge", "many", "way"]) (sc := defScope s_Scheme___init__) (by decide +kernel)) (fun _ _ _ _ _ => (pg_tupK (K := K) (n := 3) rfl rfl (pgs_cons (pg_name (i := 5) sc_Scheme___init__.nd rfl (by first | exact Or.inl rfl | exact Or.inr rfl)) (pgs_cons (pg_name (i := 6) sc_Scheme___init__.nd rfl (by first | exact Or.inl rfl | exact Or.inr rfl)) (pgs_cons (pg_name (i := 7) sc_Scheme___init__.nd rfl (by first | exact Or.inl rfl | exact Or.inr rfl)) pgs_nil))))) (fun _ _ _ _ _ => pts_nil) (fun _ _ _ _ _ => (pe_tup (pa_cons (pv 5) (pa_cons (pv 6) (pa_cons (pv 7) pa_nil)))))) pa_nil)) (by rfl)))))))), ?_⟩
  (try simp only [cxK])
  exact run_I (A := T.A) (c := 8) (δL := []) (δs := fun a => [.me a [], .s, .s, .s, .s, .s, .s, .s]) (fun a => (s_seq (s_if trivial (t_or (t_not (t_tru (w := .s) (x_call (w := (W.s)) (n := 2) (a_cons (x_v rfl) (a_cons (x_v rfl) a_nil)) rfl))) (t_not (t_tru (w := .s) (x_cb (w1 := .s) c_isi (a_cons (x_v rfl) (a_cons x_c a_nil))))))
  (s_raise trivial (m_I (A := T.A) (c := 3) mkR_BadScheme (a_cons x_c a_nil) (by decide))) s_next)
  (s_seq (s_setK trivial (x_call (w := (W.s)) (n := 3) (a_cons (x_v rfl) (a_cons (x_v rfl) (a_cons (x_v rfl) a_nil))) rfl) rfl)
  (s_seq (s_if trivial (t_test (w := .s) (x_op (w1 := .s) (w2 := .s) o_isn (x_v rfl) x_c))
  (s_raise trivial (m_I (A := T.A) (c := 3) mkR_BadScheme (a_cons (x_v rfl) a_nil) (by decide))) s_next)
  (s_seq (s_setF trivial T.fo_Scheme__rows rfl (x_v rfl))
  (s_seq (s_setF trivial T.fo_Scheme__columns rfl (x_v rfl))
  (s_setF trivial T.fo_Scheme__folds rfl (x_frz (x_cb (w1 := .s) (c_tuple (fun _ => rfl)) (a_cons (x_frz (x_lc (w := (.o .s)) (c := none) (i_list (U := (fun cls d _ H => E cls d H)) (x_v rfl)) rfl (fun _ => rfl) (tk_tup rfl (tks_cons (tk_n (fun _ h => by cases h; decide) rfl) (tks_cons (tk_n (fun _ h => by cases h; decide) rfl) (tks_cons (tk_n (fun _ h => by cases h; decide) rfl) tks_nil)))) rfl (x_frz (x_tup (w := (.o .s)) rfl (a_cons (x_v rfl) (a_cons (x_v rfl) (a_cons (x_v rfl) a_nil))))))) a_nil)))))))))) rfl (fun _ => rfl) (fun a j hj => match j, hj with | 0, _ => rfl | 1, _ => rfl | 2, _ => rfl | j + 3, h => absurd h (by omega))
end
end Q03

namespace Q03
open PySem PySem.Spec PyProof.Rows L2 FP PX
section
variable {P : Program} {w : World} {K : PySem.W.Frag} {mg : Str → Option Value} {base : Heap}
set_option maxHeartbeats 4000000 in
theorem ok_BadRow___init__ (T : Txt K mg) : FnOk P w K mg base CX0 1 T.f_BadRow___init__ T.fd_BadRow___init__ ["self", "row", "word"] (spE T.A_BadRow R_BadRow) := by
  refine T.F_BadRow___init__.ok (N := ["self", "row", "word"]) sc_BadRow___init__ len_BadRow fun cdv A outer s H vs Q E hr h => ⟨_, (pss_cons (ps_expr (pe_binit (K := K) rfl T.ba_PressError (by rfl) T.m_PressError (pa_cons (pv 0) (pa_cons (pe_joined (PJ.cons pe_str (PJ.cons (pe_fmt (pv 1)) (PJ.cons pe_str (PJ.cons (pe_fmt (pv 2)) (PJ.cons pe_str PJ.nil)))))) pa_nil))))
      (pss_cons (ps_ost (pv 0) (pv 1))
      (pss_one (ps_ost (pv 0) (pv 2))))), ?_⟩
  (try simp only [cxK])
  obtain ⟨a, ws, fs, rfl, ha, ⟨i, j, rfl, h0, h1, g0, g1, rfl⟩, k⟩ := h
  have e1 : (Str.empty ++ ("row " : Str)).length = 4 := by decide +kernel
  have e3 : (", word " : Str).length = 7 := by decide +kernel
  have e5 : (" can't stand there" : Str).length = 18 := by decide +kernel
  have e2 := txt_len h0 h1
  have e4 := txt_len g0 g1
  have l2 : ((Str.empty ++ ("row " : Str)) ++ Str.ofString (toString i)).length ≤ 14 := by rw [str_app_len, e1]; omega
  have l3 : (((Str.empty ++ ("row " : Str)) ++ Str.ofString (toString i)) ++ (", word " : Str)).length ≤ 21 := by rw [str_app_len, e3]; omega
  have l4 : ((((Str.empty ++ ("row " : Str)) ++ Str.ofString (toString i)) ++ (", word " : Str)) ++ Str.ofString (toString j)).length ≤ 31 := by rw [str_app_len]; omega
  have l5 : (((((Str.empty ++ ("row " : Str)) ++ Str.ofString (toString i)) ++ (", word " : Str)) ++ Str.ofString (toString j)) ++ (" can't stand there" : Str)).length ≤ 49 := by rw [str_app_len, e5]; omega
  have big : ∀ {n m : Nat}, n ≤ m → m ≤ 100 → n ≤ sizeLine := fun h1 h2 => Nat.le_trans h1 (Nat.le_trans h2 (by decide))
  refine ⟨.ref a, rfl, _, rfl, (by rw [e1]; decide), .int i, rfl, .inr ⟨i, rfl, log_sm h0 h1, _, rfl, big l2 (by decide), _, rfl, big l3 (by decide), .int j, rfl, .inr ⟨j, rfl, log_sm g0 g1, _, rfl, big l4 (by decide), _, rfl, big l5 (by decide), ?_⟩⟩⟩
  refine ⟨a, _, _, rfl, (show 1 ≤ 1000 by decide), T.ox_BadRow, ha, ?_⟩
  refine ⟨.int i, rfl, .ref a, rfl, a, _, rfl, T.ox_BadRow, T.nf_BadRow_row, .inl ⟨ha, fun dx nd ne => ?_⟩⟩
  refine ⟨.int j, rfl, .ref a, rfl, a, _, rfl, T.ox_BadRow, T.nf_BadRow_word, .inr ⟨dx, [(("row" : Str), V.int i)], upd_same, by rw [upd_ne ne, upd_same], (show 1 ≤ 900 by decide), k dx _ nd ne (fun b o hb h => ?_) ?_ upd_same⟩⟩
  · have hd : b ≠ dx := fun z => by rw [z, nd] at h; cases h
    rw [upd_ne hd, upd_ne hb, upd_ne hd]
    exact h
  · rw [upd_ne (Ne.symm ne), upd_same]
end
end Q03

namespace Q03
open PySem PySem.Spec PyProof.Rows L2 FP PX
section
variable {P : Program} {w : World} {K : PySem.W.Frag} {mg : Str → Option Value} {base : Heap}
set_option maxHeartbeats 4000000 in
theorem ok_words_among (T : Txt K mg) : FnOk P w K mg base (L2.CX P w) 3 T.f_words_among T.fd_words_among ["words", "at", "choices"] (spX K (rX T.A X_words_among (W.s) 3)) := by
  refine ok_ofX (N := ["words", "at", "choices", "number", "word"]) T.F_words_among sc_words_among rX_len fun cdv A outer s H E hr => ⟨_, (pss_cons (ps_for (passes_of rfl) rfl (pi_enumSK (K := K) rfl (by rfl) T.z_enumerate (pa_cons (pv 0) pa_nil)) (pg_tupK (K := K) (n := 2) rfl rfl (pgs_cons (pg_name (i := 3) sc_words_among.nd rfl (by first | exact Or.inl rfl | exact Or.inr rfl)) (pgs_cons (pg_name (i := 4) sc_words_among.nd rfl (by first | exact Or.inl rfl | exact Or.inr rfl)) pgs_nil)))
      (pss_one (ps_if (PW.pt (pw_or (pt_cmpR op_gtt (pv 3) (pe_callB (call_lennK (K := K) rfl) (by rfl) T.z_len (by decide +kernel) (pa_cons (pv 2) pa_nil)) (nomark _)) (pw_or1 (pt_cmpR (op_niiK (K := K) rfl) (pv 4) (pe_ix (ix_seqK (K := K) rfl) (pv 2) (pe_op op_sb (pv 3) pe_int) (fun _ _ => rfl)) (by with_unfolding_all rfl)))))
      (pss_one (ps_raise rfl (takes_of rfl rfl rfl rfl) (pmk_oex T.ox_BadRow T.in_BadRow T.ft_BadRow___init__ (ok_BadRow___init__ T) (hr.mono (by decide)) T.b_BadRow___init__ .nil pass0 (by rfl) T.m_BadRow (pa_cons (pv 1) (pa_cons (pv 3) pa_nil))))) pss_nil)))
      (pss_cons (ps_if (pt_cmpR (op_lttK (K := K) rfl hr.units0) (pe_callB (call_lennK (K := K) rfl) (by rfl) T.z_len (by decide +kernel) (pa_cons (pv 0) pa_nil)) (pe_callB (call_lennK (K := K) rfl) (by rfl) T.z_len (by decide +kernel) (pa_cons (pv 2) pa_nil)) (nomark _))
      (pss_one (ps_raise rfl (takes_of rfl rfl rfl rfl) (pmk_oex T.ox_BadRow T.in_BadRow T.ft_BadRow___init__ (ok_BadRow___init__ T) (hr.mono (by decide)) T.b_BadRow___init__ .nil pass0 (by rfl) T.m_BadRow (pa_cons (pv 1) (pa_cons (pe_op (op_plusK (K := K) rfl) (pe_callB (call_lennK (K := K) rfl) (by rfl) T.z_len (by decide +kernel) (pa_cons (pv 0) pa_nil)) pe_int) pa_nil))))) pss_nil)
      (pss_one (ps_ret (pv 0))))), ?_⟩
  (try simp only [cxK])
  have hS : SOk K T.A (fun cls d _ H => E cls d H) (W.s) [] (fun _ => True) _ [.s, .s, .s, .s, .s] [.s, .s, .s, .s, .s] B_words_among := (s_seq (s_for (i_enumS (U := (fun cls d _ H => E cls d H)) (k := 1) (a_cons (x_v rfl) a_nil)) (tk_tup rfl (tks_cons (tk_n (fun _ h => nomatch h) rfl) (tks_cons (tk_n (fun _ h => nomatch h) rfl) tks_nil)))
  (s_fgR [3, 4] (s_if trivial (t_or (t_test (w := .s) (x_op (w1 := .s) (w2 := .s) o_gt (x_v rfl) (x_cb (w1 := .s) c_len (a_cons (x_v rfl) a_nil)))) (t_test (w := .s) (x_op (w1 := .s) (w2 := .s) o_ni (x_v rfl) (x_op (w2 := .s) (o_ix (w1 := .s) (fun _ => rfl)) (x_v rfl) (x_op (w1 := .s) (w2 := .s) o_sub (x_v rfl) x_c)))))
  (s_raise trivial (m_I (A := T.A) (c := 2) mkR_BadRow (a_cons (x_v rfl) (a_cons (x_v rfl) a_nil)) (by decide))) s_next) (by walk_at "fg")))
  (s_seq (s_if trivial (t_test (w := .s) (x_op (w1 := .s) (w2 := .s) o_lt (x_cb (w1 := .s) c_len (a_cons (x_v rfl) a_nil)) (x_cb (w1 := .s) c_len (a_cons (x_v rfl) a_nil))))
  (s_raise trivial (m_I (A := T.A) (c := 2) mkR_BadRow (a_cons (x_v rfl) (a_cons (x_op o_add (x_cb (w1 := .s) c_len (a_cons (x_v rfl) a_nil)) x_c) a_nil)) (by decide))) s_next)
  (s_ret trivial (x_v rfl))))
  exact run_X hS 5 rfl (fun j hj => match j, hj with | 0, _ => rfl | 1, _ => rfl | 2, _ => rfl | j + 3, h => absurd h (by omega))
end
end Q03

namespace Q03
open PySem PySem.Spec PyProof.Rows L2 FP PX
section
variable {P : Program} {w : World} {K : PySem.W.Frag} {mg : Str → Option Value} {base : Heap}
set_option maxHeartbeats 4000000 in
theorem ok_read_fold (T : Txt K mg) : FnOk P w K mg base (L2.CX P w) 4 T.f_read_fold T.fd_read_fold ["words", "at"] (spX K (rX T.A X_read_fold (W.s) 2)) := by
  refine ok_ofX (N := ["words", "at"]) T.F_read_fold sc_read_fold rX_len fun cdv A outer s H E hr => ⟨_, (pss_cons (ps_expr (pe_callS (ok_words_among T) (hr.mono (by decide)) (by rfl) T.g_words_among T.F_words_among.kp T.b_words_among (fun σ => passAt (takes_of rfl rfl rfl rfl) σ) (pa_cons (pv 0) (pa_cons (pv 1) (pa_cons (pe_tup (pa_cons (pe_tup (pa_cons pe_str pa_nil)) (pa_cons (pe_glob (v := .ref T.a_EDGES) (by rfl) T.c_EDGES rfl) (pa_cons (pe_glob (v := .ref T.a_FIGURES) (by rfl) T.c_FIGURES rfl) (pa_cons (pe_glob (v := .ref T.a_WAYS) (by rfl) T.c_WAYS rfl) pa_nil))))) pa_nil)))))
      (pss_one (ps_ret (pe_tup (pa_cons (pe_ix (ix_seqK (K := K) rfl) (pv 0) pe_int (fun _ _ => rfl)) (pa_cons (pe_callTy call_intt (by rfl) T.z_int (by decide +kernel) (pa_cons (pe_ix (ix_seqK (K := K) rfl) (pv 0) pe_int (fun _ _ => rfl)) pa_nil)) (pa_cons (pe_ix (ix_seqK (K := K) rfl) (pv 0) pe_int (fun _ _ => rfl)) pa_nil))))))), ?_⟩
  (try simp only [cxK])
  have hS : SOk K T.A (fun cls d _ H => E cls d H) (W.s) [] (fun _ => True) _ [.s, .s] [.s, .s] B_read_fold := (s_seq (s_do trivial (x_call (w := (W.s)) (n := 3) (a_cons (x_v rfl) (a_cons (x_v rfl) (a_cons (x_frz (x_tup (w := (.o .s)) rfl (a_cons (x_frz (x_tup (w := (.o .s)) rfl (a_cons x_c a_nil))) (a_cons (x_kt (ws := ["left", "right", "top", "bottom"]) T.k_EDGES) (a_cons (x_kt (ws := ["1", "2", "3", "4", "5", "6", "7", "8"]) T.k_FIGURES) (a_cons (x_kt (ws := ["over", "under"]) T.k_WAYS) a_nil)))))) a_nil))) rfl))
  (s_ret trivial (x_frz (x_tup (w := (.o .s)) rfl (a_cons (x_op (w2 := .s) (o_ix (w1 := .s) (fun _ => rfl)) (x_v rfl) x_c) (a_cons (x_cb (w1 := .s) c_int (a_cons (x_op (w2 := .s) (o_ix (w1 := .s) (fun _ => rfl)) (x_v rfl) x_c) a_nil)) (a_cons (x_op (w2 := .s) (o_ix (w1 := .s) (fun _ => rfl)) (x_v rfl) x_c) a_nil)))))))
  exact run_X hS 2 rfl (fun j hj => match j, hj with | 0, _ => rfl | 1, _ => rfl | j + 2, h => absurd h (by omega))
end
end Q03

namespace Q03
open PySem PySem.Spec PyProof.Rows L2 FP PX
section
variable {P : Program} {w : World} {K : PySem.W.Frag} {mg : Str → Option Value} {base : Heap}
set_option maxHeartbeats 4000000 in
theorem ok_words_of (T : Txt K mg) : FnOk P w K mg base (L2.CX P w) 1 T.f_words_of T.fd_words_of ["row"] (spX K (rX T.A X_words_of (W.s) 1)) := by
  refine ok_ofX (N := ["row", "words"]) T.F_words_of sc_words_of rX_len fun cdv A outer s H E hr => ⟨_, (pss_cons (ps_if (pt_not (pt_truthK (K := K) rfl (pe_callB (call_isisK (K := K) rfl) (by rfl) T.z_isinstance (by decide +kernel) (pa_cons (pv 0) (pa_cons (pe_bltn (v := .ty "str") (by rfl) T.z_str (by decide +kernel) rfl) pa_nil))) (by intro _; rfl)))
      (pss_one (ps_ret pe_non)) pss_nil)
      (pss_cons (ps_set (i := 1) sc_words_of.nd rfl (by first | exact Or.inl rfl | exact Or.inr rfl) (pe_split (pv 0) pe_str))
      (pss_cons (ps_if (pt_cmpR (op_innK (K := K) rfl) pe_str (pv 1) (by with_unfolding_all rfl))
      (pss_one (ps_ret pe_non)) pss_nil)
      (pss_one (ps_ret (pv 1)))))), ?_⟩
  (try simp only [cxK])
  have hS : SOk K T.A (fun cls d _ H => E cls d H) (W.s) [] (fun _ => True) _ [.s, .s] [.s, .s] B_words_of := (s_seq (s_if trivial (t_not (t_tru (w := .s) (x_cb (w1 := .s) c_isi (a_cons (x_v rfl) (a_cons x_c a_nil)))))
  (s_ret trivial x_c) s_next)
  (s_seq (s_setK trivial (x_frz (x_split (w := .s) (w1 := .s) (w2 := .s) (x_v rfl) x_c)) rfl)
  (s_seq (s_if trivial (t_test (w := .s) (x_op (w1 := .s) (w2 := .s) o_in x_c (x_v rfl)))
  (s_ret trivial x_c) s_next)
  (s_ret trivial (x_v rfl)))))
  exact run_X hS 2 rfl (fun j hj => match j, hj with | 0, _ => rfl | j + 1, h => absurd h (by omega))
end
end Q03

namespace Q03
open PySem PySem.Spec PyProof.Rows L2 FP PX
section
variable {P : Program} {w : World} {K : PySem.W.Frag} {mg : Str → Option Value} {base : Heap}
set_option maxHeartbeats 4000000 in
theorem ok_words_at (T : Txt K mg) : FnOk P w K mg base (L2.CX P w) 3 T.f_words_at T.fd_words_at ["row", "at"] (spX K (rX T.A X_words_at (W.s) 2)) := by
  refine ok_ofX (N := ["row", "at", "words"]) T.F_words_at sc_words_at rX_len fun cdv A outer s H E hr => ⟨_, (pss_cons (ps_set (i := 2) sc_words_at.nd rfl (by first | exact Or.inl rfl | exact Or.inr rfl) (pe_callS (ok_words_of T) (hr.mono (by decide)) (by rfl) T.g_words_of T.F_words_of.kp T.b_words_of (fun σ => passAt (takes_of rfl rfl rfl rfl) σ) (pa_cons (pv 0) pa_nil)))
      (pss_cons (ps_if (pt_cmpR op_iss (pv 2) pe_non (nomark _))
      (pss_one (ps_raise rfl (takes_of rfl rfl rfl rfl) (pmk_oex T.ox_BadRow T.in_BadRow T.ft_BadRow___init__ (ok_BadRow___init__ T) (hr.mono (by decide)) T.b_BadRow___init__ .nil pass0 (by rfl) T.m_BadRow (pa_cons (pv 1) (pa_cons pe_int pa_nil))))) pss_nil)
      (pss_one (ps_ret (pv 2))))), ?_⟩
  (try simp only [cxK])
  have hS : SOk K T.A (fun cls d _ H => E cls d H) (W.s) [] (fun _ => True) _ [.s, .s, .s] [.s, .s, .s] B_words_at := (s_seq (s_setK trivial (x_call (w := (W.s)) (n := 1) (a_cons (x_v rfl) a_nil) rfl) rfl)
  (s_seq (s_if trivial (t_test (w := .s) (x_op (w1 := .s) (w2 := .s) o_is (x_v rfl) x_c))
  (s_raise trivial (m_I (A := T.A) (c := 2) mkR_BadRow (a_cons (x_v rfl) (a_cons x_c a_nil)) (by decide))) s_next)
  (s_ret trivial (x_v rfl))))
  exact run_X hS 3 rfl (fun j hj => match j, hj with | 0, _ => rfl | 1, _ => rfl | j + 2, h => absurd h (by omega))
end
end Q03

namespace Q03
open PySem PySem.Spec PyProof.Rows L2 FP PX
section
variable {P : Program} {w : World} {K : PySem.W.Frag} {mg : Str → Option Value} {base : Heap}
set_option maxHeartbeats 4000000 in
theorem ok_read_size (T : Txt K mg) : FnOk P w K mg base (L2.CX P w) 4 T.f_read_size T.fd_read_size ["words", "at"] (spX K (rX T.A X_read_size (W.s) 2)) := by
  refine ok_ofX (N := ["words", "at"]) T.F_read_size sc_read_size rX_len fun cdv A outer s H E hr => ⟨_, (pss_cons (ps_expr (pe_callS (ok_words_among T) (hr.mono (by decide)) (by rfl) T.g_words_among T.F_words_among.kp T.b_words_among (fun σ => passAt (takes_of rfl rfl rfl rfl) σ) (pa_cons (pv 0) (pa_cons (pv 1) (pa_cons (pe_tup (pa_cons (pe_tup (pa_cons pe_str pa_nil)) (pa_cons (pe_glob (v := .ref T.a_FIGURES) (by rfl) T.c_FIGURES rfl) (pa_cons (pe_glob (v := .ref T.a_FIGURES) (by rfl) T.c_FIGURES rfl) pa_nil)))) pa_nil)))))
      (pss_one (ps_ret (pe_tup (pa_cons (pe_callTy call_intt (by rfl) T.z_int (by decide +kernel) (pa_cons (pe_ix (ix_seqK (K := K) rfl) (pv 0) pe_int (fun _ _ => rfl)) pa_nil)) (pa_cons (pe_callTy call_intt (by rfl) T.z_int (by decide +kernel) (pa_cons (pe_ix (ix_seqK (K := K) rfl) (pv 0) pe_int (fun _ _ => rfl)) pa_nil)) pa_nil)))))), ?_⟩
  (try simp only [cxK])
  have hS : SOk K T.A (fun cls d _ H => E cls d H) (W.s) [] (fun _ => True) _ [.s, .s] [.s, .s] B_read_size := (s_seq (s_do trivial (x_call (w := (W.s)) (n := 3) (a_cons (x_v rfl) (a_cons (x_v rfl) (a_cons (x_frz (x_tup (w := (.o .s)) rfl (a_cons (x_frz (x_tup (w := (.o .s)) rfl (a_cons x_c a_nil))) (a_cons (x_kt (ws := ["1", "2", "3", "4", "5", "6", "7", "8"]) T.k_FIGURES) (a_cons (x_kt (ws := ["1", "2", "3", "4", "5", "6", "7", "8"]) T.k_FIGURES) a_nil))))) a_nil))) rfl))
  (s_ret trivial (x_frz (x_tup (w := (.o .s)) rfl (a_cons (x_cb (w1 := .s) c_int (a_cons (x_op (w2 := .s) (o_ix (w1 := .s) (fun _ => rfl)) (x_v rfl) x_c) a_nil)) (a_cons (x_cb (w1 := .s) c_int (a_cons (x_op (w2 := .s) (o_ix (w1 := .s) (fun _ => rfl)) (x_v rfl) x_c) a_nil)) a_nil))))))
  exact run_X hS 2 rfl (fun j hj => match j, hj with | 0, _ => rfl | 1, _ => rfl | j + 2, h => absurd h (by omega))
end
end Q03

namespace Q03
open PySem PySem.Spec PyProof.Rows L2 FP PX
section
variable {P : Program} {w : World} {K : PySem.W.Frag} {mg : Str → Option Value} {base : Heap}
set_option maxHeartbeats 4000000 in
theorem ok_rows_of (T : Txt K mg) : FnOk P w K mg base (L2.CX P w) 3 T.f_rows_of T.fd_rows_of ["text"] (spX K (rX T.A X_rows_of (W.s) 1)) := by
  refine ok_ofX (N := ["text"]) T.F_rows_of sc_rows_of rX_len fun cdv A outer s H E hr => ⟨_, (pss_cons (ps_if (pt_not (pt_truthK (K := K) rfl (pe_callB (call_isisK (K := K) rfl) (by rfl) T.z_isinstance (by decide +kernel) (pa_cons (pv 0) (pa_cons (pe_bltn (v := .ty "str") (by rfl) T.z_str (by decide +kernel) rfl) pa_nil))) (by intro _; rfl)))
      (pss_one (ps_raise rfl (takes_of rfl rfl rfl rfl) (pmk_oex T.ox_BadRow T.in_BadRow T.ft_BadRow___init__ (ok_BadRow___init__ T) (hr.mono (by decide)) T.b_BadRow___init__ .nil pass0 (by rfl) T.m_BadRow (pa_cons pe_int (pa_cons pe_int pa_nil))))) pss_nil)
      (pss_one (ps_ret (pe_split (pv 0) pe_str)))), ?_⟩
  (try simp only [cxK])
  have hS : SOk K T.A (fun cls d _ H => E cls d H) (W.s) [] (fun _ => True) _ [.s] [.s] B_rows_of := (s_seq (s_if trivial (t_not (t_tru (w := .s) (x_cb (w1 := .s) c_isi (a_cons (x_v rfl) (a_cons x_c a_nil)))))
  (s_raise trivial (m_I (A := T.A) (c := 2) mkR_BadRow (a_cons x_c (a_cons x_c a_nil)) (by decide))) s_next)
  (s_ret trivial (x_frz (x_split (w := .s) (w1 := .s) (w2 := .s) (x_v rfl) x_c))))
  exact run_X hS 1 rfl (fun j hj => match j, hj with | 0, _ => rfl | j + 1, h => absurd h (by omega))
end
end Q03

namespace Q03
open PySem PySem.Spec PyProof.Rows L2 FP PX
section
variable {P : Program} {w : World} {K : PySem.W.Frag} {mg : Str → Option Value} {base : Heap}
set_option maxHeartbeats 4000000 in
theorem ok_read_scheme (T : Txt K mg) : FnOk P w K mg base (L2.CX P w) 8 T.f_read_scheme T.fd_read_scheme ["text"] (spX K (rX T.A X_read_scheme (W.s) 1)) := by
  refine ok_ofX (N := ["text", "rows", "size", "folds", "at", "row"]) T.F_read_scheme sc_read_scheme rX_len fun cdv A outer s H E hr => ⟨_, (pss_cons (ps_set (i := 1) sc_read_scheme.nd rfl (by first | exact Or.inl rfl | exact Or.inr rfl) (pe_callS (ok_rows_of T) (hr.mono (by decide)) (by rfl) T.g_rows_of T.F_rows_of.kp T.b_rows_of (fun σ => passAt (takes_of rfl rfl rfl rfl) σ) (pa_cons (pv 0) pa_nil)))
      (pss_cons (ps_set (i := 2) sc_read_scheme.nd rfl (by first | exact Or.inl rfl | exact Or.inr rfl) (pe_callS (ok_read_size T) (hr.mono (by decide)) (by rfl) T.g_read_size T.F_read_size.kp T.b_read_size (fun σ => passAt (takes_of rfl rfl rfl rfl) σ) (pa_cons (pe_callS (ok_words_at T) (hr.mono (by decide)) (by rfl) T.g_words_at T.F_words_at.kp T.b_words_at (fun σ => passAt (takes_of rfl rfl rfl rfl) σ) (pa_cons (pe_ix (ix_seqK (K := K) rfl) (pv 1) pe_int (fun _ _ => rfl)) (pa_cons pe_int pa_nil))) (pa_cons pe_int pa_nil))))
      (pss_cons (ps_setLcR (i := 3) rfl rfl (takes_of rfl rfl rfl rfl) (own := [("at", 4), ("row", 5)]) (by rfl) sc_read_scheme.nd rfl rfl (sw_true rfl rfl rfl (by decide +kernel)) (pi_enumSK (K := K) rfl (by rfl) T.z_enumerate (pa_cons (pe_slice (sl_anyK (K := K) rfl) (pv 1) (po_some pe_int) po_none) pa_nil)) (blkOk_by (own := [("at", 4), ("row", 5)]) (N := ["text", "rows", "size", "folds", "at", "row"]) (sc := defScope s_read_scheme) (by decide +kernel)) (fun _ _ _ _ _ => (pg_tupK (K := K) (n := 2) rfl rfl (pgs_cons (pg_name (i := 4) sc_read_scheme.nd rfl (by first | exact Or.inl rfl | exact Or.inr rfl)) (pgs_cons (pg_name (i := 5) sc_read_scheme.nd rfl (by first | exact Or.inl rfl | exact Or.inr rfl)) pgs_nil)))) (fun _ _ _ _ _ => pts_nil) (fun _ _ _ _ _ => (pe_callS (ok_read_fold T) (hr.mono (by decide)) (by rfl) T.g_read_fold T.F_read_fold.kp T.b_read_fold passR (pa_cons (pe_callS (ok_words_at T) (hr.mono (by decide)) (by rfl) T.g_words_at T.F_words_at.kp T.b_words_at passR (pa_cons (pv 5) (pa_cons (pv 4) pa_nil))) (pa_cons (pv 4) pa_nil)))))
      (pss_one (ps_ret (pe_makeS T.mk_Scheme (ok_Scheme___init__ T) (hr.mono (by decide)) (by rfl) T.m_Scheme T.b_Scheme___init__ (fun σ => passAt (takes_of rfl rfl rfl rfl) σ) (pa_cons (pe_ix (ix_seqK (K := K) rfl) (pv 2) pe_int (fun _ _ => rfl)) (pa_cons (pe_ix (ix_seqK (K := K) rfl) (pv 2) pe_int (fun _ _ => rfl)) (pa_cons (pv 3) pa_nil))))))))), ?_⟩
  (try simp only [cxK])
  have hS : SOk K T.A (fun cls d _ H => E cls d H) (W.s) [] (fun _ => True) _ [.s, .s, .s, .s, .s, .s] [.s, .s, .s, .s, .s, .s] B_read_scheme := (s_seq (s_setK trivial (x_call (w := (W.s)) (n := 1) (a_cons (x_v rfl) a_nil) rfl) rfl)
  (s_seq (s_setK trivial (x_call (w := (W.s)) (n := 2) (a_cons (x_call (w := (W.s)) (n := 2) (a_cons (x_op (w2 := .s) (o_ix (w1 := .s) (fun _ => rfl)) (x_v rfl) x_c) (a_cons x_c a_nil)) rfl) (a_cons x_c a_nil)) rfl) rfl)
  (s_seq (s_setK trivial (x_frz (x_lcE (w := (.o .s)) (i_enumS (U := (fun cls d _ H => E cls d H)) (k := 2) (a_cons (x_frz (x_slc (w1 := .s) (fun _ => rfl) (x_v rfl) (p_some (U := (fun cls d _ H => E cls d H)) x_c) p_none)) a_nil)) rfl (fun _ => rfl) (tk_tup rfl (tks_cons (tk_n (fun _ h => by cases h; decide) rfl) (tks_cons (tk_n (fun _ h => by cases h; decide) rfl) tks_nil))) (x_call (w := (W.s)) (n := 2) (a_cons (x_call (w := (W.s)) (n := 2) (a_cons (x_v rfl) (a_cons (x_v rfl) a_nil)) rfl) (a_cons (x_v rfl) a_nil)) rfl))) rfl)
  (s_ret trivial (x_frz (x_mk (A := T.A) (c := 8) (ws := []) (a_cons (x_op (w2 := .s) (o_ix (w1 := .s) (fun _ => rfl)) (x_v rfl) x_c) (a_cons (x_op (w2 := .s) (o_ix (w1 := .s) (fun _ => rfl)) (x_v rfl) x_c) (a_cons (x_v rfl) a_nil))) rfl))))))
  exact run_X hS 6 rfl (fun j hj => match j, hj with | 0, _ => rfl | j + 1, h => absurd h (by omega))
end
end Q03

namespace Q03
open PySem PySem.Spec PyProof.Rows L2 FP PX
section
variable {P : Program} {w : World} {K : PySem.W.Frag} {mg : Str → Option Value} {base : Heap}
set_option maxHeartbeats 4000000 in
theorem ok__law_found (T : Txt K mg) : FnOk P w K mg base (L2.CX P w) 9 T.f__law_found T.fd__law_found ["_law_text"] (spX K (rX T.A X__law_found (.o .s) 1)) := by
  refine ok_ofX (N := ["_law_text", "_law_wrong", "_law_told", "e", "_law_kinds_here"]) T.F__law_found sc__law_found rX_len fun cdv A outer s H E hr => ⟨_, (pss_cons (ps_set (i := 1) sc__law_found.nd rfl (by first | exact Or.inl rfl | exact Or.inr rfl) pe_non)
      (pss_cons (ps_set (i := 2) sc__law_found.nd rfl (by first | exact Or.inl rfl | exact Or.inr rfl) pe_non)
      (pss_cons (ps_keep (c := .ref T.A_PressError) (i := 3) (j := 1) rfl rfl rfl sc__law_found.nd rfl rfl ⟨by rfl, by decide, Or.inl T.m_PressError⟩ (fun W pn xe tk po => (pss_one (ps_set (i := 2) sc__law_found.nd rfl (by first | exact Or.inl rfl | exact Or.inr rfl) (pe_callS (ok_read_scheme T) (hr.mono (by decide)) (by rfl) T.g_read_scheme T.F_read_scheme.kp T.b_read_scheme (fun σ => passAt tk σ) (pa_cons (pv 0) pa_nil))))) (fun a oe pn => pss_one (ps_set (i := 1) sc__law_found.nd rfl (by first | exact Or.inl rfl | exact Or.inr rfl) (pv 3))))
      (pss_cons (ps_if (pt_cmpR op_iss (pv 1) pe_non (nomark _))
      (pss_one (ps_ret (pe_methS0 (pv 2) T.cl_Scheme T.me_Scheme_told (ok_Scheme_told T) (hr.mono (by decide)) T.b_Scheme_told (fun σ => passAt (takes_of rfl rfl rfl rfl) σ)))) pss_nil)
      (pss_cons (ps_set (i := 4) sc__law_found.nd rfl (by first | exact Or.inl rfl | exact Or.inr rfl) (pe_callS (ok__law_kinds T) (hr.mono (by decide)) (by rfl) T.g__law_kinds T.F__law_kinds.kp T.b__law_kinds (fun σ => passAt (takes_of rfl rfl rfl rfl) σ) (pa_cons (pv 1) pa_nil)))
      (pss_cons (ps_if (pt_cmpR (op_eqqK (K := K) rfl hr.units) (pv 4) (pe_lst (pa_cons pe_str pa_nil)) (nomark _))
      (pss_one (ps_ret (pe_tup (pa_cons (pe_fldA (K := K) rfl (pv 1)) (pa_cons (pe_fldA (K := K) rfl (pv 1)) pa_nil))))) pss_nil)
      (pss_one (ps_ret (pe_ifExp (pt_cmpR (op_eqqK (K := K) rfl hr.units) (pv 4) (pe_lst (pa_cons pe_str pa_nil)) (nomark _)) (pe_fldA (K := K) rfl (pv 1)) pe_non))))))))), ?_⟩
  (try simp only [cxK])
  have hS : SOk K T.A (fun cls d _ H => E cls d H) (.o .s) [] (fun _ => True) _ [.s, .s, .s, .s, .s] [.s, .s, .s, .s, .s] B__law_found := (s_seq (s_setK trivial x_c rfl)
  (s_seq (s_setK trivial x_c rfl)
  (s_seq (s_tryN T.catch_PressError rfl (fun Ut => (s_setK rfl (x_call (w := (W.s)) (n := 1) (a_cons (x_v rfl) a_nil) rfl) rfl)) nob_set)
  (s_seq (s_if trivial (t_test (w := .s) (x_op (w1 := .s) (w2 := .s) o_is (x_v rfl) x_c))
  (s_ret trivial (x_wk (w := (.f [.s, .s, (.o .s)])) (w' := (.o .s)) (x_meth (A := T.A) (c := 8) (w := (.f [.s, .s, (.o .s)])) (w1 := .s) (n := 1) (x_v rfl) a_nil rfl) rfl)) s_next)
  (s_seq (s_setK trivial (x_call (w := (W.s)) (n := 1) (a_cons (x_v rfl) a_nil) rfl) rfl)
  (s_seq (s_if trivial (t_test (w := .s) (x_op (w1 := .s) (w2 := .s) o_eq (x_v rfl) (x_frz (x_lst (w := (.o .s)) rfl (a_cons x_c a_nil)))))
  (s_ret trivial (x_tup (w := (.o .s)) rfl (a_cons (x_fld T.fo_BadRow_row (x_v rfl)) (a_cons (x_fld T.fo_BadRow_word (x_v rfl)) a_nil)))) s_next)
  (s_ret trivial (x_if (t_test (w := .s) (x_op (w1 := .s) (w2 := .s) o_eq (x_v rfl) (x_frz (x_lst (w := (.o .s)) rfl (a_cons x_c a_nil))))) (x_sc (x_fld T.fo_BadScheme_at (x_v rfl))) x_c))))))))
  exact run_X hS 5 rfl (fun j hj => match j, hj with | 0, _ => rfl | j + 1, h => absurd h (by omega))
end
end Q03

namespace Q03
open PySem PySem.Spec PyProof.Rows L2 FP PX
section
variable {P : Program} {w : World} {K : PySem.W.Frag} {mg : Str → Option Value} {base : Heap}
set_option maxHeartbeats 4000000 in
theorem ok__law_mixed (T : Txt K mg) : FnOk P w K mg base (L2.CX P w) 1 T.f__law_mixed T.fd__law_mixed ["_law_cell", "_law_k"] (spX K (rX T.A X__law_mixed (W.s) 2)) := by
  refine ok_ofX (N := ["_law_cell", "_law_k"]) T.F__law_mixed sc__law_mixed rX_len fun cdv A outer s H E hr => ⟨_, (pss_cons (ps_set (i := 0) sc__law_mixed.nd rfl (by first | exact Or.inl rfl | exact Or.inr rfl) (pe_op (op_plusK (K := K) rfl) (pe_op (op_plusK (K := K) rfl) (pe_op op_md (pv 0) pe_int) (pe_op op_times pe_int (pv 1))) pe_int))
      (pss_one (ps_ret (pe_op op_md (pe_op op_times (pe_op op_md (pe_op op_times (pv 0) (pv 0)) pe_int) pe_int) pe_int)))), ?_⟩
  (try simp only [cxK])
  have hS : SOk K T.A (fun cls d _ H => E cls d H) (W.s) [] (fun _ => True) _ [.s, .s] [.s, .s] B__law_mixed := (s_seq (s_setK trivial (x_op o_add (x_op o_add (x_op (w1 := .s) (w2 := .s) o_md (x_v rfl) x_c) (x_op (w1 := .s) (w2 := .s) o_mul x_c (x_v rfl))) x_c) rfl)
  (s_ret trivial (x_op (w1 := .s) (w2 := .s) o_md (x_op (w1 := .s) (w2 := .s) o_mul (x_op (w1 := .s) (w2 := .s) o_md (x_op (w1 := .s) (w2 := .s) o_mul (x_v rfl) (x_v rfl)) x_c) x_c) x_c)))
  exact run_X hS 2 rfl (fun j hj => match j, hj with | 0, _ => rfl | 1, _ => rfl | j + 2, h => absurd h (by omega))
end
end Q03

namespace Q03
open PySem PySem.Spec PyProof.Rows L2 FP PX
section
variable {P : Program} {w : World} {K : PySem.W.Frag} {mg : Str → Option Value} {base : Heap}
set_option maxHeartbeats 4000000 in
theorem ok__law_first_wrong (T : Txt K mg) : FnOk P w K mg base (L2.CX P w) 1 T.f__law_first_wrong T.fd__law_first_wrong ["_law_words", "_law_is_first"] (spX K (rX T.A X__law_first_wrong (W.s) 2)) := by
  refine ok_ofX (N := ["_law_words", "_law_is_first", "_law_sides", "_law_wanted", "_law_k", "_law_goods"]) T.F__law_first_wrong sc__law_first_wrong rX_len fun cdv A outer s H E hr => ⟨_, (pss_cons (ps_setLc (i := 2) (own := [("_law_k", 4)]) (by rfl) sc__law_first_wrong.nd rfl rfl (sw_true rfl rfl rfl (by decide +kernel)) (pi_range2 (by rfl) T.z_range (pa_cons pe_int (pa_cons pe_int pa_nil))) (blkOk_by (own := [("_law_k", 4)]) (N := ["_law_words", "_law_is_first", "_law_sides", "_law_wanted", "_law_k", "_law_goods"]) (sc := defScope s__law_first_wrong) (by decide +kernel)) (fun _ _ _ _ _ => (pg_name (i := 4) sc__law_first_wrong.nd rfl (by first | exact Or.inl rfl | exact Or.inr rfl))) (fun _ _ _ _ _ => pts_nil) (fun _ _ _ _ _ => (pe_callTy call_strI (by rfl) T.z_str (by decide +kernel) (pa_cons (pv 4) pa_nil))))
      (pss_cons (ps_set (i := 3) sc__law_first_wrong.nd rfl (by first | exact Or.inl rfl | exact Or.inr rfl) (pe_lst (pa_cons (pe_lst (pa_cons pe_str pa_nil)) (pa_cons (pe_lst (pa_cons pe_str (pa_cons pe_str (pa_cons pe_str (pa_cons pe_str pa_nil))))) (pa_cons (pv 2) (pa_cons (pe_lst (pa_cons pe_str (pa_cons pe_str pa_nil))) pa_nil))))))
      (pss_cons (ps_if (pt_truthK (K := K) rfl (pv 1) (by intro _; rfl))
      (pss_one (ps_set (i := 3) sc__law_first_wrong.nd rfl (by first | exact Or.inl rfl | exact Or.inr rfl) (pe_lst (pa_cons (pe_lst (pa_cons pe_str pa_nil)) (pa_cons (pv 2) (pa_cons (pv 2) pa_nil)))))) pss_nil)
      (pss_cons (ps_if (pt_cmpR (op_innK (K := K) rfl) pe_str (pv 0) (by with_unfolding_all rfl))
      (pss_one (ps_ret pe_int)) pss_nil)
      (pss_cons (ps_for (passes_of rfl) rfl (pi_enum (by rfl) T.z_enumerate (pa_cons (pv 3) pa_nil)) (pg_tupK (K := K) (n := 2) rfl rfl (pgs_cons (pg_name (i := 4) sc__law_first_wrong.nd rfl (by first | exact Or.inl rfl | exact Or.inr rfl)) (pgs_cons (pg_name (i := 5) sc__law_first_wrong.nd rfl (by first | exact Or.inl rfl | exact Or.inr rfl)) pgs_nil)))
      (pss_one (ps_if (PW.pt (pw_or (pt_cmpR (op_eqqK (K := K) rfl hr.units) (pv 4) (pe_callB (call_lennK (K := K) rfl) (by rfl) T.z_len (by decide +kernel) (pa_cons (pv 0) pa_nil)) (nomark _)) (pw_or1 (pt_cmpR (op_niiK (K := K) rfl) (pe_ix (ix_seqK (K := K) rfl) (pv 0) (pv 4) (fun _ _ => rfl)) (pv 5) (by with_unfolding_all rfl)))))
      (pss_one (ps_ret (pe_op (op_plusK (K := K) rfl) (pv 4) pe_int))) pss_nil)))
      (pss_one (ps_ret (pe_ifExp (pt_cmpR (op_eqqK (K := K) rfl hr.units) (pe_callB (call_lennK (K := K) rfl) (by rfl) T.z_len (by decide +kernel) (pa_cons (pv 0) pa_nil)) (pe_callB (call_lennK (K := K) rfl) (by rfl) T.z_len (by decide +kernel) (pa_cons (pv 3) pa_nil)) (nomark _)) pe_non (pe_op (op_plusK (K := K) rfl) (pe_callB (call_lennK (K := K) rfl) (by rfl) T.z_len (by decide +kernel) (pa_cons (pv 3) pa_nil)) pe_int))))))))), ?_⟩
  (try simp only [cxK])
  have hS : SOk K T.A (fun cls d _ H => E cls d H) (W.s) [] (fun _ => True) _ [.s, .s, .s, .s, .s, .s] [.s, .s, .s, .s, .s, .s] B__law_first_wrong := (s_seq (s_setK trivial (x_frz (x_lc (w := (.o .s)) (c := none) (i_rng2 (U := (fun cls d _ H => E cls d H)) (a_cons x_c (a_cons x_c a_nil))) rfl (fun _ => rfl) (tk_n (fun _ h => by cases h; decide) rfl) rfl (x_cb (w1 := .s) c_str (a_cons (x_v rfl) a_nil)))) rfl)
  (s_seq (s_setK trivial (x_frz (x_lst (w := (.o .s)) rfl (a_cons (x_frz (x_lst (w := (.o .s)) rfl (a_cons x_c a_nil))) (a_cons (x_frz (x_lst (w := (.o .s)) rfl (a_cons x_c (a_cons x_c (a_cons x_c (a_cons x_c a_nil)))))) (a_cons (x_v rfl) (a_cons (x_frz (x_lst (w := (.o .s)) rfl (a_cons x_c (a_cons x_c a_nil)))) a_nil)))))) rfl)
  (s_seq (s_if trivial (t_tru (w := .s) (x_v rfl))
  (s_setK trivial (x_frz (x_lst (w := (.o .s)) rfl (a_cons (x_frz (x_lst (w := (.o .s)) rfl (a_cons x_c a_nil))) (a_cons (x_v rfl) (a_cons (x_v rfl) a_nil))))) rfl) s_next)
  (s_seq (s_if trivial (t_test (w := .s) (x_op (w1 := .s) (w2 := .s) o_in x_c (x_v rfl)))
  (s_ret trivial x_c) s_next)
  (s_seq (s_for (i_enum (U := (fun cls d _ H => E cls d H)) (a_cons (x_v rfl) a_nil)) (tk_tup rfl (tks_cons (tk_n (fun _ h => nomatch h) rfl) (tks_cons (tk_n (fun _ h => nomatch h) rfl) tks_nil)))
  (s_fgR [4, 5] (s_if trivial (t_or (t_test (w := .s) (x_op (w1 := .s) (w2 := .s) o_eq (x_v rfl) (x_cb (w1 := .s) c_len (a_cons (x_v rfl) a_nil)))) (t_test (w := .s) (x_op (w1 := .s) (w2 := .s) o_ni (x_op (w2 := .s) (o_ix (w1 := .s) (fun _ => rfl)) (x_v rfl) (x_v rfl)) (x_v rfl))))
  (s_ret trivial (x_op o_add (x_v rfl) x_c)) s_next) (by walk_at "fg")))
  (s_ret trivial (x_if (t_test (w := .s) (x_op (w1 := .s) (w2 := .s) o_eq (x_cb (w1 := .s) c_len (a_cons (x_v rfl) a_nil)) (x_cb (w1 := .s) c_len (a_cons (x_v rfl) a_nil)))) x_c (x_op o_add (x_cb (w1 := .s) c_len (a_cons (x_v rfl) a_nil)) x_c))))))))
  exact run_X hS 6 rfl (fun j hj => match j, hj with | 0, _ => rfl | 1, _ => rfl | j + 2, h => absurd h (by omega))
end
end Q03

namespace Q03
open PySem PySem.Spec PyProof.Rows L2 FP PX
section
variable {P : Program} {w : World} {K : PySem.W.Frag} {mg : Str → Option Value} {base : Heap}
set_option maxHeartbeats 4000000 in
theorem ok__law_read (T : Txt K mg) : FnOk P w K mg base (L2.CX P w) 2 T.f__law_read T.fd__law_read ["_law_rows_here"] (spX K (rX T.A X__law_read (W.s) 1)) := by
  refine ok_ofX (N := ["_law_rows_here", "_law_size_here", "_law_left", "_law_folds_here", "_law_k", "_law_words", "_law_wrong", "_law_is_upright", "_law_edge", "_law_many", "_law_way"]) T.F__law_read sc__law_read rX_len fun cdv A outer s H E hr => ⟨_, (pss_cons (ps_for (passes_of rfl) rfl (pi_enum (by rfl) T.z_enumerate (pa_cons (pv 0) pa_nil)) (pg_tupK (K := K) (n := 2) rfl rfl (pgs_cons (pg_name (i := 4) sc__law_read.nd rfl (by first | exact Or.inl rfl | exact Or.inr rfl)) (pgs_cons (pg_name (i := 5) sc__law_read.nd rfl (by first | exact Or.inl rfl | exact Or.inr rfl)) pgs_nil)))
      (pss_cons (ps_set (i := 6) sc__law_read.nd rfl (by first | exact Or.inl rfl | exact Or.inr rfl) (pe_callS (ok__law_first_wrong T) (hr.mono (by decide)) (by rfl) T.g__law_first_wrong T.F__law_first_wrong.kp T.b__law_first_wrong (fun σ => passAt (takes_of rfl rfl rfl rfl) σ) (pa_cons (pv 5) (pa_cons (pe_cmpR (op_eqqK (K := K) rfl hr.units) (pv 4) pe_int (nomark _)) pa_nil))))
      (pss_one (ps_if (pt_cmpR op_isn (pv 6) pe_non (nomark _))
      (pss_one (ps_ret (pe_tup (pa_cons (pe_op (op_plusK (K := K) rfl) (pv 4) pe_int) (pa_cons (pv 6) pa_nil))))) pss_nil))))
      (pss_cons (ps_set (i := 1) sc__law_read.nd rfl (by first | exact Or.inl rfl | exact Or.inr rfl) (pe_tup (pa_cons (pe_callTy call_intt (by rfl) T.z_int (by decide +kernel) (pa_cons (pe_ix (ix_seqK (K := K) rfl) (pe_ix (ix_seqK (K := K) rfl) (pv 0) pe_int (fun _ _ => rfl)) pe_int (fun _ _ => rfl)) pa_nil)) (pa_cons (pe_callTy call_intt (by rfl) T.z_int (by decide +kernel) (pa_cons (pe_ix (ix_seqK (K := K) rfl) (pe_ix (ix_seqK (K := K) rfl) (pv 0) pe_int (fun _ _ => rfl)) pe_int (fun _ _ => rfl)) pa_nil)) pa_nil))))
      (pss_cons (ps_if (pt_cmpR op_gtt (pe_op op_times (pe_ix (ix_seqK (K := K) rfl) (pv 1) pe_int (fun _ _ => rfl)) (pe_ix (ix_seqK (K := K) rfl) (pv 1) pe_int (fun _ _ => rfl))) pe_int (nomark _))
      (pss_one (ps_ret pe_int)) pss_nil)
      (pss_cons (ps_set (i := 2) sc__law_read.nd rfl (by first | exact Or.inl rfl | exact Or.inr rfl) (pv 1))
      (pss_cons (ps_setLc (i := 3) (own := [("_law_words", 5)]) (by rfl) sc__law_read.nd rfl rfl (sw_true rfl rfl rfl (by decide +kernel)) (pi_listK (K := K) rfl (pe_slice (sl_anyK (K := K) rfl) (pv 0) (po_some pe_int) po_none)) (blkOk_by (own := [("_law_words", 5)]) (N := ["_law_rows_here", "_law_size_here", "_law_left", "_law_folds_here", "_law_k", "_law_words", "_law_wrong", "_law_is_upright", "_law_edge", "_law_many", "_law_way"]) (sc := defScope s__law_read) (by decide +kernel)) (fun _ _ _ _ _ => (pg_name (i := 5) sc__law_read.nd rfl (by first | exact Or.inl rfl | exact Or.inr rfl))) (fun _ _ _ _ _ => pts_nil) (fun _ _ _ _ _ => (pe_tup (pa_cons (pe_ix (ix_seqK (K := K) rfl) (pv 5) pe_int (fun _ _ => rfl)) (pa_cons (pe_callTy call_intt (by rfl) T.z_int (by decide +kernel) (pa_cons (pe_ix (ix_seqK (K := K) rfl) (pv 5) pe_int (fun _ _ => rfl)) pa_nil)) (pa_cons (pe_ix (ix_seqK (K := K) rfl) (pv 5) pe_int (fun _ _ => rfl)) pa_nil))))))
      (pss_cons (ps_for (passes_of rfl) rfl (pi_enum (by rfl) T.z_enumerate (pa_cons (pv 3) pa_nil)) (pg_tupK (K := K) (n := 2) rfl rfl (pgs_cons (pg_name (i := 4) sc__law_read.nd rfl (by first | exact Or.inl rfl | exact Or.inr rfl)) (pgs_cons (pg_tupK (K := K) (n := 3) rfl rfl (pgs_cons (pg_name (i := 8) sc__law_read.nd rfl (by first | exact Or.inl rfl | exact Or.inr rfl)) (pgs_cons (pg_name (i := 9) sc__law_read.nd rfl (by first | exact Or.inl rfl | exact Or.inr rfl)) (pgs_cons (pg_name (i := 10) sc__law_read.nd rfl (by first | exact Or.inl rfl | exact Or.inr rfl)) pgs_nil)))) pgs_nil)))
      (pss_cons (ps_set (i := 7) sc__law_read.nd rfl (by first | exact Or.inl rfl | exact Or.inr rfl) (pe_cmpR (op_innK (K := K) rfl) (pv 8) (pe_tup (pa_cons pe_str (pa_cons pe_str pa_nil))) (by with_unfolding_all rfl)))
      (pss_cons (ps_if (pt_cmpR op_gtt (pe_op op_times pe_int (pv 9)) (pe_ix (ix_seqK (K := K) rfl) (pv 2) (pe_callTy call_intt (by rfl) T.z_int (by decide +kernel) (pa_cons (pv 7) pa_nil)) (fun _ _ => rfl)) (nomark _))
      (pss_one (ps_ret (pe_op (op_plusK (K := K) rfl) (pv 4) pe_int))) pss_nil)
      (pss_one (ps_set (i := 2) sc__law_read.nd rfl (by first | exact Or.inl rfl | exact Or.inr rfl) (pe_ifExp (pt_truthK (K := K) rfl (pv 7) (by intro _; rfl)) (pe_tup (pa_cons (pe_ix (ix_seqK (K := K) rfl) (pv 2) pe_int (fun _ _ => rfl)) (pa_cons (pe_op op_sb (pe_ix (ix_seqK (K := K) rfl) (pv 2) pe_int (fun _ _ => rfl)) (pv 9)) pa_nil))) (pe_tup (pa_cons (pe_op op_sb (pe_ix (ix_seqK (K := K) rfl) (pv 2) pe_int (fun _ _ => rfl)) (pv 9)) (pa_cons (pe_ix (ix_seqK (K := K) rfl) (pv 2) pe_int (fun _ _ => rfl)) pa_nil)))))))))
      (pss_one (ps_ret (pe_ifExp (pt_cmpR (op_eqqK (K := K) rfl hr.units) (pv 2) (pe_tup (pa_cons pe_int (pa_cons pe_int pa_nil))) (nomark _)) (pe_tup (pa_cons (pe_ix (ix_seqK (K := K) rfl) (pv 1) pe_int (fun _ _ => rfl)) (pa_cons (pe_ix (ix_seqK (K := K) rfl) (pv 1) pe_int (fun _ _ => rfl)) (pa_cons (pv 3) pa_nil)))) (pe_op (op_plusK (K := K) rfl) (pe_callB (call_lennK (K := K) rfl) (by rfl) T.z_len (by decide +kernel) (pa_cons (pv 3) pa_nil)) pe_int)))))))))), ?_⟩
  (try simp only [cxK])
  have hS : SOk K T.A (fun cls d _ H => E cls d H) (W.s) [] (fun _ => True) _ [.s, .s, .s, .s, .s, .s, .s, .s, .s, .s, .s] [.s, .s, .s, .s, .s, .s, .s, .s, .s, .s, .s] B__law_read := (s_seq (s_for (i_enum (U := (fun cls d _ H => E cls d H)) (a_cons (x_v rfl) a_nil)) (tk_tup rfl (tks_cons (tk_n (fun _ h => nomatch h) rfl) (tks_cons (tk_n (fun _ h => nomatch h) rfl) tks_nil)))
  (s_fgR [4, 6] (s_seq (s_setK trivial (x_call (w := (W.s)) (n := 2) (a_cons (x_v rfl) (a_cons (x_op (w1 := .s) (w2 := .s) o_eq (x_v rfl) x_c) a_nil)) rfl) rfl)
  (s_if trivial (t_test (w := .s) (x_op (w1 := .s) (w2 := .s) o_isn (x_v rfl) x_c))
  (s_ret trivial (x_frz (x_tup (w := (.o .s)) rfl (a_cons (x_op o_add (x_v rfl) x_c) (a_cons (x_v rfl) a_nil))))) s_next)) (by walk_at "fg")))
  (s_seq (s_setK trivial (x_frz (x_tup (w := (.o .s)) rfl (a_cons (x_cb (w1 := .s) c_int (a_cons (x_op (w2 := .s) (o_ix (w1 := .s) (fun _ => rfl)) (x_op (w2 := .s) (o_ix (w1 := .s) (fun _ => rfl)) (x_v rfl) x_c) x_c) a_nil)) (a_cons (x_cb (w1 := .s) c_int (a_cons (x_op (w2 := .s) (o_ix (w1 := .s) (fun _ => rfl)) (x_op (w2 := .s) (o_ix (w1 := .s) (fun _ => rfl)) (x_v rfl) x_c) x_c) a_nil)) a_nil)))) rfl)
  (s_seq (s_if trivial (t_test (w := .s) (x_op (w1 := .s) (w2 := .s) o_gt (x_op (w1 := .s) (w2 := .s) o_mul (x_op (w2 := .s) (o_ix (w1 := .s) (fun _ => rfl)) (x_v rfl) x_c) (x_op (w2 := .s) (o_ix (w1 := .s) (fun _ => rfl)) (x_v rfl) x_c)) x_c))
  (s_ret trivial x_c) s_next)
  (s_seq (s_setK trivial (x_v rfl) rfl)
  (s_seq (s_setK trivial (x_frz (x_lc (w := (.o .s)) (c := none) (i_list (U := (fun cls d _ H => E cls d H)) (x_frz (x_slc (w1 := .s) (fun _ => rfl) (x_v rfl) (p_some (U := (fun cls d _ H => E cls d H)) x_c) p_none))) rfl (fun _ => rfl) (tk_n (fun _ h => by cases h; decide) rfl) rfl (x_frz (x_tup (w := (.o .s)) rfl (a_cons (x_op (w2 := .s) (o_ix (w1 := .s) (fun _ => rfl)) (x_v rfl) x_c) (a_cons (x_cb (w1 := .s) c_int (a_cons (x_op (w2 := .s) (o_ix (w1 := .s) (fun _ => rfl)) (x_v rfl) x_c) a_nil)) (a_cons (x_op (w2 := .s) (o_ix (w1 := .s) (fun _ => rfl)) (x_v rfl) x_c) a_nil))))))) rfl)
  (s_seq (s_for (i_enum (U := (fun cls d _ H => E cls d H)) (a_cons (x_v rfl) a_nil)) (tk_tup rfl (tks_cons (tk_n (fun _ h => nomatch h) rfl) (tks_cons (tk_tup rfl (tks_cons (tk_n (fun _ h => nomatch h) rfl) (tks_cons (tk_n (fun _ h => nomatch h) rfl) (tks_cons (tk_n (fun _ h => nomatch h) rfl) tks_nil)))) tks_nil)))
  (s_fgR [4, 7, 8, 9, 10] (s_seq (s_setK trivial (x_op (w1 := .s) (w2 := .s) o_in (x_v rfl) (x_frz (x_tup (w := (.o .s)) rfl (a_cons x_c (a_cons x_c a_nil))))) rfl)
  (s_seq (s_if trivial (t_test (w := .s) (x_op (w1 := .s) (w2 := .s) o_gt (x_op (w1 := .s) (w2 := .s) o_mul x_c (x_v rfl)) (x_op (w2 := .s) (o_ix (w1 := .s) (fun _ => rfl)) (x_v rfl) (x_cb (w1 := .s) c_int (a_cons (x_v rfl) a_nil)))))
  (s_ret trivial (x_op o_add (x_v rfl) x_c)) s_next)
  (s_setK trivial (x_if (t_tru (w := .s) (x_v rfl)) (x_frz (x_tup (w := (.o .s)) rfl (a_cons (x_op (w2 := .s) (o_ix (w1 := .s) (fun _ => rfl)) (x_v rfl) x_c) (a_cons (x_op (w1 := .s) (w2 := .s) o_sub (x_op (w2 := .s) (o_ix (w1 := .s) (fun _ => rfl)) (x_v rfl) x_c) (x_v rfl)) a_nil)))) (x_frz (x_tup (w := (.o .s)) rfl (a_cons (x_op (w1 := .s) (w2 := .s) o_sub (x_op (w2 := .s) (o_ix (w1 := .s) (fun _ => rfl)) (x_v rfl) x_c) (x_v rfl)) (a_cons (x_op (w2 := .s) (o_ix (w1 := .s) (fun _ => rfl)) (x_v rfl) x_c) a_nil))))) rfl))) (by walk_at "fg")))
  (s_ret trivial (x_if (t_test (w := .s) (x_op (w1 := .s) (w2 := .s) o_eq (x_v rfl) (x_frz (x_tup (w := (.o .s)) rfl (a_cons x_c (a_cons x_c a_nil)))))) (x_frz (x_tup (w := (.o .s)) rfl (a_cons (x_op (w2 := .s) (o_ix (w1 := .s) (fun _ => rfl)) (x_v rfl) x_c) (a_cons (x_op (w2 := .s) (o_ix (w1 := .s) (fun _ => rfl)) (x_v rfl) x_c) (a_cons (x_v rfl) a_nil))))) (x_op o_add (x_cb (w1 := .s) c_len (a_cons (x_v rfl) a_nil)) x_c)))))))))
  exact run_X hS 11 rfl (fun j hj => match j, hj with | 0, _ => rfl | j + 1, h => absurd h (by omega))
end
end Q03

namespace Q03
open PySem PySem.Spec PyProof.Rows L2 FP PX
section
variable {P : Program} {w : World} {K : PySem.W.Frag} {mg : Str → Option Value} {base : Heap}
set_option maxHeartbeats 4000000 in
theorem ok__law_bent (T : Txt K mg) : FnOk P w K mg base (L2.CX P w) 1 T.f__law_bent T.fd__law_bent ["_law_rows_here", "_law_number"] (spX K (rX T.A X__law_bent (W.s) 2)) := by
  refine ok_ofX (N := ["_law_rows_here", "_law_number", "_law_some", "_law_at", "_law_row", "_law_spot", "_law_word", "_law_way", "_law_more"]) T.F__law_bent sc__law_bent rX_len fun cdv A outer s H E hr => ⟨_, (pss_cons (ps_set (i := 2) sc__law_bent.nd rfl (by first | exact Or.inl rfl | exact Or.inr rfl) (pe_lst (pa_cons pe_str (pa_cons pe_str (pa_cons pe_str (pa_cons pe_str (pa_cons pe_str (pa_cons pe_str (pa_cons pe_str (pa_cons pe_str (pa_cons pe_str (pa_cons pe_str (pa_cons pe_str (pa_cons pe_str (pa_cons pe_str (pa_cons pe_str pa_nil))))))))))))))))
      (pss_cons (ps_set (i := 3) sc__law_bent.nd rfl (by first | exact Or.inl rfl | exact Or.inr rfl) (pe_op op_md (pe_op op_fd (pv 1) pe_int) (pe_callB (call_lennK (K := K) rfl) (by rfl) T.z_len (by decide +kernel) (pa_cons (pv 0) pa_nil))))
      (pss_cons (ps_set (i := 4) sc__law_bent.nd rfl (by first | exact Or.inl rfl | exact Or.inr rfl) (pe_ix (ix_seqK (K := K) rfl) (pv 0) (pv 3) (fun _ _ => rfl)))
      (pss_cons (ps_set (i := 5) sc__law_bent.nd rfl (by first | exact Or.inl rfl | exact Or.inr rfl) (pe_op op_md (pe_op op_fd (pv 1) pe_int) (pe_op (op_plusK (K := K) rfl) (pe_callB (call_lennK (K := K) rfl) (by rfl) T.z_len (by decide +kernel) (pa_cons (pv 4) pa_nil)) pe_int)))
      (pss_cons (ps_set (i := 6) sc__law_bent.nd rfl (by first | exact Or.inl rfl | exact Or.inr rfl) (pe_ix (ix_seqK (K := K) rfl) (pv 2) (pe_op op_md (pe_op op_fd (pv 1) pe_int) pe_int) (fun _ _ => rfl)))
      (pss_cons (ps_set (i := 7) sc__law_bent.nd rfl (by first | exact Or.inl rfl | exact Or.inr rfl) (pe_op op_md (pv 1) pe_int))
      (pss_cons (ps_if (pt_cmpR (op_eqqK (K := K) rfl hr.units) (pv 7) pe_int (nomark _))
      (pss_one (ps_ret (pe_op (op_plusK (K := K) rfl) (pe_op (op_plusK (K := K) rfl) (pe_slice (sl_anyK (K := K) rfl) (pv 0) po_none (po_some (pv 3))) (pe_slice (sl_anyK (K := K) rfl) (pv 0) (po_some (pe_op (op_plusK (K := K) rfl) (pv 3) pe_int)) po_none)) (pe_op op_times (pe_lst (pa_cons (pe_lst (pa_cons pe_str (pa_cons pe_str (pa_cons pe_str (pa_cons pe_str pa_nil))))) pa_nil)) (pe_callTy call_intt (by rfl) T.z_int (by decide +kernel) (pa_cons (pe_cmpR (op_eqqK (K := K) rfl hr.units) (pe_callB (call_lennK (K := K) rfl) (by rfl) T.z_len (by decide +kernel) (pa_cons (pv 0) pa_nil)) pe_int (nomark _)) pa_nil)))))) pss_nil)
      (pss_cons (ps_if (pt_cmpR (op_eqqK (K := K) rfl hr.units) (pv 7) pe_int (nomark _))
      (pss_one (ps_ret (pe_op (op_plusK (K := K) rfl) (pe_op (op_plusK (K := K) rfl) (pe_slice (sl_anyK (K := K) rfl) (pv 0) po_none (po_some (pv 3))) (pe_lst (pa_cons (pv 4) pa_nil))) (pe_slice (sl_anyK (K := K) rfl) (pv 0) (po_some (pv 3)) po_none)))) pss_nil)
      (pss_cons (ps_if (pt_cmpR (op_eqqK (K := K) rfl hr.units) (pv 7) pe_int (nomark _))
      (pss_one (ps_ret (pe_op (op_plusK (K := K) rfl) (pe_op (op_plusK (K := K) rfl) (pe_slice (sl_anyK (K := K) rfl) (pv 0) po_none (po_some (pv 3))) (pe_slice (sl_anyK (K := K) rfl) (pv 0) (po_some (pe_op (op_plusK (K := K) rfl) (pv 3) pe_int)) po_none)) (pe_lst (pa_cons (pv 4) pa_nil))))) pss_nil)
      (pss_cons (ps_set (i := 8) sc__law_bent.nd rfl (by first | exact Or.inl rfl | exact Or.inr rfl) (pe_callTy (call_listOfK (K := K) rfl) (by rfl) T.z_list (by decide +kernel) (pa_cons (pv 4) pa_nil)))
      (pss_cons (ps_if (pt_cmpR (op_lttK (K := K) rfl hr.units0) (pv 7) pe_int (nomark _))
      (pss_one (ps_expr (pe_bmK (K := K) rfl PySem.F.plainAttrs_list PySem.F.slot_list_insert PySem.F.type_list_insert mt_insert (pv 8) (pa_cons (pv 5) (pa_cons (pv 6) pa_nil))))) (pss_one (ps_if (pt_cmpR (op_lttK (K := K) rfl hr.units0) (pv 7) pe_int (nomark _))
      (pss_one (ps_set (i := 8) sc__law_bent.nd rfl (by first | exact Or.inl rfl | exact Or.inr rfl) (pe_op (op_plusK (K := K) rfl) (pe_slice (sl_anyK (K := K) rfl) (pv 4) po_none (po_some (pv 5))) (pe_slice (sl_anyK (K := K) rfl) (pv 4) (po_some (pe_op (op_plusK (K := K) rfl) (pv 5) pe_int)) po_none)))) (pss_one (ps_asg (pe_lst (pa_cons (pv 6) pa_nil)) (pg_slice (pv 8) (po_some (pv 5)) (po_some (pe_op (op_plusK (K := K) rfl) (pv 5) pe_int))))))))
      (pss_one (ps_ret (pe_op (op_plusK (K := K) rfl) (pe_op (op_plusK (K := K) rfl) (pe_slice (sl_anyK (K := K) rfl) (pv 0) po_none (po_some (pv 3))) (pe_lst (pa_cons (pv 8) pa_nil))) (pe_slice (sl_anyK (K := K) rfl) (pv 0) (po_some (pe_op (op_plusK (K := K) rfl) (pv 3) pe_int)) po_none))))))))))))))), ?_⟩
  (try simp only [cxK])
  have hS : SOk K T.A (fun cls d _ H => E cls d H) (W.s) [] (fun _ => True) _ [.s, .s, .s, .s, .s, .s, .s, .s, (.o .s)] [.s, .s, .s, .s, .s, .s, .s, .s, (.o .s)] B__law_bent := (s_seq (s_setK trivial (x_frz (x_lst (w := (.o .s)) rfl (a_cons x_c (a_cons x_c (a_cons x_c (a_cons x_c (a_cons x_c (a_cons x_c (a_cons x_c (a_cons x_c (a_cons x_c (a_cons x_c (a_cons x_c (a_cons x_c (a_cons x_c (a_cons x_c a_nil)))))))))))))))) rfl)
  (s_seq (s_setK trivial (x_op (w1 := .s) (w2 := .s) o_md (x_op (w1 := .s) (w2 := .s) o_fd (x_v rfl) x_c) (x_cb (w1 := .s) c_len (a_cons (x_v rfl) a_nil))) rfl)
  (s_seq (s_setK trivial (x_op (w2 := .s) (o_ix (w1 := .s) (fun _ => rfl)) (x_v rfl) (x_v rfl)) rfl)
  (s_seq (s_setK trivial (x_op (w1 := .s) (w2 := .s) o_md (x_op (w1 := .s) (w2 := .s) o_fd (x_v rfl) x_c) (x_op o_add (x_cb (w1 := .s) c_len (a_cons (x_v rfl) a_nil)) x_c)) rfl)
  (s_seq (s_setK trivial (x_op (w2 := .s) (o_ix (w1 := .s) (fun _ => rfl)) (x_v rfl) (x_op (w1 := .s) (w2 := .s) o_md (x_op (w1 := .s) (w2 := .s) o_fd (x_v rfl) x_c) x_c)) rfl)
  (s_seq (s_setK trivial (x_op (w1 := .s) (w2 := .s) o_md (x_v rfl) x_c) rfl)
  (s_seq (s_if trivial (t_test (w := .s) (x_op (w1 := .s) (w2 := .s) o_eq (x_v rfl) x_c))
  (s_ret trivial (x_op o_add (x_op o_add (x_frz (x_slc (w1 := .s) (fun _ => rfl) (x_v rfl) p_none (p_some (U := (fun cls d _ H => E cls d H)) (x_v rfl)))) (x_frz (x_slc (w1 := .s) (fun _ => rfl) (x_v rfl) (p_some (U := (fun cls d _ H => E cls d H)) (x_op o_add (x_v rfl) x_c)) p_none))) (x_frz (x_op (w2 := .s) o_rep (x_lst (w := (.o .s)) rfl (a_cons (x_frz (x_lst (w := (.o .s)) rfl (a_cons x_c (a_cons x_c (a_cons x_c (a_cons x_c a_nil)))))) a_nil)) (x_cb (w1 := .s) c_int (a_cons (x_op (w1 := .s) (w2 := .s) o_eq (x_cb (w1 := .s) c_len (a_cons (x_v rfl) a_nil)) x_c) a_nil)))))) s_next)
  (s_seq (s_if trivial (t_test (w := .s) (x_op (w1 := .s) (w2 := .s) o_eq (x_v rfl) x_c))
  (s_ret trivial (x_op o_add (x_op o_add (x_frz (x_slc (w1 := .s) (fun _ => rfl) (x_v rfl) p_none (p_some (U := (fun cls d _ H => E cls d H)) (x_v rfl)))) (x_frz (x_lst (w := (.o .s)) rfl (a_cons (x_v rfl) a_nil)))) (x_frz (x_slc (w1 := .s) (fun _ => rfl) (x_v rfl) (p_some (U := (fun cls d _ H => E cls d H)) (x_v rfl)) p_none)))) s_next)
  (s_seq (s_if trivial (t_test (w := .s) (x_op (w1 := .s) (w2 := .s) o_eq (x_v rfl) x_c))
  (s_ret trivial (x_op o_add (x_op o_add (x_frz (x_slc (w1 := .s) (fun _ => rfl) (x_v rfl) p_none (p_some (U := (fun cls d _ H => E cls d H)) (x_v rfl)))) (x_frz (x_slc (w1 := .s) (fun _ => rfl) (x_v rfl) (p_some (U := (fun cls d _ H => E cls d H)) (x_op o_add (x_v rfl) x_c)) p_none))) (x_frz (x_lst (w := (.o .s)) rfl (a_cons (x_v rfl) a_nil))))) s_next)
  (s_seq (s_setK trivial (x_cb (w1 := .s) (c_list (fun _ => rfl)) (a_cons (x_v rfl) a_nil)) rfl)
  (s_seq (s_if trivial (t_test (w := .s) (x_op (w1 := .s) (w2 := .s) o_lt (x_v rfl) x_c))
  (s_chg rfl pt_var (a_cons (x_v rfl) (a_cons (x_v rfl) a_nil)) (fun π hl _ ho => match π, hl, ho with | [], _, _ => g_insert (fun _ => rfl))) (s_if trivial (t_test (w := .s) (x_op (w1 := .s) (w2 := .s) o_lt (x_v rfl) x_c))
  (s_setK trivial (x_op (o_addL (w1 := (W.s)) (w2 := (W.s)) rfl rfl) (x_frz (x_slc (w1 := .s) (fun _ => rfl) (x_v rfl) p_none (p_some (U := (fun cls d _ H => E cls d H)) (x_v rfl)))) (x_frz (x_slc (w1 := .s) (fun _ => rfl) (x_v rfl) (p_some (U := (fun cls d _ H => E cls d H)) (x_op o_add (x_v rfl) x_c)) p_none))) rfl) (s_setSl (we := (.o .s)) trivial rfl pt_var (x_v rfl) (x_op o_add (x_v rfl) x_c) (x_lst (w := (.o .s)) rfl (a_cons (x_v rfl) a_nil)) (fun π hl _ _ => match π, hl with | [], _ => ⟨fun _ => rfl, rfl⟩))))
  (s_frz 8 (s_ret trivial (x_op o_add (x_op o_add (x_frz (x_slc (w1 := .s) (fun _ => rfl) (x_v rfl) p_none (p_some (U := (fun cls d _ H => E cls d H)) (x_v rfl)))) (x_frz (x_lst (w := (.o .s)) rfl (a_cons (x_v rfl) a_nil)))) (x_frz (x_slc (w1 := .s) (fun _ => rfl) (x_v rfl) (p_some (U := (fun cls d _ H => E cls d H)) (x_op o_add (x_v rfl) x_c)) p_none))))))))))))))))
  exact run_X hS 9 rfl (fun j hj => match j, hj with | 0, _ => rfl | 1, _ => rfl | j + 2, h => absurd h (by omega))
end
end Q03

namespace Q03
open PySem PySem.Spec PyProof.Rows L2 FP PX
section
variable {P : Program} {w : World} {K : PySem.W.Frag} {mg : Str → Option Value} {base : Heap}
set_option maxHeartbeats 4000000 in
theorem ok_scheme_rows (T : Txt K mg) : FnOk P w K mg base (L2.CX P w) 2 T.f_scheme_rows T.fd_scheme_rows ["scheme"] (spX K (rX T.A X_scheme_rows (.o .s) 1)) := by
  refine ok_ofX (N := ["scheme", "rows", "columns", "folds", "edge", "many", "way"]) T.F_scheme_rows sc_scheme_rows rX_len fun cdv A outer s H E hr => ⟨_, (pss_cons (ps_asg (pe_methS0 (pv 0) T.cl_Scheme T.me_Scheme_told (ok_Scheme_told T) (hr.mono (by decide)) T.b_Scheme_told (fun σ => passAt (takes_of rfl rfl rfl rfl) σ)) (pg_tupK (K := K) (n := 3) rfl rfl (pgs_cons (pg_name (i := 1) sc_scheme_rows.nd rfl (by first | exact Or.inl rfl | exact Or.inr rfl)) (pgs_cons (pg_name (i := 2) sc_scheme_rows.nd rfl (by first | exact Or.inl rfl | exact Or.inr rfl)) (pgs_cons (pg_name (i := 3) sc_scheme_rows.nd rfl (by first | exact Or.inl rfl | exact Or.inr rfl)) pgs_nil)))))
      (pss_one (ps_ret (pe_op (op_plusK (K := K) rfl) (pe_lst (pa_cons (pe_joined (PJ.cons pe_str (PJ.cons (pe_fmt (pv 1)) (PJ.cons pe_str (PJ.cons (pe_fmt (pv 2)) PJ.nil))))) pa_nil)) (pe_lc (own := [("edge", 4), ("many", 5), ("way", 6)]) (by rfl) sc_scheme_rows.nd (pi_listK (K := K) rfl (pv 3)) (blkOk_by (own := [("edge", 4), ("many", 5), ("way", 6)]) (N := ["scheme", "rows", "columns", "folds", "edge", "many", "way"]) (sc := defScope s_scheme_rows) (by decide +kernel)) (fun _ _ _ _ _ => (pg_tupK (K := K) (n := 3) rfl rfl (pgs_cons (pg_name (i := 4) sc_scheme_rows.nd rfl (by first | exact Or.inl rfl | exact Or.inr rfl)) (pgs_cons (pg_name (i := 5) sc_scheme_rows.nd rfl (by first | exact Or.inl rfl | exact Or.inr rfl)) (pgs_cons (pg_name (i := 6) sc_scheme_rows.nd rfl (by first | exact Or.inl rfl | exact Or.inr rfl)) pgs_nil))))) (fun _ _ _ _ _ => pts_nil) (fun _ _ _ _ _ => (pe_joined (PJ.cons pe_str (PJ.cons (pe_fmt (pv 4)) (PJ.cons pe_str (PJ.cons (pe_fmt (pv 5)) (PJ.cons pe_str (PJ.cons (pe_fmt (pv 6)) PJ.nil))))))))))))), ?_⟩
  (try simp only [cxK])
  have hS : SOk K T.A (fun cls d _ H => E cls d H) (.o .s) [] (fun _ => True) _ [.s, .s, .s, .s, .s, .s, .s] [.s, .s, .s, .s, .s, .s, .s] B_scheme_rows := (s_seq (s_asT trivial (x_frz (x_meth (A := T.A) (c := 8) (w := (.f [.s, .s, (.o .s)])) (w1 := .s) (n := 1) (x_v rfl) a_nil rfl)) (tk_tup rfl (tks_cons (tk_n (fun _ h => nomatch h) rfl) (tks_cons (tk_n (fun _ h => nomatch h) rfl) (tks_cons (tk_n (fun _ h => nomatch h) rfl) tks_nil)))))
  (s_ret trivial (x_op (o_addL (w1 := (W.s)) (w2 := (W.s)) rfl rfl) (x_frz (x_lst (w := (.o .s)) rfl (a_cons (x_joined (.cons (w := .s) x_c (.cons (w := .s) (x_fmt (w1 := .s) (x_v rfl)) (.cons (w := .s) x_c (.cons (w := .s) (x_fmt (w1 := .s) (x_v rfl)) JOk.nil))))) a_nil))) (x_frz (x_lc (w := (.o .s)) (c := none) (i_list (U := (fun cls d _ H => E cls d H)) (x_v rfl)) rfl (fun _ => rfl) (tk_tup rfl (tks_cons (tk_n (fun _ h => by cases h; decide) rfl) (tks_cons (tk_n (fun _ h => by cases h; decide) rfl) (tks_cons (tk_n (fun _ h => by cases h; decide) rfl) tks_nil)))) rfl (x_joined (.cons (w := .s) x_c (.cons (w := .s) (x_fmt (w1 := .s) (x_v rfl)) (.cons (w := .s) x_c (.cons (w := .s) (x_fmt (w1 := .s) (x_v rfl)) (.cons (w := .s) x_c (.cons (w := .s) (x_fmt (w1 := .s) (x_v rfl)) JOk.nil))))))))))))
  exact run_X hS 7 rfl (fun j hj => match j, hj with | 0, _ => rfl | j + 1, h => absurd h (by omega))
end
end Q03

namespace Q03
open PySem PySem.Spec PyProof.Rows L2 FP PX
section
variable {P : Program} {w : World} {K : PySem.W.Frag} {mg : Str → Option Value} {base : Heap}
set_option maxHeartbeats 4000000 in
theorem ok_scheme_text (T : Txt K mg) : FnOk P w K mg base (L2.CX P w) 3 T.f_scheme_text T.fd_scheme_text ["scheme"] (spX K (rX T.A X_scheme_text (W.s) 1)) := by
  refine ok_ofX (N := ["scheme"]) T.F_scheme_text sc_scheme_text rX_len fun cdv A outer s H E hr => ⟨_, (pss_one (ps_ret (pe_joinK (K := K) rfl pe_str (pe_callS (ok_scheme_rows T) (hr.mono (by decide)) (by rfl) T.g_scheme_rows T.F_scheme_rows.kp T.b_scheme_rows (fun σ => passAt (takes_of rfl rfl rfl rfl) σ) (pa_cons (pv 0) pa_nil))))), ?_⟩
  (try simp only [cxK])
  have hS : SOk K T.A (fun cls d _ H => E cls d H) (W.s) [] (fun _ => True) _ [.s] [.s] B_scheme_text := (s_ret trivial (x_join (w1 := .s) x_c (x_frz (x_call (w := (.o .s)) (n := 1) (a_cons (x_v rfl) a_nil) rfl))))
  exact run_X hS 1 rfl (fun j hj => match j, hj with | 0, _ => rfl | j + 1, h => absurd h (by omega))
end
end Q03

namespace Q03
open PySem PySem.Spec PyProof.Rows L2 FP PX
section
variable {P : Program} {w : World} {K : PySem.W.Frag} {mg : Str → Option Value} {base : Heap}
set_option maxHeartbeats 4000000 in
theorem ok__law_rows (T : Txt K mg) : FnOk P w K mg base (L2.CX P w) 1 T.f__law_rows T.fd__law_rows ["_law_rows_here", "_law_columns", "_law_folds_here"] (spX K (rX T.A X__law_rows (W.s) 3)) := by
  refine ok_ofX (N := ["_law_rows_here", "_law_columns", "_law_folds_here", "_law_edge", "_law_many", "_law_way"]) T.F__law_rows sc__law_rows rX_len fun cdv A outer s H E hr => ⟨_, (pss_one (ps_ret (pe_op (op_plusK (K := K) rfl) (pe_lst (pa_cons (pe_lst (pa_cons pe_str (pa_cons (pe_callTy call_strI (by rfl) T.z_str (by decide +kernel) (pa_cons (pv 0) pa_nil)) (pa_cons (pe_callTy call_strI (by rfl) T.z_str (by decide +kernel) (pa_cons (pv 1) pa_nil)) pa_nil)))) pa_nil)) (pe_lc (own := [("_law_edge", 3), ("_law_many", 4), ("_law_way", 5)]) (by rfl) sc__law_rows.nd (pi_listK (K := K) rfl (pv 2)) (blkOk_by (own := [("_law_edge", 3), ("_law_many", 4), ("_law_way", 5)]) (N := ["_law_rows_here", "_law_columns", "_law_folds_here", "_law_edge", "_law_many", "_law_way"]) (sc := defScope s__law_rows) (by decide +kernel)) (fun _ _ _ _ _ => (pg_tupK (K := K) (n := 3) rfl rfl (pgs_cons (pg_name (i := 3) sc__law_rows.nd rfl (by first | exact Or.inl rfl | exact Or.inr rfl)) (pgs_cons (pg_name (i := 4) sc__law_rows.nd rfl (by first | exact Or.inl rfl | exact Or.inr rfl)) (pgs_cons (pg_name (i := 5) sc__law_rows.nd rfl (by first | exact Or.inl rfl | exact Or.inr rfl)) pgs_nil))))) (fun _ _ _ _ _ => pts_nil) (fun _ _ _ _ _ => (pe_lst (pa_cons pe_str (pa_cons (pv 3) (pa_cons (pe_callTy call_strI (by rfl) T.z_str (by decide +kernel) (pa_cons (pv 4) pa_nil)) (pa_cons (pv 5) pa_nil)))))))))), ?_⟩
  (try simp only [cxK])
  have hS : SOk K T.A (fun cls d _ H => E cls d H) (W.s) [] (fun _ => True) _ [.s, .s, .s, .s, .s, .s] [.s, .s, .s, .s, .s, .s] B__law_rows := (s_ret trivial (x_op o_add (x_frz (x_lst (w := (.o .s)) rfl (a_cons (x_frz (x_lst (w := (.o .s)) rfl (a_cons x_c (a_cons (x_cb (w1 := .s) c_str (a_cons (x_v rfl) a_nil)) (a_cons (x_cb (w1 := .s) c_str (a_cons (x_v rfl) a_nil)) a_nil))))) a_nil))) (x_frz (x_lc (w := (.o .s)) (c := none) (i_list (U := (fun cls d _ H => E cls d H)) (x_v rfl)) rfl (fun _ => rfl) (tk_tup rfl (tks_cons (tk_n (fun _ h => by cases h; decide) rfl) (tks_cons (tk_n (fun _ h => by cases h; decide) rfl) (tks_cons (tk_n (fun _ h => by cases h; decide) rfl) tks_nil)))) rfl (x_frz (x_lst (w := (.o .s)) rfl (a_cons x_c (a_cons (x_v rfl) (a_cons (x_cb (w1 := .s) c_str (a_cons (x_v rfl) a_nil)) (a_cons (x_v rfl) a_nil))))))))))
  exact run_X hS 6 rfl (fun j hj => match j, hj with | 0, _ => rfl | 1, _ => rfl | 2, _ => rfl | j + 3, h => absurd h (by omega))
end
end Q03

namespace Q03
open PySem PySem.Spec PyProof.Rows L2 FP PX
section
variable {P : Program} {w : World} {K : PySem.W.Frag} {mg : Str → Option Value} {base : Heap}
set_option maxHeartbeats 4000000 in
theorem ok__law_folds (T : Txt K mg) : FnOk P w K mg base (L2.CX P w) 2 T.f__law_folds T.fd__law_folds ["_law_rows_here", "_law_columns", "_law_cells", "_law_number"] (spX K (rX T.A X__law_folds (W.s) 4)) := by
  refine ok_ofX (N := ["_law_rows_here", "_law_columns", "_law_cells", "_law_number", "_law_folds_here", "_law_own", "_law_is_level", "_law_side", "_law_many", "_law_edge"]) T.F__law_folds sc__law_folds rX_len fun cdv A outer s H E hr => ⟨_, (pss_cons (ps_set (i := 4) sc__law_folds.nd rfl (by first | exact Or.inl rfl | exact Or.inr rfl) (pe_lst pa_nil))
      (pss_cons (ps_while (passes_of rfl) (pt_cmpR (op_neeK (K := K) rfl hr.units) (pe_tup (pa_cons (pv 0) (pa_cons (pv 1) pa_nil))) (pe_tup (pa_cons pe_int (pa_cons pe_int pa_nil))) (nomark _))
      (pss_cons (ps_set (i := 5) sc__law_folds.nd rfl (by first | exact Or.inl rfl | exact Or.inr rfl) (pe_op (op_plusK (K := K) rfl) (pe_callS (ok__law_mixed T) (hr.mono (by decide)) (by rfl) T.g__law_mixed T.F__law_mixed.kp T.b__law_mixed (fun σ => passAt (takes_of rfl rfl rfl rfl) σ) (pa_cons (pe_ix (ix_seqK (K := K) rfl) (pv 2) (pe_op op_md (pe_callB (call_lennK (K := K) rfl) (by rfl) T.z_len (by decide +kernel) (pa_cons (pv 4) pa_nil)) (pe_callB (call_lennK (K := K) rfl) (by rfl) T.z_len (by decide +kernel) (pa_cons (pv 2) pa_nil))) (fun _ _ => rfl)) (pa_cons (pe_op (op_plusK (K := K) rfl) pe_int (pe_callB (call_lennK (K := K) rfl) (by rfl) T.z_len (by decide +kernel) (pa_cons (pv 4) pa_nil))) pa_nil))) (pv 3)))
      (pss_cons (ps_set (i := 6) sc__law_folds.nd rfl (by first | exact Or.inl rfl | exact Or.inr rfl) (pe_andTK (K := K) rfl (pe_cmpR op_gtt (pv 0) pe_int (nomark _)) (pe_one (pe_orTK (K := K) rfl (pe_cmpR (op_eqqK (K := K) rfl hr.units) (pv 1) pe_int (nomark _)) (pe_one (pe_cmpR (op_eqqK (K := K) rfl hr.units) (pe_op op_md (pv 5) pe_int) pe_int (nomark _)))))))
      (pss_cons (ps_set (i := 7) sc__law_folds.nd rfl (by first | exact Or.inl rfl | exact Or.inr rfl) (pe_ifExp (pt_truthK (K := K) rfl (pv 6) (by intro _; rfl)) (pv 0) (pv 1)))
      (pss_cons (ps_set (i := 8) sc__law_folds.nd rfl (by first | exact Or.inl rfl | exact Or.inr rfl) (pe_ifExp (pt_cmpR (op_eqqK (K := K) rfl hr.units) (pe_op op_md (pe_op op_fd (pv 5) pe_int) pe_int) pe_int (nomark _)) (pe_op op_fd (pv 7) pe_int) (pe_op (op_plusK (K := K) rfl) pe_int (pe_op op_md (pe_op op_fd (pv 5) pe_int) (pe_op op_fd (pv 7) pe_int)))))
      (pss_cons (ps_set (i := 9) sc__law_folds.nd rfl (by first | exact Or.inl rfl | exact Or.inr rfl) (pe_ix (ix_seqK (K := K) rfl) (pe_ix (ix_seqK (K := K) rfl) (pe_lst (pa_cons (pe_lst (pa_cons pe_str (pa_cons pe_str pa_nil))) (pa_cons (pe_lst (pa_cons pe_str (pa_cons pe_str pa_nil))) pa_nil))) (pe_callTy call_intt (by rfl) T.z_int (by decide +kernel) (pa_cons (pv 6) pa_nil)) (fun _ _ => rfl)) (pe_op op_md (pe_op op_fd (pv 5) pe_int) pe_int) (fun _ _ => rfl)))
      (pss_cons (ps_expr (pe_bmK (K := K) rfl PySem.F.plainAttrs_list PySem.F.slot_list_append PySem.F.type_list_append mt_append (pv 4) (pa_cons (pe_tup (pa_cons (pv 9) (pa_cons (pv 8) (pa_cons (pe_ix (ix_seqK (K := K) rfl) (pe_lst (pa_cons pe_str (pa_cons pe_str pa_nil))) (pe_op op_md (pe_op op_fd (pv 5) pe_int) pe_int) (fun _ _ => rfl)) pa_nil)))) pa_nil)))
      (pss_one (ps_if (pt_truthK (K := K) rfl (pv 6) (by intro _; rfl))
      (pss_one (ps_set (i := 0) sc__law_folds.nd rfl (by first | exact Or.inl rfl | exact Or.inr rfl) (pe_op op_sb (pv 0) (pv 8)))) (pss_one (ps_set (i := 1) sc__law_folds.nd rfl (by first | exact Or.inl rfl | exact Or.inr rfl) (pe_op op_sb (pv 1) (pv 8)))))))))))))
      (pss_one (ps_ret (pv 4))))), ?_⟩
  (try simp only [cxK])
  have hS : SOk K T.A (fun cls d _ H => E cls d H) (W.s) [] (fun _ => True) _ [.s, .s, .s, .s, (.o .s), .s, .s, .s, .s, .s] [.s, .s, .s, .s, (.o .s), .s, .s, .s, .s, .s] B__law_folds := (s_seq (s_setK trivial (x_lst (w := (.o .s)) rfl a_nil) rfl)
  (s_seq (s_while (t_test (w := .s) (x_op (w1 := .s) (w2 := .s) o_ne (x_frz (x_tup (w := (.o .s)) rfl (a_cons (x_v rfl) (a_cons (x_v rfl) a_nil)))) (x_frz (x_tup (w := (.o .s)) rfl (a_cons x_c (a_cons x_c a_nil))))))
  (s_fgR [5, 6, 7, 8, 9] (s_seq (s_setK trivial (x_op o_add (x_call (w := (W.s)) (n := 2) (a_cons (x_op (w2 := .s) (o_ix (w1 := .s) (fun _ => rfl)) (x_v rfl) (x_sc (x_op (w1 := .s) (w2 := .s) o_md (x_cb (w1 := .s) c_len (a_cons (x_v rfl) a_nil)) (x_cb (w1 := .s) c_len (a_cons (x_v rfl) a_nil))))) (a_cons (x_sc (x_op o_add x_c (x_cb (w1 := .s) c_len (a_cons (x_v rfl) a_nil)))) a_nil)) rfl) (x_v rfl)) rfl)
  (s_seq (s_setK trivial (x_and (x_op (w1 := .s) (w2 := .s) o_gt (x_v rfl) x_c) (x_or (x_op (w1 := .s) (w2 := .s) o_eq (x_v rfl) x_c) (x_op (w1 := .s) (w2 := .s) o_eq (x_op (w1 := .s) (w2 := .s) o_md (x_v rfl) x_c) x_c))) rfl)
  (s_seq (s_setK trivial (x_if (t_tru (w := .s) (x_v rfl)) (x_v rfl) (x_v rfl)) rfl)
  (s_seq (s_setK trivial (x_if (t_test (w := .s) (x_op (w1 := .s) (w2 := .s) o_eq (x_op (w1 := .s) (w2 := .s) o_md (x_op (w1 := .s) (w2 := .s) o_fd (x_v rfl) x_c) x_c) x_c)) (x_op (w1 := .s) (w2 := .s) o_fd (x_v rfl) x_c) (x_op o_add x_c (x_op (w1 := .s) (w2 := .s) o_md (x_op (w1 := .s) (w2 := .s) o_fd (x_v rfl) x_c) (x_op (w1 := .s) (w2 := .s) o_fd (x_v rfl) x_c)))) rfl)
  (s_seq (s_setK trivial (x_op (w2 := .s) (o_ix (w1 := .s) (fun _ => rfl)) (x_op (w2 := .s) (o_ix (w1 := .s) (fun _ => rfl)) (x_frz (x_lst (w := (.o .s)) rfl (a_cons (x_frz (x_lst (w := (.o .s)) rfl (a_cons x_c (a_cons x_c a_nil)))) (a_cons (x_frz (x_lst (w := (.o .s)) rfl (a_cons x_c (a_cons x_c a_nil)))) a_nil)))) (x_cb (w1 := .s) c_int (a_cons (x_v rfl) a_nil))) (x_op (w1 := .s) (w2 := .s) o_md (x_op (w1 := .s) (w2 := .s) o_fd (x_v rfl) x_c) x_c)) rfl)
  (s_seq (s_chg rfl pt_var (a_cons (x_frz (x_tup (w := (.o .s)) rfl (a_cons (x_v rfl) (a_cons (x_v rfl) (a_cons (x_op (w2 := .s) (o_ix (w1 := .s) (fun _ => rfl)) (x_frz (x_lst (w := (.o .s)) rfl (a_cons x_c (a_cons x_c a_nil)))) (x_op (w1 := .s) (w2 := .s) o_md (x_op (w1 := .s) (w2 := .s) o_fd (x_v rfl) x_c) x_c)) a_nil))))) a_nil) (fun π hl _ ho => match π, hl, ho with | [], _, _ => g_append (fun _ => rfl)))
  (s_if trivial (t_tru (w := .s) (x_v rfl))
  (s_setK trivial (x_op (w1 := .s) (w2 := .s) o_sub (x_v rfl) (x_v rfl)) rfl) (s_setK trivial (x_op (w1 := .s) (w2 := .s) o_sub (x_v rfl) (x_v rfl)) rfl)))))))) (by walk_at "fg")))
  (s_frz 4 (s_ret trivial (x_v rfl)))))
  exact run_X hS 10 rfl (fun j hj => match j, hj with | 0, _ => rfl | 1, _ => rfl | 2, _ => rfl | 3, _ => rfl | j + 4, h => absurd h (by omega))
end
end Q03

namespace Q03
open PySem PySem.Spec PyProof.Rows L2 FP PX
section
variable {P : Program} {w : World} {K : PySem.W.Frag} {mg : Str → Option Value} {base : Heap}
set_option maxHeartbeats 4000000 in
theorem ok__law_size (T : Txt K mg) : FnOk P w K mg base (L2.CX P w) 1 T.f__law_size T.fd__law_size ["_law_number"] (spX K (rX T.A X__law_size (W.s) 1)) := by
  refine ok_ofX (N := ["_law_number", "_law_rows_here", "_law_columns"]) T.F__law_size sc__law_size rX_len fun cdv A outer s H E hr => ⟨_, (pss_cons (ps_set (i := 1) sc__law_size.nd rfl (by first | exact Or.inl rfl | exact Or.inr rfl) (pe_op (op_plusK (K := K) rfl) pe_int (pe_op op_md (pv 0) pe_int)))
      (pss_cons (ps_set (i := 2) sc__law_size.nd rfl (by first | exact Or.inl rfl | exact Or.inr rfl) (pe_op (op_plusK (K := K) rfl) pe_int (pe_op op_md (pe_op op_fd (pv 0) pe_int) pe_int)))
      (pss_one (ps_ret (pe_ifExp (pt_cmpR (op_eqqK (K := K) rfl hr.units) (pe_op op_md (pe_op op_fd (pv 0) pe_int) pe_int) pe_int (nomark _)) (pe_tup (pa_cons (pv 1) (pa_cons (pe_callB (call_minnK (K := K) rfl rfl) (by rfl) T.z_min (by decide +kernel) (pa_cons (pv 2) (pa_cons (pe_op op_fd pe_int (pv 1)) pa_nil))) pa_nil))) (pe_tup (pa_cons (pe_callB (call_minnK (K := K) rfl rfl) (by rfl) T.z_min (by decide +kernel) (pa_cons (pv 1) (pa_cons pe_int pa_nil))) (pa_cons (pe_callB (call_minnK (K := K) rfl rfl) (by rfl) T.z_min (by decide +kernel) (pa_cons (pv 2) (pa_cons pe_int pa_nil))) pa_nil)))))))), ?_⟩
  (try simp only [cxK])
  have hS : SOk K T.A (fun cls d _ H => E cls d H) (W.s) [] (fun _ => True) _ [.s, .s, .s] [.s, .s, .s] B__law_size := (s_seq (s_setK trivial (x_op o_add x_c (x_op (w1 := .s) (w2 := .s) o_md (x_v rfl) x_c)) rfl)
  (s_seq (s_setK trivial (x_op o_add x_c (x_op (w1 := .s) (w2 := .s) o_md (x_op (w1 := .s) (w2 := .s) o_fd (x_v rfl) x_c) x_c)) rfl)
  (s_ret trivial (x_if (t_test (w := .s) (x_op (w1 := .s) (w2 := .s) o_eq (x_op (w1 := .s) (w2 := .s) o_md (x_op (w1 := .s) (w2 := .s) o_fd (x_v rfl) x_c) x_c) x_c)) (x_frz (x_tup (w := (.o .s)) rfl (a_cons (x_v rfl) (a_cons (x_cb (w1 := .s) c_min (a_cons (x_v rfl) (a_cons (x_op (w1 := .s) (w2 := .s) o_fd x_c (x_v rfl)) a_nil))) a_nil)))) (x_frz (x_tup (w := (.o .s)) rfl (a_cons (x_cb (w1 := .s) c_min (a_cons (x_v rfl) (a_cons x_c a_nil))) (a_cons (x_cb (w1 := .s) c_min (a_cons (x_v rfl) (a_cons x_c a_nil))) a_nil))))))))
  exact run_X hS 3 rfl (fun j hj => match j, hj with | 0, _ => rfl | j + 1, h => absurd h (by omega))
end
end Q03

namespace Q03
open PySem PySem.Spec PyProof.Rows L2 FP PX
section
variable {P : Program} {w : World} {K : PySem.W.Frag} {mg : Str → Option Value} {base : Heap}
set_option maxHeartbeats 4000000 in
theorem ok__law_scheme (T : Txt K mg) : FnOk P w K mg base (L2.CX P w) 3 T.f__law_scheme T.fd__law_scheme ["_law_script", "_law_k"] (spX K (rX T.A X__law_scheme (W.s) 2)) := by
  refine ok_ofX (N := ["_law_script", "_law_k", "_law_cells", "_law_whole", "_law_rows_here", "_law_columns"]) T.F__law_scheme sc__law_scheme rX_len fun cdv A outer s H E hr => ⟨_, (pss_cons (ps_set (i := 2) sc__law_scheme.nd rfl (by first | exact Or.inl rfl | exact Or.inr rfl) (pe_op (op_plusK (K := K) rfl) (pe_slice (sl_anyK (K := K) rfl) (pv 0) po_none (po_some pe_int)) (pe_lst (pa_cons (pe_op (op_plusK (K := K) rfl) (pe_callB (cr_sumK (K := K) rfl rfl) (by rfl) T.z_sum (by decide +kernel) (pa_cons (pv 0) pa_nil)) (pe_callB (call_lennK (K := K) rfl) (by rfl) T.z_len (by decide +kernel) (pa_cons (pv 0) pa_nil))) pa_nil))))
      (pss_cons (ps_set (i := 3) sc__law_scheme.nd rfl (by first | exact Or.inl rfl | exact Or.inr rfl) (pe_callS (ok__law_mixed T) (hr.mono (by decide)) (by rfl) T.g__law_mixed T.F__law_mixed.kp T.b__law_mixed (fun σ => passAt (takes_of rfl rfl rfl rfl) σ) (pa_cons (pe_callB (cr_sumK (K := K) rfl rfl) (by rfl) T.z_sum (by decide +kernel) (pa_cons (pv 2) pa_nil)) (pa_cons (pv 1) pa_nil))))
      (pss_cons (ps_asg (pe_callS (ok__law_size T) (hr.mono (by decide)) (by rfl) T.g__law_size T.F__law_size.kp T.b__law_size (fun σ => passAt (takes_of rfl rfl rfl rfl) σ) (pa_cons (pv 3) pa_nil)) (pg_tupK (K := K) (n := 2) rfl rfl (pgs_cons (pg_name (i := 4) sc__law_scheme.nd rfl (by first | exact Or.inl rfl | exact Or.inr rfl)) (pgs_cons (pg_name (i := 5) sc__law_scheme.nd rfl (by first | exact Or.inl rfl | exact Or.inr rfl)) pgs_nil))))
      (pss_one (ps_ret (pe_tup (pa_cons (pv 4) (pa_cons (pv 5) (pa_cons (pe_callS (ok__law_folds T) (hr.mono (by decide)) (by rfl) T.g__law_folds T.F__law_folds.kp T.b__law_folds (fun σ => passAt (takes_of rfl rfl rfl rfl) σ) (pa_cons (pv 4) (pa_cons (pv 5) (pa_cons (pv 2) (pa_cons (pe_op op_fd (pv 3) pe_int) pa_nil))))) pa_nil))))))))), ?_⟩
  (try simp only [cxK])
  have hS : SOk K T.A (fun cls d _ H => E cls d H) (W.s) [] (fun _ => True) _ [.s, .s, .s, .s, .s, .s] [.s, .s, .s, .s, .s, .s] B__law_scheme := (s_seq (s_setK trivial (x_op o_add (x_frz (x_slc (w1 := .s) (fun _ => rfl) (x_v rfl) p_none (p_some (U := (fun cls d _ H => E cls d H)) x_c))) (x_frz (x_lst (w := (.o .s)) rfl (a_cons (x_op o_add (x_cb (w1 := .s) c_sum (a_cons (x_v rfl) a_nil)) (x_cb (w1 := .s) c_len (a_cons (x_v rfl) a_nil))) a_nil)))) rfl)
  (s_seq (s_setK trivial (x_call (w := (W.s)) (n := 2) (a_cons (x_cb (w1 := .s) c_sum (a_cons (x_v rfl) a_nil)) (a_cons (x_v rfl) a_nil)) rfl) rfl)
  (s_seq (s_asT trivial (x_call (w := (W.s)) (n := 1) (a_cons (x_v rfl) a_nil) rfl) (tk_tup rfl (tks_cons (tk_n (fun _ h => nomatch h) rfl) (tks_cons (tk_n (fun _ h => nomatch h) rfl) tks_nil))))
  (s_ret trivial (x_frz (x_tup (w := (.o .s)) rfl (a_cons (x_v rfl) (a_cons (x_v rfl) (a_cons (x_call (w := (W.s)) (n := 4) (a_cons (x_v rfl) (a_cons (x_v rfl) (a_cons (x_v rfl) (a_cons (x_op (w1 := .s) (w2 := .s) o_fd (x_v rfl) x_c) a_nil)))) rfl) a_nil)))))))))
  exact run_X hS 6 rfl (fun j hj => match j, hj with | 0, _ => rfl | 1, _ => rfl | j + 2, h => absurd h (by omega))
end
end Q03

namespace PX
open PySem PySem.Spec PyProof.Rows L2 FP

/-! ### the program's schemes: what its functions come to -/
inductive Ed where
  | left | right | top | bottom
  deriving DecidableEq
def Ed.s : Ed → Str
  | .left => "left"
  | .right => "right"
  | .top => "top"
  | .bottom => "bottom"
def Ed.lev : Ed → Bool
  | .top => true
  | .bottom => true
  | _ => false
structure Fold where
  e : Ed
  m : Int
  o : Bool
def wayS (o : Bool) : Str := if o = true then "over" else "under"
def Fold.p (f : Fold) : P := .tup [.str f.e.s, .int f.m, .str (wayS f.o)]
def intP : P → Option Int
  | .sc (.int i) => some i
  | _ => none
def strP : P → Option Str
  | .sc (.str s) => some s
  | _ => none
/-- kinds that isinstance knows -/
def Kn (p : P) : Prop := tyP p ≠ ""

@[simp] theorem tyP_int {i : Int} : tyP (.sc (.int i)) = "int" := by rw [tyP]
@[simp] theorem tyP_bl {i : Bool} : tyP (.sc (.bl i)) = "bool" := by rw [tyP]
@[simp] theorem tyP_str {i : Str} : tyP (.sc (.str i)) = "str" := by rw [tyP]
@[simp] theorem tyP_non : tyP (.sc .non) = "NoneType" := by rw [tyP]
@[simp] theorem tyP_lst {ps : List P} : tyP (.lst ps) = "list" := by rw [tyP]
@[simp] theorem tyP_tup {ps : List P} : tyP (.tup ps) = "tuple" := by rw [tyP]
@[simp] theorem tyP_dK {ks : List Key} {ps : List P} : tyP (.dK ks ps) = "dict" := by rw [tyP]
@[simp] theorem Kn_int {i : Int} : Kn (.sc (.int i)) := by simp [Kn]
@[simp] theorem Kn_bl {i : Bool} : Kn (.sc (.bl i)) := by simp [Kn]
@[simp] theorem Kn_str {i : Str} : Kn (.sc (.str i)) := by simp [Kn]
@[simp] theorem Kn_non : Kn (.sc .non) := by simp [Kn]
@[simp] theorem Kn_lst {ps : List P} : Kn (.lst ps) := by simp [Kn]
@[simp] theorem Kn_tup {ps : List P} : Kn (.tup ps) := by simp [Kn]
@[simp] theorem Kn_dK {ks : List Key} {ps : List P} : Kn (.dK ks ps) := by simp [Kn]
@[simp] theorem intP_int {i : Int} : intP (.sc (.int i)) = some i := rfl
@[simp] theorem strP_str {s : Str} : strP (.sc (.str s)) = some s := rfl
theorem isi_int {p : P} (h : Kn p) : qIsi [p, .ty "int"] = some (.bl ((intP p).isSome || tyP p == "bool")) := by
  cases p with
  | sc x => cases x <;> first | rfl | exact absurd rfl h
  | _ => first | rfl | exact absurd rfl h
theorem isi_bool {p : P} (h : Kn p) : qIsi [p, .ty "bool"] = some (.bl (tyP p == "bool")) := by
  cases p with
  | sc x => cases x <;> first | rfl | exact absurd rfl h
  | _ => first | rfl | exact absurd rfl h
theorem isi_str {p : P} (h : Kn p) : qIsi [p, .ty "str"] = some (.bl (strP p).isSome) := by
  cases p with
  | sc x => cases x <;> first | rfl | exact absurd rfl h
  | _ => first | rfl | exact absurd rfl h
theorem isi_list {p : P} (h : Kn p) : qIsi [p, .ty "list"] = some (.bl (tyP p == "list")) := by
  cases p with
  | sc x => cases x <;> first | rfl | exact absurd rfl h
  | _ => first | rfl | exact absurd rfl h
theorem isi_tuple {p : P} (h : Kn p) : qIsi [p, .ty "tuple"] = some (.bl (tyP p == "tuple")) := by
  cases p with
  | sc x => cases x <;> first | rfl | exact absurd rfl h
  | _ => first | rfl | exact absurd rfl h
theorem whole_eq {p : P} (h : Kn p) : X_is_whole [p] = ret (.bl (intP p).isSome) := by
  simp [X_is_whole, B_is_whole, xDef, start0, isi_int h, isi_bool h]
  cases p with
  | sc x => cases x <;> simp [intP, tyP]
  | _ => simp [intP, tyP]
theorem among_eq {p : P} (h : Kn p) (a b : Int) : X_is_among [p, .int a, .int b] = ret (.bl (match intP p with | some i => decide (a ≤ i) && decide (i ≤ b) | none => false)) := by
  simp [X_is_among, B_is_among, xDef, start0, whole_eq h]
  cases hp : intP p with
  | none => simp
  | some i =>
    have : p = .int i := by
      unfold intP at hp
      split at hp <;> simp_all
    subst this
    simp [xChn]
    by_cases h1 : a ≤ i <;> simp [h1]

theorem scs_strs : ∀ ws : List Str, scs (ws.map P.str) = some (ws.map V.str)
  | [] => rfl
  | w :: ws => by
    rw [List.map_cons, scs, scs_strs ws]
    rfl
theorem inV_strs (x : Str) (ws : List Str) : inV (.str x) (ws.map V.str) = decide (x ∈ ws) := by
  unfold inV
  rw [List.any_map]
  induction ws with
  | nil => simp
  | cons w ws ih =>
    rw [List.any_cons, ih]
    simp [eqV]
    by_cases h : x = w
    · simp [h]
    · have : (w == x) = false := by rw [beq_eq_false_iff_ne]; exact Ne.symm h
      simp [h, this]
theorem in_strs (x : Str) (ws : List Str) : qIn (.str x) (ktP ws) = some (.bl (decide (x ∈ ws))) := by
  rw [show qIn (.str x) (ktP ws) = (match scs (ws.map P.str) with | some xs => if flatV (.str x) = true ∧ xs.all flatV = true then some (inV (.str x) xs) else none | none => none).map fun b => P.bl b from rfl, scs_strs]
  simp [flatV, inV_strs]
theorem in_strsL (x : Str) (ws : List Str) : qIn (.str x) (.lst (ws.map P.str)) = some (.bl (decide (x ∈ ws))) := by
  rw [show qIn (.str x) (.lst (ws.map P.str)) = (match scs (ws.map P.str) with | some xs => if flatV (.str x) = true ∧ xs.all flatV = true then some (inV (.str x) xs) else none | none => none).map fun b => P.bl b from rfl, scs_strs]
  simp [flatV, inV_strs]
theorem word_eq {p : P} (h : Kn p) (ws : List Str) : X_is_word_of [p, ktP ws] = ret (.bl (match strP p with | some s => decide (s ∈ ws) | none => false)) := by
  simp [X_is_word_of, B_is_word_of, xDef, start0, isi_str h]
  cases hp : strP p with
  | none => simp
  | some s =>
    have : p = .str s := by
      unfold strP at hp
      split at hp <;> simp_all
    subst this
    simp [in_strs]

def edOf (s : Str) : Option Ed := if s = "left" then some .left else if s = "right" then some .right else if s = "top" then some .top else if s = "bottom" then some .bottom else none
def wayOf (s : Str) : Option Bool := if s = "over" then some true else if s = "under" then some false else none
/-- the fold that a thing is -/
def foldOf : P → Option Fold
  | .tup [x, y, z] => match strP x with
    | some s => match edOf s with
      | some e => match intP y with
        | some m => if 1 ≤ m then match strP z with
            | some t => match wayOf t with
              | some o => some ⟨e, m, o⟩
              | none => none
            | none => none
          else none
        | none => none
      | none => none
    | none => none
  | _ => none
/-- a thing of which isinstance is asked, and its three items -/
def Kn3 (p : P) : Prop := Kn p ∧ ∀ x y z, p = .tup [x, y, z] → Kn x ∧ Kn y ∧ Kn z
abbrev edges : List Str := ["left", "right", "top", "bottom"]
abbrev ways : List Str := ["over", "under"]
theorem edOf_isSome (s : Str) : (edOf s).isSome = (decide (s = "left") || (decide (s = "right") || (decide (s = "top") || decide (s = "bottom")))) := by
  unfold edOf
  by_cases h1 : s = "left"
  · simp [h1]
  · by_cases h2 : s = "right"
    · simp [h2]
    · by_cases h3 : s = "top"
      · simp [h3]
      · by_cases h4 : s = "bottom"
        · simp [h4]
        · simp [h1, h2, h3, h4]
theorem wayOf_isSome (s : Str) : (wayOf s).isSome = (decide (s = "over") || decide (s = "under")) := by
  unfold wayOf
  by_cases h1 : s = "over"
  · simp [h1]
  · by_cases h2 : s = "under"
    · simp [h2]
    · simp [h1, h2]
theorem is_fold_eq {p : P} (h : Kn3 p) : X__is_fold [p] = ret (.bl (foldOf p).isSome) := by
  obtain ⟨h1, h3⟩ := h
  simp [X__is_fold, B__is_fold, xDef, start0, isi_tuple h1]
  cases p with
  | tup ps =>
    match ps with
    | [x, y, z] =>
      obtain ⟨a, b, c⟩ := h3 x y z rfl
      simp [tyP, word_eq a edges, word_eq c ways, whole_eq b, foldOf]
      cases hx : strP x with
      | none => simp
      | some s =>
        simp only [← edOf_isSome]
        cases he : edOf s with
        | none => simp
        | some e =>
          simp
          cases hy : intP y with
          | none => simp
          | some m =>
            have : y = .int m := by
              unfold intP at hy
              split at hy <;> simp_all
            subst this
            simp
            by_cases hm : 1 ≤ m
            · simp [hm]
              cases hz : strP z with
              | none => simp
              | some t =>
                simp only [← wayOf_isSome]
                cases wayOf t <;> simp
            · simp [hm]
    | [] => simp [tyP, foldOf]
    | [_] => simp [tyP, foldOf]
    | [_, _] => simp [tyP, foldOf]
    | x :: y :: z :: u :: l =>
      have : ¬ ((l.length : Int) + 1 + 1 + 1 + 1 = 3) := by omega
      simp [tyP, foldOf, this]
  | sc x => cases x <;> simp [tyP, foldOf]
  | _ => simp [tyP, foldOf]
def after (r c : Int) (f : Fold) : Option (Int × Int) := if f.e.lev = true then (if 2 * f.m ≤ r then some (r - f.m, c) else none) else if 2 * f.m ≤ c then some (r, c - f.m) else none
def afterP (r c : Int) (p : P) : Option (Int × Int) := (foldOf p).bind (after r c)
def sizeP : Option (Int × Int) → P
  | some (r, c) => .tup [.int r, .int c]
  | none => .non
theorem foldOf_shape {p : P} {f : Fold} (h : foldOf p = some f) : p = f.p ∧ 1 ≤ f.m := by
  unfold foldOf at h
  split at h
  · rename_i x y z
    split at h
    case h_2 => cases h
    rename_i s hs
    split at h
    case h_2 => cases h
    rename_i e he
    split at h
    case h_2 => cases h
    rename_i m hm
    by_cases h1 : 1 ≤ m
    case neg => rw [if_neg h1] at h; cases h
    rw [if_pos h1] at h
    split at h
    case h_2 => cases h
    rename_i t ht
    split at h
    case h_2 => cases h
    rename_i o ho
    cases h
    have ex : x = .str s := by unfold strP at hs; split at hs <;> simp_all
    have ez : z = .str t := by unfold strP at ht; split at ht <;> simp_all
    have ey : y = .int m := by unfold intP at hm; split at hm <;> simp_all
    subst ex ey ez
    refine ⟨?_, h1⟩
    unfold Fold.p
    have e1 : s = e.s := by
      unfold edOf at he
      repeat' (split at he <;> try cases he)
      all_goals (rename_i h _; first | exact h | simp_all [Ed.s])
    have e2 : t = wayS o := by
      unfold wayOf at ho
      repeat' (split at ho <;> try cases ho)
      all_goals simp_all [wayS]
    rw [e1, e2]
  · cases h
theorem foldOf_p (f : Fold) (h : 1 ≤ f.m) : foldOf f.p = some f := by
  obtain ⟨e, m, o⟩ := f
  unfold Fold.p foldOf
  cases e <;> cases o <;> simp [strP, intP, edOf, wayOf, Ed.s, wayS] <;> exact h

theorem mulOk_small {a b : Int} (h : -1000 ≤ a ∧ a ≤ 1000) : mulOk a b := .inl (by omega)
theorem mulOk_small2 {b : Int} : mulOk 2 b := .inl (by omega)
theorem lev_mem (e : Ed) : qIn (.str e.s) (ktP ["top", "bottom"]) = some (.bl e.lev) := by
  rw [in_strs]
  cases e <;> simp [Ed.s, Ed.lev]
theorem size_after_eq {p : P} (h : Kn3 p) (r c : Int) : X_size_after [.int r, .int c, p] = ret (sizeP (afterP r c p)) := by
  simp [X_size_after, B_size_after, xDef, start0, is_fold_eq h]
  cases hf : foldOf p with
  | none => simp [afterP, hf, sizeP]
  | some f =>
    obtain ⟨rfl, h1⟩ := foldOf_shape hf
    have m2 : mulOk 2 f.m := mulOk_small2
    have fp : foldOf (.tup [.str f.e.s, .int f.m, .str (wayS f.o)]) = some f := foldOf_p f h1
    simp [Fold.p, lev_mem, afterP, fp, after]
    cases f.e.lev <;> simp [m2]
    · by_cases h2 : 2 * f.m ≤ c <;> simp [h2, sizeP]
    · by_cases h2 : 2 * f.m ≤ r <;> simp [h2, sizeP]
/-- sizes of a sheet, of anything -/
def okSize (p q : P) : Bool := match intP p, intP q with
  | some r, some c => decide (1 ≤ r) && decide (r ≤ 8) && (decide (1 ≤ c) && decide (c ≤ 8)) && decide (r * c ≤ 32)
  | _, _ => false
theorem intP_some {p : P} {i : Int} (h : intP p = some i) : p = .int i := by
  unfold intP at h
  split at h <;> simp_all
theorem is_size_eq {p q : P} (hp : Kn p) (hq : Kn q) : X_is_size [p, q] = ret (.bl (okSize p q)) := by
  have h1 := among_eq hp 1 8
  have h2 := among_eq hq 1 8
  cases e1 : intP p with
  | none =>
    rw [e1] at h1
    simp [X_is_size, B_is_size, xDef, start0, h1, okSize, e1]
  | some r =>
    obtain rfl := intP_some e1
    rw [e1] at h1
    cases hb : (decide (1 ≤ r) && decide (r ≤ 8)) with
    | false =>
      simp only [hb] at h1
      simp only [X_is_size, B_is_size, xDef, start0, okSize, e1, hb]
      cases intP q <;> simp [h1]
      intro a b
      simp [a, b] at hb
    | true =>
      simp only [hb] at h1
      cases e2 : intP q with
      | none =>
        rw [e2] at h2
        simp [X_is_size, B_is_size, xDef, start0, h1, h2, okSize, e1, e2]
      | some c =>
        obtain rfl := intP_some e2
        rw [e2] at h2
        simp only [okSize, e1, e2, hb, Bool.true_and]
        cases hb' : (decide (1 ≤ c) && decide (c ≤ 8)) with
        | false =>
          simp only [hb'] at h2
          simp [X_is_size, B_is_size, xDef, start0, h1, h2]
        | true =>
          simp only [hb'] at h2
          have : 1 ≤ r ∧ r ≤ 8 := by simpa using hb
          have m : mulOk r c := mulOk_small (by omega)
          simp [X_is_size, B_is_size, xDef, start0, h1, h2, m]
/-- folds one by one, from the k-th on: the number of the first one that can't be, or what is left -/
def runF : Int → Int → Int → List P → Except Int (Int × Int)
  | _, r, c, [] => .ok (r, c)
  | k, r, c, p :: ps => match afterP r c p with
    | some (r', c') => runF (k + 1) r' c' ps
    | none => .error k
def wrongF (r c : Int) (ps : List P) : Option Int := match runF 1 r c ps with
  | .error k => some k
  | .ok s => if s = (1, 1) then none else some (ps.length + 1)
def natP : Option Int → P
  | some k => .int k
  | none => .non
theorem ne_pair (r c : Int) : qNe (.tup [.int r, .int c]) (.tup [.int 1, .int 1]) = some (.bl !decide ((r, c) = (1, 1))) := by
  rw [qNe_tup, fit2_eq (fitP_tup (by simp)) (fitP_tup (by simp))]
  simp
theorem first_wrong_loop (r c : Int) (ps : List P) : ∀ (qs : List P) (k : Int) (r' c' : Int), (∀ p ∈ qs, Kn3 p) → forL (tkT [(tkN 4), (tkN 5)]) L_first_wrong_fold_1 (enumP k qs) [some (.int r), some (.int c), some (.lst ps), some (.tup [.int r', .int c']), none, none] =
      match runF k r' c' qs with
      | .error n => some (.rt (.int n))
      | .ok (a, b) => some (.nx [some (.int r), some (.int c), some (.lst ps), some (.tup [.int a, .int b]), none, none])
  | [], k, r', c', _ => by simp [enumP_nil, runF]
  | q :: qs, k, r', c', hk => by
    have ih := first_wrong_loop r c ps qs (k + 1)
    rw [enumP_cons, forL_cons]
    simp [L_first_wrong_fold_1, size_after_eq (hk q List.mem_cons_self), atI, ixN]
    rw [runF]
    cases ha : afterP r' c' q with
    | none => simp [sizeP, isNoP]
    | some s =>
      obtain ⟨a, b⟩ := s
      simp [sizeP, isNoP]
      exact ih a b fun p hp => hk p (List.mem_cons_of_mem _ hp)
theorem first_wrong_eq (r c : Int) (ps : List P) (h : ∀ p ∈ ps, Kn3 p) : X_first_wrong_fold [.int r, .int c, .lst ps] = ret (natP (wrongF r c ps)) := by
  simp [X_first_wrong_fold, B_first_wrong_fold, xDef, start0, first_wrong_loop r c ps ps 1 r c h, wrongF]
  cases hr : runF 1 r c ps with
  | error n => simp [natP]
  | ok s =>
    obtain ⟨a, b⟩ := s
    by_cases h1 : a = 1 ∧ b = 1
    · simp [h1, natP]
    · by_cases h2 : a = 1
      · have h3 : ¬ b = 1 := fun h => h1 ⟨h2, h⟩
        simp [natP, h2, h3]
      · simp [natP, h2]

/-- a scheme -/
def schP (r c : Int) (ps : List P) : P := .ins 8 ["_rows", "_columns", "_folds"] [.int r, .int c, .tup ps]
theorem told_eq (r c : Int) (ps : List P) : X_Scheme_told [schP r c ps] = ret (.tup [.int r, .int c, .lst ps]) := by
  simp [X_Scheme_told, B_Scheme_told, xDef, start0, schP]
theorem mk_at {i : Int} (h0 : 0 ≤ i) (h1 : i < 1000000000) : mk_BadScheme [.int i] = some (fsAt i) := by
  simp [mk_BadScheme, h0, h1]
theorem runF_ok {ps : List P} : ∀ {k r c a b : Int}, runF k r c ps = .ok (a, b) → ∀ p ∈ ps, ∃ f, foldOf p = some f := by
  induction ps with
  | nil => intro k r c a b _ p hp; cases hp
  | cons q ps ih =>
    intro k r c a b h p hp
    rw [runF] at h
    cases ha : afterP r c q with
    | none => rw [ha] at h; cases h
    | some s =>
      obtain ⟨x, y⟩ := s
      rw [ha] at h
      rcases List.mem_cons.mp hp with rfl | hp
      · unfold afterP at ha
        cases hf : foldOf p with
        | none => rw [hf] at ha; cases ha
        | some f => exact ⟨f, rfl⟩
      · exact ih h p hp
theorem runF_er {ps : List P} : ∀ {k r c n : Int}, runF k r c ps = .error n → k ≤ n ∧ n < k + ps.length := by
  induction ps with
  | nil => intro k r c n h; cases h
  | cons q ps ih =>
    intro k r c n h
    rw [runF] at h
    cases ha : afterP r c q with
    | none =>
      rw [ha] at h
      cases h
      simp
      omega
    | some s =>
      obtain ⟨x, y⟩ := s
      rw [ha] at h
      have := ih h
      simp
      omega
theorem wrongF_bound {r c : Int} {ps : List P} {k : Int} (h : wrongF r c ps = some k) : 1 ≤ k ∧ k ≤ ps.length + 1 := by
  unfold wrongF at h
  cases hr : runF 1 r c ps with
  | error n =>
    rw [hr] at h
    have := runF_er hr
    cases h
    omega
  | ok s =>
    rw [hr] at h
    simp only at h
    split at h
    · cases h
    · cases h
      omega
theorem scheme_ok (r c : Int) (ps : List P) (h : ∀ p ∈ ps, Kn3 p) (hl : ps.length ≤ 100000) (hs : okSize (.int r) (.int c) = true) (hw : wrongF r c ps = none) : X_Scheme___init__ [.int r, .int c, .lst ps] = ret (schP r c ps) := by
  have hm : ∀ p ∈ ps, ∃ f, foldOf p = some f := by
    unfold wrongF at hw
    cases hr : runF 1 r c ps with
    | error n => rw [hr] at hw; cases hw
    | ok s => exact runF_ok hr
  have hlc : ∀ ρ : PEnv, ρ = [some (.ins 8 ["_rows", "_columns"] [.int r, .int c]), some (.int r), some (.int c), some (.lst ps), some .non, none, none, none] → lcL (lcStep (tkT [(tkN 5), (tkN 6), (tkN 7)]) none (xTup [(xV 5), (xV 6), (xV 7)]) ρ) ps = some ps := fun ρ hρ => by
    subst hρ
    have := lcL_map (fun p : P => p) (fun p => p) (f := lcStep (tkT [(tkN 5), (tkN 6), (tkN 7)]) none (xTup [(xV 5), (xV 6), (xV 7)]) [some (.ins 8 ["_rows", "_columns"] [.int r, .int c]), some (.int r), some (.int c), some (.lst ps), some .non, none, none, none]) ps fun p hp => by
      obtain ⟨f, hf⟩ := hm p hp
      obtain ⟨rfl, _⟩ := foldOf_shape hf
      exact step_none (by simp [Fold.p]; rfl) (by simp [Fold.p])
    simpa using this
  simp [X_Scheme___init__, B_Scheme___init__, xInit, start0, is_size_eq, isi_list, hs, first_wrong_eq r c ps h, hw, natP, isNoP, List.idxOf_cons]
  rw [lcK_some (ys := ps) (by omega) (by simpa using hlc _ rfl)]
  simp [schP, fin0]
theorem scheme_bad (r c : Int) (ps : List P) (h : ∀ p ∈ ps, Kn3 p) (hl : ps.length ≤ 100000) (hs : okSize (.int r) (.int c) = true) {k : Int} (hw : wrongF r c ps = some k) : X_Scheme___init__ [.int r, .int c, .lst ps] = some (.er 3 (fsAt k)) := by
  have hb := wrongF_bound hw
  simp [X_Scheme___init__, B_Scheme___init__, xInit, start0, is_size_eq, isi_list, hs, first_wrong_eq r c ps h, hw, natP, isNoP, mk_at (i := k) (by omega) (by omega), fin0]
theorem scheme_bad0 {p q f : P} (hp : Kn p) (hq : Kn q) (hf : Kn f) (h : okSize p q = false ∨ tyP f ≠ "list") : X_Scheme___init__ [p, q, f] = some (.er 3 (fsAt 0)) := by
  have m0 : mk_BadScheme [.int 0] = some (fsAt 0) := mk_at (by omega) (by omega)
  cases hs : okSize p q with
  | false => simp [X_Scheme___init__, B_Scheme___init__, xInit, start0, is_size_eq hp hq, hs, m0, fin0]
  | true =>
    have h2 : (tyP f == "list") = false := by
      rcases h with h | h
      · rw [hs] at h; cases h
      · rw [beq_eq_false_iff_ne]; exact h
    simp [X_Scheme___init__, B_Scheme___init__, xInit, start0, is_size_eq hp hq, isi_list hf, hs, h2, m0, fin0]
end PX

namespace PX
open PySem PySem.Spec PyProof.Rows L2 FP

/-! ### rows and words -/
abbrev nlS : Str := "\n"
abbrev spS : Str := " "
def rowsT (t : Str) : List Str := Txt.split t "\n"
def wordsT (t : Str) : List Str := Txt.split t " "
theorem nl_len : ((Str.ofString "\n").length == 0) = false := by decide +kernel
theorem sp_len : ((Str.ofString " ").length == 0) = false := by decide +kernel
theorem split_nl {t : Str} (h : t.length + 2 ≤ sizeLine) : qSplit (.str t) (.str (Str.ofString "\n")) = some (.lst ((rowsT t).map P.str)) := by
  show (if _ then _ else _) = _
  rw [if_pos ⟨nl_len, h⟩]
  rfl
theorem split_sp {t : Str} (h : t.length + 2 ≤ sizeLine) : qSplit (.str t) (.str (Str.ofString " ")) = some (.lst ((wordsT t).map P.str)) := by
  show (if _ then _ else _) = _
  rw [if_pos ⟨sp_len, h⟩]
  rfl
theorem ni_strs (x : Str) (ws : List Str) : qNi (.str x) (ktP ws) = some (.bl (!decide (x ∈ ws))) := qNi_of (in_strs x ws)
theorem ni_strsL (x : Str) (ws : List Str) : qNi (.str x) (.lst (ws.map P.str)) = some (.bl (!decide (x ∈ ws))) := qNi_of (in_strsL x ws)
theorem row_short {t r : Str} (h : r ∈ rowsT t) : r.length ≤ t.length := PyProof.Rows.part_short h
theorem rowsT_pos (t : Str) : 1 ≤ (rowsT t).length := (PyProof.Rows.fact_split t "\n").1
theorem wordsT_pos (t : Str) : 1 ≤ (wordsT t).length := (PyProof.Rows.fact_split t " ").1
theorem rowsT_le (t : Str) : (rowsT t).length ≤ t.length + 2 := PyProof.Rows.split_le t "\n"
theorem wordsT_le (t : Str) : (wordsT t).length ≤ t.length + 2 := PyProof.Rows.split_le t " "
theorem strsP_map : ∀ ws : List Str, strsP (ws.map P.str) = some ws
  | [] => rfl
  | w :: ws => by rw [List.map_cons, strsP, strsP_map ws]
theorem join_ap {a : Str} {ws : List Str} (h : (ws.map fun x => x.length).sum + ws.length * a.length ≤ 16777216) : qJoin (.str a) (.lst (ws.map P.str)) = some (.str (Txt.join a ws)) := by
  show (match strsP (ws.map P.str) with | some ys => _ | none => none) = _
  rw [strsP_map]
  exact if_pos h
theorem no_in_split {c : Nat} {t w : Str} (h : w ∈ Txt.split t ⟨#[c]⟩) : c ∉ TL.tl w := StrLaws.split_free t c w h
theorem join_rows {rs : List Str} (h : rs ≠ []) (hn : ∀ r ∈ rs, 10 ∉ TL.tl r) : rowsT (Txt.join "\n" rs) = rs :=
  TL.split_join (s := 10) (S := []) (by decide +kernel) (by decide +kernel) h hn
theorem join_words {ws : List Str} (h : ws ≠ []) (hn : ∀ r ∈ ws, 32 ∉ TL.tl r) : wordsT (Txt.join " " ws) = ws :=
  TL.split_join (s := 32) (S := []) (by decide +kernel) (by decide +kernel) h hn
theorem join_len {a : Str} {ws : List Str} {k n : Nat} (ha : a.length ≤ 4) (hw : ∀ w ∈ ws, w.length ≤ k) (hn : ws.length ≤ n) : (Txt.join a ws).length ≤ 4 * (n * (k + 1) + 1) ∧ (ws.map fun x => x.length).sum + ws.length * a.length ≤ n * (k + 4) := by
  have key : (ws.map fun x => x.length).sum ≤ ws.length * k := by
    clear hn
    induction ws with
    | nil => simp
    | cons w ws ih =>
      have h1 := hw w List.mem_cons_self
      have h2 := ih fun v hv => hw v (List.mem_cons_of_mem _ hv)
      simp only [List.map_cons, List.sum_cons, List.length_cons, Nat.add_mul]
      omega
  have k1 : ws.length * k ≤ n * k := Nat.mul_le_mul_right k hn
  have k2 : ws.length * a.length ≤ n * 4 := Nat.mul_le_mul hn ha
  refine ⟨len_join_le (n := n * (k + 1)) ?_ ha, ?_⟩
  · show (ws.map fun x => x.length).sum + ws.length ≤ n * (k + 1) + 1
    rw [Nat.mul_add]
    omega
  · rw [Nat.mul_add]
    omega
theorem mk_row {i k : Int} (h0 : 0 ≤ i) (h1 : i < 1000000000) (h2 : 0 ≤ k) (h3 : k < 1000000000) : mk_BadRow [.int i, .int k] = some (fsRow i k) := by
  simp [mk_BadRow]
  omega
theorem rows_of_eq {t : Str} (h : t.length + 2 ≤ sizeLine) : X_rows_of [.str t] = ret (.lst ((rowsT t).map P.str)) := by
  have := split_nl h
  simp [X_rows_of, B_rows_of, xDef, start0, isi_str, this]
theorem rows_of_bad {p : P} (h : Kn p) (hs : strP p = none) : X_rows_of [p] = some (.er 2 (fsRow 1 0)) := by
  have m : mk_BadRow [.int 1, .int 0] = some (fsRow 1 0) := mk_row (by omega) (by omega) (by omega) (by omega)
  simp [X_rows_of, B_rows_of, xDef, start0, isi_str h, hs, m]
theorem words_of_eq {t : Str} (h : t.length + 2 ≤ sizeLine) : X_words_of [.str t] = ret (if ("" : Str) ∈ wordsT t then .non else .lst ((wordsT t).map P.str)) := by
  have := split_sp h
  have i := in_strsL "" (wordsT t)
  simp [X_words_of, B_words_of, xDef, start0, isi_str, this, i]
  split <;> simp_all
theorem words_at_eq {t : Str} (h : t.length + 2 ≤ sizeLine) {k : Int} (h0 : 0 ≤ k) (h1 : k < 1000000000) : X_words_at [.str t, .int k] = if ("" : Str) ∈ wordsT t then some (.er 2 (fsRow k 0)) else ret (.lst ((wordsT t).map P.str)) := by
  have := words_of_eq h
  have m : mk_BadRow [.int k, .int 0] = some (fsRow k 0) := mk_row (by omega) (by omega) (by omega) (by omega)
  by_cases hq : ("" : Str) ∈ wordsT t
  · simp [X_words_at, B_words_at, xDef, start0, this, hq, m, isNoP]
  · simp [X_words_at, B_words_at, xDef, start0, this, hq, m, isNoP]
/-- the first word that can't stand -/
def wrW : List Str → List (List Str) → Nat → Option Nat
  | [], [], _ => none
  | [], _ :: _, k => some (k + 1)
  | _ :: _, [], k => some (k + 1)
  | w :: ws, c :: cs, k => if w ∈ c then wrW ws cs (k + 1) else some (k + 1)
theorem wrW_bound : ∀ {ws : List Str} {cs : List (List Str)} {k n : Nat}, wrW ws cs k = some n → k < n ∧ n ≤ k + ws.length + 1
  | [], [], k, n, h => by cases h
  | [], _ :: _, k, n, h => by cases h; simp
  | w :: ws, [], k, n, h => by cases h; simp
  | w :: ws, c :: cs, k, n, h => by
    rw [wrW] at h
    split at h
    · have := wrW_bound h
      simp only [List.length_cons]
      omega
    · cases h
      simp
def wrA : List Str → List (List Str) → Nat → Option Nat
  | [], _, _ => none
  | _ :: _, [], k => some (k + 1)
  | w :: ws, c :: cs, k => if w ∈ c then wrA ws cs (k + 1) else some (k + 1)
theorem wrW_A : ∀ (ws : List Str) (cs : List (List Str)) (k : Nat), wrW ws cs k = match wrA ws cs k with
    | some n => some n
    | none => if ws.length < cs.length then some (k + ws.length + 1) else none
  | [], [], k => rfl
  | [], _ :: _, k => by simp [wrW, wrA]
  | w :: ws, [], k => by simp [wrW, wrA]
  | w :: ws, c :: cs, k => by
    rw [wrW, wrA, wrW_A ws cs (k + 1)]
    split
    · split
      · rfl
      · simp only [List.length_cons]
        by_cases h : ws.length < cs.length
        · rw [if_pos h, if_pos (by omega)]
          congr 1
          omega
        · rw [if_neg h, if_neg (by omega)]
    · rfl
def natO : Option Nat → P
  | some n => .int n
  | none => .non
theorem among_loop (ws0 : P) (at_ : Int) (h0 : 0 ≤ at_) (h1 : at_ < 1000000000) (csA : List (List Str)) : ∀ (us : List Str) (k : Nat), k + us.length < 1000000 →
    match wrA us (csA.drop k) k with
      | some n => ∃ ρ, forL (tkT [(tkN 3), (tkN 4)]) L_words_among_1 (enumP ((k : Int) + 1) (us.map P.str)) [some ws0, some (.int at_), some (.tup (csA.map ktP)), none, none] = some (.er 2 (fsRow at_ n) ρ)
      | none => forL (tkT [(tkN 3), (tkN 4)]) L_words_among_1 (enumP ((k : Int) + 1) (us.map P.str)) [some ws0, some (.int at_), some (.tup (csA.map ktP)), none, none] = some (.nx [some ws0, some (.int at_), some (.tup (csA.map ktP)), none, none])
  | [], k, hk => by
    simp [wrA, enumP_nil]
  | u :: us, k, hk => by
    have ih := among_loop ws0 at_ h0 h1 csA us (k + 1) (by simp at hk ⊢; omega)
    rw [List.map_cons, enumP_cons, forL_cons]
    have m : mk_BadRow [.int at_, .int ((k : Int) + 1)] = some (fsRow at_ ((k : Int) + 1)) := mk_row h0 h1 (by omega) (by simp at hk; omega)
    cases hd : csA.drop k with
    | nil =>
      have hl : csA.length ≤ k := List.drop_eq_nil_iff.mp hd
      have : (csA.length : Int) < (k : Int) + 1 := by omega
      simp [L_words_among_1, wrA, this, m]
    | cons c cs =>
      have hlt : k < csA.length := by
        rcases Nat.lt_or_ge k csA.length with h | h
        · exact h
        · rw [List.drop_eq_nil_iff.mpr h] at hd; cases hd
      have hc : csA[k]? = some c := by
        have := congrArg List.head? hd
        rw [List.head?_drop] at this
        simpa using this
      have hcs : csA.drop (k + 1) = cs := by
        have := congrArg List.tail hd
        rw [List.tail_drop] at this
        simpa using this
      have hix : atI (csA.map ktP) ((k : Int) + 1 - 1) = some (ktP c) := by
        rw [show (k : Int) + 1 - 1 = k by omega, atI_in (by omega) (by rw [List.length_map]; omega)]
        simp [List.getD_eq_getElem?_getD, hc]
      have nlt : ¬ ((csA.length : Int) < (k : Int) + 1) := by omega
      have hin := ni_strs u c
      rw [wrA]
      rw [hcs] at ih
      have ek : ((k + 1 : Nat) : Int) + 1 = (k : Int) + 1 + 1 := by omega
      rw [ek] at ih
      have hixk : atI (csA.map ktP) (k : Int) = some (ktP c) := by rw [← hix]; congr 1; omega
      by_cases hu : u ∈ c
      · simp [L_words_among_1, nlt, hixk, hin, hu]
        exact ih
      · simp [L_words_among_1, nlt, hixk, hin, hu, m]
theorem words_among_eq (ws : List Str) (cs : List (List Str)) {k : Int} (h0 : 0 ≤ k) (h1 : k < 1000000000) (hl : ws.length < 100000) : X_words_among [.lst (ws.map P.str), .int k, .tup (cs.map ktP)] = match wrW ws cs 0 with
    | some n => some (.er 2 (fsRow k n))
    | none => ret (.lst (ws.map P.str)) := by
  have hlp := among_loop (.lst (ws.map P.str)) k h0 h1 cs ws 0 (by omega)
  rw [List.drop_zero] at hlp
  rw [wrW_A ws cs 0]
  cases ha : wrA ws cs 0 with
  | some n =>
    rw [ha] at hlp
    obtain ⟨ρ, hlp⟩ := hlp
    simp at hlp
    simp [X_words_among, B_words_among, xDef, start0, hlp]
  | none =>
    rw [ha] at hlp
    simp at hlp
    have m : mk_BadRow [.int k, .int ((ws.length : Int) + 1)] = some (fsRow k ((ws.length : Int) + 1)) := mk_row h0 h1 (by omega) (by omega)
    by_cases hc : ws.length < cs.length
    · have : (ws.length : Int) < (cs.length : Int) := by omega
      simp [X_words_among, B_words_among, xDef, start0, hlp, hc, m]
    · have : ¬ (ws.length : Int) < (cs.length : Int) := by omega
      simp [X_words_among, B_words_among, xDef, start0, hlp, hc]

/-! ### schemes as texts -/
abbrev figs : List Str := ["1", "2", "3", "4", "5", "6", "7", "8"]
def figV (a : Str) : Int := (intText? a).getD 0
theorem fig_ok {a : Str} (h : a ∈ figs) : qInt [.str a] = some (.int (figV a)) ∧ 1 ≤ figV a ∧ figV a ≤ 8 := by
  have key : ∀ b ∈ figs, (∃ n, intText? b = some n ∧ 1 ≤ n ∧ n ≤ 8) ∧ b.length ≤ 640 := by
    intro b hb
    have e : intText? "1" = some 1 ∧ intText? "2" = some 2 ∧ intText? "3" = some 3 ∧ intText? "4" = some 4 ∧ intText? "5" = some 5 ∧ intText? "6" = some 6 ∧ intText? "7" = some 7 ∧ intText? "8" = some 8 := by decide +kernel
    have l : ∀ c ∈ figs, c.length ≤ 640 := by decide +kernel
    refine ⟨?_, l b hb⟩
    simp only [figs, List.mem_cons, List.mem_nil_iff, or_false] at hb
    obtain ⟨e1, e2, e3, e4, e5, e6, e7, e8⟩ := e
    rcases hb with rfl | rfl | rfl | rfl | rfl | rfl | rfl | rfl
    · exact ⟨1, e1, by omega, by omega⟩
    · exact ⟨2, e2, by omega, by omega⟩
    · exact ⟨3, e3, by omega, by omega⟩
    · exact ⟨4, e4, by omega, by omega⟩
    · exact ⟨5, e5, by omega, by omega⟩
    · exact ⟨6, e6, by omega, by omega⟩
    · exact ⟨7, e7, by omega, by omega⟩
    · exact ⟨8, e8, by omega, by omega⟩
  obtain ⟨⟨n, h1, h2⟩, h3⟩ := key a h
  have : figV a = n := by unfold figV; rw [h1]; rfl
  rw [this]
  refine ⟨?_, h2⟩
  show (match intText? a with | some n => if a.length ≤ 640 then some (P.int n) else none | none => none) = _
  rw [h1]
  exact if_pos h3
def sizeC : List (List Str) := [["sheet"], figs, figs]
def foldC : List (List Str) := [["fold"], edges, figs, ways]
theorem wrW_none : ∀ {ws : List Str} {cs : List (List Str)} {k : Nat}, wrW ws cs k = none → ws.length = cs.length ∧ ∀ i, i < ws.length → ws.getD i "" ∈ cs.getD i []
  | [], [], k, h => ⟨rfl, fun i hi => absurd hi (Nat.not_lt_zero _)⟩
  | [], _ :: _, k, h => by cases h
  | _ :: _, [], k, h => by cases h
  | w :: ws, c :: cs, k, h => by
    rw [wrW] at h
    split at h
    · rename_i hw
      obtain ⟨h1, h2⟩ := wrW_none h
      refine ⟨by simp [h1], fun i hi => ?_⟩
      cases i with
      | zero => exact hw
      | succ i => exact h2 i (by simpa using hi)
    · cases h
theorem size_none {ws : List Str} (h : wrW ws sizeC 0 = none) : ∃ a b : Str, ws = [("sheet" : Str), a, b] ∧ a ∈ figs ∧ b ∈ figs := by
  obtain ⟨h1, h2⟩ := wrW_none h
  match ws, h1 with
  | [x, a, b], _ =>
    have e0 := h2 0 (by simp)
    have e1 := h2 1 (by simp)
    have e2 := h2 2 (by simp)
    simp only [sizeC, List.getD_cons_zero, List.getD_cons_succ] at e0 e1 e2
    obtain rfl : x = "sheet" := by simpa using e0
    exact ⟨a, b, rfl, e1, e2⟩
theorem fold_none {ws : List Str} (h : wrW ws foldC 0 = none) : ∃ e m w : Str, ws = [("fold" : Str), e, m, w] ∧ e ∈ edges ∧ m ∈ figs ∧ w ∈ ways := by
  obtain ⟨h1, h2⟩ := wrW_none h
  match ws, h1 with
  | [x, a, b, c], _ =>
    have e0 := h2 0 (by simp)
    have e1 := h2 1 (by simp)
    have e2 := h2 2 (by simp)
    have e3 := h2 3 (by simp)
    simp only [foldC, List.getD_cons_zero, List.getD_cons_succ] at e0 e1 e2 e3
    obtain rfl : x = "fold" := by simpa using e0
    exact ⟨a, b, c, rfl, e1, e2, e3⟩
def sizeV (ws : List Str) : Int × Int := (figV (ws.getD 1 ""), figV (ws.getD 2 ""))
def foldV (ws : List Str) : P := .tup [.str (ws.getD 1 ""), .int (figV (ws.getD 2 "")), .str (ws.getD 3 "")]
theorem read_size_eq (ws : List Str) {k : Int} (h0 : 0 ≤ k) (h1 : k < 1000000000) (hl : ws.length < 100000) : X_read_size [.lst (ws.map P.str), .int k] = match wrW ws sizeC 0 with
    | some n => some (.er 2 (fsRow k n))
    | none => ret (.tup [.int (sizeV ws).1, .int (sizeV ws).2]) := by
  have hw := words_among_eq ws sizeC h0 h1 hl
  rw [show sizeC.map ktP = [.tup [.str "sheet"], ktP figs, ktP figs] from rfl] at hw
  cases hn : wrW ws sizeC 0 with
  | some n =>
    rw [hn] at hw
    simp [X_read_size, B_read_size, xDef, start0, hw]
  | none =>
    rw [hn] at hw
    obtain ⟨a, b, rfl, ha, hb⟩ := size_none hn
    obtain ⟨fa, _⟩ := fig_ok ha
    obtain ⟨fb, _⟩ := fig_ok hb
    simp at hw
    simp [X_read_size, B_read_size, xDef, start0, hw, fa, fb, sizeV]
theorem read_fold_eq (ws : List Str) {k : Int} (h0 : 0 ≤ k) (h1 : k < 1000000000) (hl : ws.length < 100000) : X_read_fold [.lst (ws.map P.str), .int k] = match wrW ws foldC 0 with
    | some n => some (.er 2 (fsRow k n))
    | none => ret (foldV ws) := by
  have hw := words_among_eq ws foldC h0 h1 hl
  rw [show foldC.map ktP = [.tup [.str "fold"], ktP edges, ktP figs, ktP ways] from rfl] at hw
  cases hn : wrW ws foldC 0 with
  | some n =>
    rw [hn] at hw
    simp [X_read_fold, B_read_fold, xDef, start0, hw]
  | none =>
    rw [hn] at hw
    obtain ⟨e, m, w, rfl, he, hm, hw'⟩ := fold_none hn
    obtain ⟨fa, _⟩ := fig_ok hm
    simp at hw
    simp [X_read_fold, B_read_fold, xDef, start0, hw, fa, foldV]
/-- what is wrong with a row's words -/
def rowW (cs : List (List Str)) (ws : List Str) : Option Nat := if ("" : Str) ∈ ws then some 0 else wrW ws cs 0
/-- the first row and word of all that can't stand, from the k-th on -/
def scanF : List (List Str) → Nat → Option (Nat × Nat)
  | [], _ => none
  | ws :: rows, k => match rowW foldC ws with
    | some n => some (k, n)
    | none => scanF rows (k + 1)
def itemF : P → PEnv → R := fun p ρ => lcS (tkT [(tkN 4), (tkN 5)]) (xCall X_read_fold [(xCall X_words_at [(xV 5), (xV 4)]), (xV 4)]) ρ p
theorem item_eq {t : Str} {k : Int} (ht : t.length < 90000) (h0 : 0 ≤ k) (h1 : k < 1000000000) (ρ : PEnv) (hρ : ∃ a b c, ρ = [a, b, c, none, none, none]) :
    lcS (tkT [(tkN 4), (tkN 5)]) (xCall X_read_fold [(xCall X_words_at [(xV 5), (xV 4)]), (xV 4)]) ρ (.tup [.int k, .str t]) = match rowW foldC (wordsT t) with
    | some n => some (.er 2 (fsRow k n))
    | none => ret (foldV (wordsT t)) := by
  obtain ⟨a, b, c, rfl⟩ := hρ
  have hz : t.length + 2 ≤ sizeLine := by rw [sizeLine_eq]; omega
  have ha := words_at_eq hz h0 h1
  have hf := read_fold_eq (wordsT t) h0 h1 (by have := wordsT_le t; omega)
  unfold rowW
  by_cases hq : ("" : Str) ∈ wordsT t
  · rw [if_pos hq] at ha
    simp [lcS, hq, ha]
  · rw [if_neg hq] at ha
    simp [lcS, hq, ha, hf]
theorem items_eq (ρ : PEnv) (hρ : ∃ a b c, ρ = [a, b, c, none, none, none]) : ∀ (ts : List Str) (k : Nat), (∀ t ∈ ts, t.length < 90000) → k + ts.length < 1000000 →
    lcE (lcS (tkT [(tkN 4), (tkN 5)]) (xCall X_read_fold [(xCall X_words_at [(xV 5), (xV 4)]), (xV 4)]) ρ) (enumP (k : Int) (ts.map P.str)) = match scanF (ts.map wordsT) k with
    | some (i, n) => some (.er 2 (fsRow i n))
    | none => ret (.lst (ts.map fun t => foldV (wordsT t)))
  | [], k, _, _ => by simp [enumP_nil, lcE, scanF]
  | t :: ts, k, ht, hk => by
    have ih := items_eq ρ hρ ts (k + 1) (fun x hx => ht x (List.mem_cons_of_mem _ hx)) (by simp at hk; omega)
    rw [List.map_cons, enumP_cons, lcE, item_eq (ht t List.mem_cons_self) (by omega) (by simp at hk; omega) ρ hρ, List.map_cons, scanF]
    rw [show ((k + 1 : Nat) : Int) = (k : Int) + 1 by omega] at ih
    rw [ih]
    cases rowW foldC (wordsT t) with
    | some n => rfl
    | none =>
      simp only
      cases scanF (ts.map wordsT) (k + 1) with
      | some x => rfl
      | none => rfl

theorem read_scheme_eq {t r0 : Str} {rest : List Str} (ht : t.length < 80000) (hr : rowsT t = r0 :: rest) : X_read_scheme [.str t] = match rowW sizeC (wordsT r0) with
    | some n => some (.er 2 (fsRow 1 n))
    | none => match scanF (rest.map wordsT) 2 with
      | some (i, n) => some (.er 2 (fsRow i n))
      | none => X_Scheme___init__ [.int (sizeV (wordsT r0)).1, .int (sizeV (wordsT r0)).2, .lst (rest.map fun t => foldV (wordsT t))] := by
  have hz : t.length + 2 ≤ sizeLine := by rw [sizeLine_eq]; omega
  have hrows := rows_of_eq hz
  have sh : ∀ r ∈ r0 :: rest, r.length < 90000 := fun r h => by
    rw [← hr] at h
    have := row_short h
    omega
  have h0 := sh r0 List.mem_cons_self
  have hlen : rest.length + 1 ≤ t.length + 2 := by
    have := rowsT_le t
    rw [hr] at this
    simpa using this
  have ha := words_at_eq (t := r0) (k := 1) (by rw [sizeLine_eq]; omega) (by omega) (by omega)
  have hs := read_size_eq (wordsT r0) (k := 1) (by omega) (by omega) (by have := wordsT_le r0; omega)
  rw [hr] at hrows
  unfold rowW
  by_cases hq : ("" : Str) ∈ wordsT r0
  · rw [if_pos hq] at ha
    simp [X_read_scheme, B_read_scheme, xDef, start0, hrows, ha, hq]
  · rw [if_neg hq] at ha
    rw [if_neg hq]
    cases hn : wrW (wordsT r0) sizeC 0 with
    | some n =>
      rw [hn] at hs
      simp [X_read_scheme, B_read_scheme, xDef, start0, hrows, ha, hs]
    | none =>
      rw [hn] at hs
      have it := items_eq [some (.str t), some (.lst (.str r0 :: rest.map P.str)), some (.tup [.int (sizeV (wordsT r0)).1, .int (sizeV (wordsT r0)).2]), none, none, none] ⟨_, _, _, rfl⟩ rest 2 (fun x hx => sh x (List.mem_cons_of_mem _ hx)) (by omega)
      have cut : cutX (.str r0 :: rest.map P.str) (some 1) none = rest.map P.str := by rw [cut_from (by omega)]; rfl
      have hl : (enumP 2 (rest.map P.str)).length ≤ 1000000 := by rw [enumP_len, List.length_map]; omega
      cases hsc : scanF (rest.map wordsT) 2 with
      | some x =>
        obtain ⟨i, n⟩ := x
        rw [hsc] at it
        simp [X_read_scheme, B_read_scheme, xDef, start0, hrows, ha, hs, cut]
        rw [lcEK_some hl it]
        simp
      | none =>
        rw [hsc] at it
        simp [X_read_scheme, B_read_scheme, xDef, start0, hrows, ha, hs, cut]
        rw [lcEK_some hl it]
        simp
        exact fin_ans_rt

/-- what a scheme's rows come to -/
def resP : List (List Str) → P
  | [] => .non
  | ws :: rest => match rowW sizeC ws with
    | some n => .tup [.int 1, .int n]
    | none => match scanF rest 2 with
      | some (i, n) => .tup [.int i, .int n]
      | none => if (sizeV ws).1 * (sizeV ws).2 > 32 then .int 0 else match wrongF (sizeV ws).1 (sizeV ws).2 (rest.map foldV) with
        | some k => .int k
        | none => .tup [.int (sizeV ws).1, .int (sizeV ws).2, .lst (rest.map foldV)]
theorem foldV_kn (ws : List Str) : Kn3 (foldV ws) := ⟨by simp [foldV], fun x y z h => by
  simp [foldV] at h
  obtain ⟨rfl, rfl, rfl⟩ := h
  simp⟩
theorem sizeV_ok {ws : List Str} (h : rowW sizeC ws = none) : 1 ≤ (sizeV ws).1 ∧ (sizeV ws).1 ≤ 8 ∧ 1 ≤ (sizeV ws).2 ∧ (sizeV ws).2 ≤ 8 := by
  unfold rowW at h
  split at h
  · cases h
  · obtain ⟨a, b, rfl, ha, hb⟩ := size_none h
    have := (fig_ok ha).2
    have := (fig_ok hb).2
    simp only [sizeV, List.getD_cons_zero, List.getD_cons_succ]
    omega

/-! schemes told as texts -/
theorem txt_size : ∀ a ∈ figs, ∀ b ∈ figs, (Str.empty ++ ("sheet " : Str)).length ≤ 100 ∧ (Str.empty ++ ("sheet " : Str) ++ a).length ≤ 100 ∧ (Str.empty ++ ("sheet " : Str) ++ a ++ (" " : Str)).length ≤ 100 ∧ (Str.empty ++ ("sheet " : Str) ++ a ++ (" " : Str) ++ b).length ≤ 100 ∧ Str.empty ++ ("sheet " : Str) ++ a ++ (" " : Str) ++ b = Txt.join " " ["sheet", a, b] := by decide +kernel
theorem txt_fold : ∀ e ∈ edges, ∀ a ∈ figs, ∀ w ∈ ways, (Str.empty ++ ("fold " : Str)).length ≤ 100 ∧ (Str.empty ++ ("fold " : Str) ++ e).length ≤ 100 ∧ (Str.empty ++ ("fold " : Str) ++ e ++ (" " : Str)).length ≤ 100 ∧ (Str.empty ++ ("fold " : Str) ++ e ++ (" " : Str) ++ a).length ≤ 100 ∧ (Str.empty ++ ("fold " : Str) ++ e ++ (" " : Str) ++ a ++ (" " : Str)).length ≤ 100 ∧ (Str.empty ++ ("fold " : Str) ++ e ++ (" " : Str) ++ a ++ (" " : Str) ++ w).length ≤ 100 ∧ Str.empty ++ ("fold " : Str) ++ e ++ (" " : Str) ++ a ++ (" " : Str) ++ w = Txt.join " " ["fold", e, a, w] := by decide +kernel
theorem txt_word : (∀ w ∈ figs, 32 ∉ TL.tl w ∧ 10 ∉ TL.tl w ∧ w.length ≤ 8) ∧ (∀ w ∈ edges, 32 ∉ TL.tl w ∧ 10 ∉ TL.tl w ∧ w.length ≤ 8) ∧ (∀ w ∈ ways, 32 ∉ TL.tl w ∧ 10 ∉ TL.tl w ∧ w.length ≤ 8)  := by decide +kernel
theorem txt_row : (∀ a ∈ figs, ∀ b ∈ figs, 10 ∉ TL.tl (Txt.join " " ["sheet", a, b]) ∧ (Txt.join " " ["sheet", a, b]).length ≤ 100) ∧ ∀ e ∈ edges, ∀ a ∈ figs, ∀ w ∈ ways, 10 ∉ TL.tl (Txt.join " " ["fold", e, a, w]) ∧ (Txt.join " " ["fold", e, a, w]).length ≤ 100 := by decide +kernel

def figS (i : Int) : Str := Str.ofString (toString i)
theorem fig_of {i : Int} (h : 1 ≤ i ∧ i ≤ 8) : figS i ∈ figs ∧ figV (figS i) = i ∧ qStr [.int i] = some (.str (figS i)) ∧ fmtP (.int i) = some (figS i) := by
  have key : ∀ n ∈ [(1 : Int), 2, 3, 4, 5, 6, 7, 8], figS n ∈ figs ∧ figV (figS n) = n := by decide +kernel
  have hi : i ∈ [(1 : Int), 2, 3, 4, 5, 6, 7, 8] := by simp; omega
  obtain ⟨h1, h2⟩ := key i hi
  have hl : i.natAbs.log2 < 1920 := by
    have : i.natAbs ≤ 8 := by omega
    have : i.natAbs.log2 ≤ i.natAbs := Nat.log2_le_self _
    omega
  exact ⟨h1, h2, if_pos hl, if_pos hl⟩
def rowSz (r c : Int) : List Str := ["sheet", figS r, figS c]
def rowFd (f : Fold) : List Str := ["fold", f.e.s, figS f.m, wayS f.o]
def dueR (r c : Int) (fs : List Fold) : List (List Str) := rowSz r c :: fs.map rowFd
theorem ed_mem (e : Ed) : e.s ∈ edges := by cases e <;> simp [Ed.s]
theorem way_mem (o : Bool) : wayS o ∈ ways := by cases o <;> simp [wayS]
theorem scheme_rows_eq {r c : Int} {fs : List Fold} (hr : 1 ≤ r ∧ r ≤ 8) (hc : 1 ≤ c ∧ c ≤ 8) (hf : ∀ f ∈ fs, 1 ≤ f.m ∧ f.m ≤ 8) (hl : fs.length ≤ 1000) : X_scheme_rows [schP r c (fs.map Fold.p)] = ret (.lst ((dueR r c fs).map fun ws => .str (Txt.join " " ws))) := by
  have tl := told_eq r c (fs.map Fold.p)
  obtain ⟨m1, _, _, f1⟩ := fig_of hr
  obtain ⟨m2, _, _, f2⟩ := fig_of hc
  obtain ⟨s1, s2, s3, s4, s5⟩ := txt_size _ m1 _ m2
  have sz := sizeLine_eq
  have z : ∀ {n : Nat}, n ≤ 100 → n ≤ sizeLine := fun h => by omega
  have lc : lcL (lcStep (tkT [(tkN 4), (tkN 5), (tkN 6)]) none (xJoined [(xC (.str "fold ")), (xFmt (xV 4)), (xC (.str " ")), (xFmt (xV 5)), (xC (.str " ")), (xFmt (xV 6))]) [some (schP r c (fs.map Fold.p)), some (.int r), some (.int c), some (.lst (fs.map Fold.p)), none, none, none]) (fs.map Fold.p) = some (fs.map fun f => .str (Txt.join " " (rowFd f))) := by
    refine lcL_map Fold.p (fun f => .str (Txt.join " " (rowFd f))) fs fun f hm => ?_
    obtain ⟨m3, _, _, f3⟩ := fig_of (hf f hm)
    obtain ⟨t1, t2, t3, t4, t5, t6, t7⟩ := txt_fold _ (ed_mem f.e) _ m3 _ (way_mem f.o)
    have e1 : f.e.s.length ≤ 16777216 := Nat.le_trans (txt_word.2.1 _ (ed_mem f.e)).2.2 (by omega)
    have e2 : (wayS f.o).length ≤ 16777216 := Nat.le_trans (txt_word.2.2 _ (way_mem f.o)).2.2 (by omega)
    have e1 : f.e.s.length ≤ sizeLine := z (Nat.le_trans (txt_word.2.1 _ (ed_mem f.e)).2.2 (by omega))
    have e2 : (wayS f.o).length ≤ sizeLine := z (Nat.le_trans (txt_word.2.2 _ (way_mem f.o)).2.2 (by omega))
    refine step_none (by simp [Fold.p]; rfl) ?_
    simp [e1, e2, f3, z t1, z t2, z t3, z t4, z t5, z t6]
    rw [t7]
    rfl
  have hz : 1 + fs.length ≤ sizeLine := by omega
  unfold schP at tl lc ⊢
  simp [X_scheme_rows, B_scheme_rows, xDef, start0, tl, f1, f2, z s1, z s2, z s3, z s4]
  rw [lcK_some (by rw [List.length_map]; omega) (by simpa using lc)]
  simp [dueR, hz, rowSz, s5]
theorem due_row {r c : Int} {fs : List Fold} (hr : 1 ≤ r ∧ r ≤ 8) (hc : 1 ≤ c ∧ c ≤ 8) (hf : ∀ f ∈ fs, 1 ≤ f.m ∧ f.m ≤ 8) : ∀ ws ∈ dueR r c fs, ws ≠ [] ∧ (∀ w ∈ ws, 32 ∉ TL.tl w ∧ w.length ≤ 8) ∧ ws.length ≤ 4 ∧ 10 ∉ TL.tl (Txt.join " " ws) ∧ (Txt.join " " ws).length ≤ 100 := fun ws hw => by
  have w1 : 32 ∉ TL.tl (Str.ofString "sheet") ∧ (Str.ofString "sheet").length ≤ 8 ∧ 32 ∉ TL.tl (Str.ofString "fold") ∧ (Str.ofString "fold").length ≤ 8 := by decide +kernel
  obtain ⟨t1, t2, t3⟩ := txt_word
  rcases List.mem_cons.mp hw with rfl | hw
  · have m1 := (fig_of hr).1
    have m2 := (fig_of hc).1
    refine ⟨by simp [rowSz], fun w hw => ?_, by simp [rowSz], txt_row.1 _ m1 _ m2⟩
    simp only [rowSz, List.mem_cons, List.mem_nil_iff, or_false] at hw
    rcases hw with rfl | rfl | rfl
    · exact ⟨w1.1, w1.2.1⟩
    · exact ⟨(t1 _ m1).1, (t1 _ m1).2.2⟩
    · exact ⟨(t1 _ m2).1, (t1 _ m2).2.2⟩
  · obtain ⟨f, hm, rfl⟩ := List.mem_map.mp hw
    have m3 := (fig_of (hf f hm)).1
    refine ⟨by simp [rowFd], fun w hw => ?_, by simp [rowFd], txt_row.2 _ (ed_mem f.e) _ m3 _ (way_mem f.o)⟩
    simp only [rowFd, List.mem_cons, List.mem_nil_iff, or_false] at hw
    rcases hw with rfl | rfl | rfl | rfl
    · exact ⟨w1.2.2.1, w1.2.2.2⟩
    · exact ⟨(t2 _ (ed_mem f.e)).1, (t2 _ (ed_mem f.e)).2.2⟩
    · exact ⟨(t1 _ m3).1, (t1 _ m3).2.2⟩
    · exact ⟨(t3 _ (way_mem f.o)).1, (t3 _ (way_mem f.o)).2.2⟩
/-- rows of words as one text -/
def textR (rows : List (List Str)) : Str := Txt.join "
" (rows.map (Txt.join " "))
theorem nl1 : (Str.ofString "
").length ≤ 4 := by decide +kernel
theorem sp1 : (Str.ofString " ").length ≤ 4 := by decide +kernel
theorem scheme_text_eq {r c : Int} {fs : List Fold} (hr : 1 ≤ r ∧ r ≤ 8) (hc : 1 ≤ c ∧ c ≤ 8) (hf : ∀ f ∈ fs, 1 ≤ f.m ∧ f.m ≤ 8) (hl : fs.length ≤ 1000) : X_scheme_text [schP r c (fs.map Fold.p)] = ret (.str (textR (dueR r c fs))) := by
  have h := scheme_rows_eq hr hc hf hl
  have e : (dueR r c fs).map (fun ws => P.str (Txt.join " " ws)) = ((dueR r c fs).map (Txt.join " ")).map P.str := by rw [List.map_map]; rfl
  rw [e] at h
  have hj := (join_len (a := "
") (ws := (dueR r c fs).map (Txt.join " ")) (k := 100) (n := 1001) nl1 (fun w hw => by
    obtain ⟨ws, hm, rfl⟩ := List.mem_map.mp hw
    exact (due_row hr hc hf ws hm).2.2.2.2) (by rw [List.length_map]; simp [dueR]; omega)).2
  have hj2 := join_ap (Nat.le_trans hj (by omega))
  have ht : textR (dueR r c fs) = Txt.join "\n" ((dueR r c fs).map (Txt.join " ")) := rfl
  rw [ht]
  generalize (dueR r c fs).map (Txt.join " ") = zs at h hj2 ⊢
  simp [X_scheme_text, B_scheme_text, xDef, start0, h, hj2]
theorem text_len {rows : List (List Str)} {n : Nat} (h : ∀ ws ∈ rows, (Txt.join " " ws).length ≤ 1000) (hn : rows.length ≤ n) : (textR rows).length ≤ 4 * (n * 1001 + 1) ∧ ((rows.map (Txt.join " ")).map fun x => x.length).sum + (rows.map (Txt.join " ")).length * (Str.ofString "\n").length ≤ n * 1004 :=
  join_len (a := "\n") nl1 (fun w hw => by
    obtain ⟨ws, hm, rfl⟩ := List.mem_map.mp hw
    exact h ws hm) (by rw [List.length_map]; exact hn)
/-- a text's rows are those it was made of -/
theorem text_rows {rows : List (List Str)} (hne : rows ≠ []) (h : ∀ ws ∈ rows, ws ≠ [] ∧ (∀ w ∈ ws, 32 ∉ TL.tl w) ∧ 10 ∉ TL.tl (Txt.join " " ws)) : (rowsT (textR rows)).map wordsT = rows := by
  unfold textR
  rw [join_rows (by simpa using hne) fun r hr => by
    obtain ⟨ws, hm, rfl⟩ := List.mem_map.mp hr
    exact (h ws hm).2.2, List.map_map]
  have : ∀ ws ∈ rows, (wordsT ∘ Txt.join " ") ws = id ws := fun ws hm => join_words (h ws hm).1 (h ws hm).2.1
  rw [List.map_congr_left this, List.map_id]
theorem due_rows {r c : Int} {fs : List Fold} (hr : 1 ≤ r ∧ r ≤ 8) (hc : 1 ≤ c ∧ c ≤ 8) (hf : ∀ f ∈ fs, 1 ≤ f.m ∧ f.m ≤ 8) : (rowsT (textR (dueR r c fs))).map wordsT = dueR r c fs :=
  text_rows (by simp [dueR]) fun ws hm => by
    obtain ⟨a, b, _, d, _⟩ := due_row hr hc hf ws hm
    exact ⟨a, fun w hw => (b w hw).1, d⟩
theorem due_good {r c : Int} {fs : List Fold} (hr : 1 ≤ r ∧ r ≤ 8) (hc : 1 ≤ c ∧ c ≤ 8) (hf : ∀ f ∈ fs, 1 ≤ f.m ∧ f.m ≤ 8) (h32 : r * c ≤ 32) (hw : wrongF r c (fs.map Fold.p) = none) : resP (dueR r c fs) = .tup [.int r, .int c, .lst (fs.map Fold.p)] := by
  obtain ⟨m1, v1, _, _⟩ := fig_of hr
  obtain ⟨m2, v2, _, _⟩ := fig_of hc
  have ne : Str.ofString "" ∉ figs ∧ Str.ofString "" ∉ edges ∧ Str.ofString "" ∉ ways ∧ Str.ofString "" ≠ Str.ofString "sheet" ∧ Str.ofString "" ≠ Str.ofString "fold" := by decide +kernel
  obtain ⟨n1, n2, n3, n4, n5⟩ := ne
  have nm : ∀ {x : Str} {l : List Str}, x ∈ l → Str.ofString "" ∉ l → Str.ofString "" ≠ x := fun h1 h2 z => h2 (z ▸ h1)
  have e0 : rowW sizeC (rowSz r c) = none := by
    unfold rowW
    rw [if_neg]
    · simp only [rowSz, sizeC, wrW]
      rw [if_pos (List.mem_singleton.mpr rfl), if_pos m1, if_pos m2]
    · simp only [rowSz, List.mem_cons, List.mem_nil_iff, or_false, not_or]
      exact ⟨n4, nm m1 n1, nm m2 n1⟩
  have e1 : ∀ f ∈ fs, rowW foldC (rowFd f) = none := fun f hm => by
    have m3 := (fig_of (hf f hm)).1
    unfold rowW
    rw [if_neg]
    · simp only [rowFd, foldC, wrW]
      rw [if_pos (List.mem_singleton.mpr rfl), if_pos (ed_mem _), if_pos m3, if_pos (way_mem _)]
    · simp only [rowFd, List.mem_cons, List.mem_nil_iff, or_false, not_or]
      exact ⟨n5, nm (ed_mem _) n2, nm m3 n1, nm (way_mem _) n3⟩
  have e2 : ∀ (gs : List Fold) (k : Nat), (∀ f ∈ gs, f ∈ fs) → scanF (gs.map rowFd) k = none := fun gs => by
    induction gs with
    | nil => intro k _; rfl
    | cons g gs ih =>
      intro k hk
      rw [List.map_cons, scanF, e1 g (hk g List.mem_cons_self)]
      exact ih _ fun f hm => hk f (List.mem_cons_of_mem _ hm)
  have e3 : (fs.map rowFd).map foldV = fs.map Fold.p := by
    rw [List.map_map]
    refine List.map_congr_left fun f hm => ?_
    have := (fig_of (hf f hm)).2.1
    show P.tup [.str f.e.s, .int (figV (figS f.m)), .str (wayS f.o)] = f.p
    rw [this]
    rfl
  have e4 : sizeV (rowSz r c) = (r, c) := by
    show (figV (figS r), figV (figS c)) = (r, c)
    rw [v1, v2]
  rw [dueR, resP, e0]
  simp only [e2 fs 2 fun f h => h, e3, e4, hw]
  rw [if_neg (by omega)]
end PX

namespace Q03
open PySem PySem.Spec PyProof.Rows L2 FP PX
def mixed (c k : Int) : Int := ((c % 1000000007 + 7919 * k + 13) * (c % 1000000007 + 7919 * k + 13) % 1000000007 * 48271) % 2147483647
theorem mixed_nn (c k : Int) : 0 ≤ mixed c k := Int.emod_nonneg _ (by decide)
theorem mixed_lt (c k : Int) : mixed c k < 2147483647 := Int.emod_lt_of_pos _ (by decide)
theorem mixed_eq (c k : Int) (h : 0 ≤ k ∧ k ≤ 1000000) : X__law_mixed [.int c, .int k] = ret (.int (mixed c k)) := by
  have h1 := Int.emod_nonneg c (b := 1000000007) (by decide)
  have h2 := Int.emod_lt_of_pos c (b := 1000000007) (by decide)
  have m1 : mulOk 7919 k := .inl (by omega)
  have m2 : mulOk (c % 1000000007 + 7919 * k + 13) (c % 1000000007 + 7919 * k + 13) := .inl (by omega)
  have m3 : mulOk ((c % 1000000007 + 7919 * k + 13) * (c % 1000000007 + 7919 * k + 13) % 1000000007) 48271 := .inr (by omega)
  simp [X__law_mixed, B__law_mixed, xDef, start0, m1, m2, m3, mixed]
/-- rows and columns -/
def sizeN (n : Int) : Int × Int :=
  let r := 1 + n % 8
  let c := 1 + n / 8 % 8
  if n / 64 % 2 = 0 then (r, if 32 / r < c then 32 / r else c) else (if 4 < r then 4 else r, if 4 < c then 4 else c)
theorem size_eq (n : Int) : X__law_size [.int n] = ret (.tup [.int (sizeN n).1, .int (sizeN n).2]) := by
  have h1 := Int.emod_nonneg n (b := 8) (by decide)
  have h2 := Int.emod_lt_of_pos n (b := 8) (by decide)
  have p1 : 0 < 1 + n % 8 ∧ 1 + n % 8 < 1073741824 := by omega
  simp [X__law_size, B__law_size, xDef, start0, p1, sizeN]
  by_cases h : n / 64 % 2 = 0 <;> simp [h]
theorem sizeN_ok (n : Int) : 1 ≤ (sizeN n).1 ∧ (sizeN n).1 ≤ 8 ∧ 1 ≤ (sizeN n).2 ∧ (sizeN n).2 ≤ 8 ∧ (sizeN n).1 * (sizeN n).2 ≤ 32 := by
  have h1 := Int.emod_nonneg n (b := 8) (by decide)
  have h2 := Int.emod_lt_of_pos n (b := 8) (by decide)
  have h3 := Int.emod_nonneg (n / 8) (b := 8) (by decide)
  have h4 := Int.emod_lt_of_pos (n / 8) (b := 8) (by decide)
  unfold sizeN
  simp only
  generalize hr : 1 + n % 8 = r
  generalize hc : 1 + n / 8 % 8 = c
  have : r = 1 ∨ r = 2 ∨ r = 3 ∨ r = 4 ∨ r = 5 ∨ r = 6 ∨ r = 7 ∨ r = 8 := by omega
  split
  · rcases this with rfl | rfl | rfl | rfl | rfl | rfl | rfl | rfl <;> simp <;> split <;> omega
  · rcases this with rfl | rfl | rfl | rfl | rfl | rfl | rfl | rfl <;> simp <;> split <;> omega
/-! the folds -/
structure St where
  r : Int
  c : Int
  fs : List Fold
def cellAt (cells : List Int) (n : Nat) : Int := cells.getD (n % cells.length) 0
def own (cells : List Int) (num : Int) (s : St) : Int := mixed (cellAt cells s.fs.length) (7 + (s.fs.length : Nat)) + num
def turn (cells : List Int) (num : Int) (s : St) : St :=
  let o := own cells num s
  let lev := decide (1 < s.r) && (decide (s.c = 1) || decide (o % 2 = 0))
  let side := if lev = true then s.r else s.c
  let many := if o / 2 % 3 = 0 then side / 2 else 1 + o / 6 % (side / 2)
  let e := if lev = true then (if o / 100 % 2 = 0 then Ed.top else .bottom) else if o / 100 % 2 = 0 then .left else .right
  let f : Fold := ⟨e, many, decide (o / 200 % 2 = 0)⟩
  if lev = true then ⟨s.r - many, s.c, s.fs ++ [f]⟩ else ⟨s.r, s.c - many, s.fs ++ [f]⟩
def envF (r0 c0 : Int) (cells : List Int) (num : Int) (s : St) : PEnv := [some (.int s.r), some (.int s.c), some (.lst (cells.map P.int)), some (.int num), some (.lst (s.fs.map Fold.p)), none, none, none, none, none]

theorem at_mod_len {cells : List Int} {n : Nat} (h : cells ≠ []) : atI (cells.map P.int) ((n : Int) % (cells.length : Int)) = some (.int (cellAt cells n)) := by
  unfold cellAt
  have hl : 0 < cells.length := List.length_pos_iff.mpr h
  rw [atI_mod (by simp) (by omega)]
  have e : ((n : Int) % (cells.length : Int)).toNat = n % cells.length := by omega
  have hlt : n % cells.length < cells.length := Nat.mod_lt _ hl
  rw [e, List.getD_eq_getElem?_getD, List.getElem?_map, List.getD_eq_getElem?_getD, List.getElem?_eq_getElem hlt]
  rfl
theorem loop_body (cells : List Int) (hne : cells ≠ []) (num : Int) (s : St) (h1 : 1 ≤ s.r ∧ s.r ≤ 8 ∧ 1 ≤ s.c ∧ s.c ≤ 8) (h2 : ¬ (s.r = 1 ∧ s.c = 1)) (h3 : s.fs.length ≤ 100) : L__law_folds_1 (envF 0 0 cells num s) = some (.nx (envF 0 0 cells num (turn cells num s))) := by
  have e1 := mixed_eq (cellAt cells s.fs.length) (7 + (s.fs.length : Nat)) (by omega)
  have pos : 0 < cells.length := List.length_pos_iff.mpr hne
  simp [L__law_folds_1, envF, at_mod_len hne, pos, e1]
  change _ = _
  rw [show mixed (cellAt cells s.fs.length) (7 + (s.fs.length : Int)) + num = own cells num s from rfl]
  unfold turn
  generalize own cells num s = o
  have hsz : s.fs.length < sizeLine := by rw [sizeLine_eq]; omega
  by_cases hl : 1 < s.r ∧ (s.c = 1 ∨ o % 2 = 0)
  · have p1 : 0 < s.r / 2 := by omega
    by_cases h5 : o / 2 % 3 = 0 <;> simp [hl, p1, h5, hsz, at2] <;> (by_cases ha : o / 100 % 2 = 0 <;> by_cases hb : o / 200 % 2 = 0 <;> simp [Fold.p, Ed.s, wayS, ha, hb])
  · have hc : 1 < s.c := by
      by_cases hr : 1 < s.r
      · have : ¬ s.c = 1 := fun z => hl ⟨hr, .inl z⟩
        omega
      · have : ¬ s.c = 1 := fun z => h2 ⟨by omega, z⟩
        omega
    have p1 : 0 < s.c / 2 := by omega
    by_cases h5 : o / 2 % 3 = 0 <;> simp [hl, p1, h5, hsz, at2] <;> (by_cases ha : o / 100 % 2 = 0 <;> by_cases hb : o / 200 % 2 = 0 <;> simp [Fold.p, Ed.s, wayS, ha, hb])

theorem runF_app : ∀ (ps qs : List P) (k r c : Int), runF k r c (ps ++ qs) = match runF k r c ps with
    | .ok (a, b) => runF (k + ps.length) a b qs
    | .error n => .error n
  | [], qs, k, r, c => by simp [runF]
  | p :: ps, qs, k, r, c => by
    rw [List.cons_append, runF, runF]
    cases afterP r c p with
    | none => rfl
    | some s =>
      obtain ⟨a, b⟩ := s
      simp only
      rw [runF_app ps qs (k + 1) a b]
      simp only [List.length_cons]
      rw [show k + 1 + (ps.length : Int) = k + ((ps.length + 1 : Nat) : Int) by omega]
/-- what stands at each turn -/
structure Inv (r0 c0 : Int) (s : St) : Prop where
  b : 1 ≤ s.r ∧ s.r ≤ 8 ∧ 1 ≤ s.c ∧ s.c ≤ 8
  run : runF 1 r0 c0 (s.fs.map Fold.p) = .ok (s.r, s.c)
  len : (s.fs.length : Int) + s.r + s.c ≤ 16
  m : ∀ f ∈ s.fs, 1 ≤ f.m
theorem inv_turn {r0 c0 num : Int} {cells : List Int} {s : St} (I : Inv r0 c0 s) (h2 : ¬ (s.r = 1 ∧ s.c = 1)) : Inv r0 c0 (turn cells num s) ∧ (turn cells num s).r + (turn cells num s).c < s.r + s.c := by
  obtain ⟨b, run, len, m⟩ := I
  unfold turn
  generalize own cells num s = o
  have half : ∀ x : Int, 1 < x → x ≤ 8 → 1 ≤ (if o / 2 % 3 = 0 then x / 2 else 1 + o / 6 % (x / 2)) ∧ 2 * (if o / 2 % 3 = 0 then x / 2 else 1 + o / 6 % (x / 2)) ≤ x := fun x h1 h8 => by
    split
    · omega
    · have a := Int.emod_nonneg (o / 6) (b := x / 2) (by omega)
      have b := Int.emod_lt_of_pos (o / 6) (b := x / 2) (by omega)
      omega
  by_cases hl : 1 < s.r ∧ (s.c = 1 ∨ o % 2 = 0)
  · obtain ⟨g1, g2⟩ := half s.r hl.1 b.2.1
    simp [hl]
    generalize (if o / 2 % 3 = 0 then s.r / 2 else 1 + o / 6 % (s.r / 2)) = mm at g1 g2 ⊢
    refine ⟨⟨by simp; omega, ?_, by simp; omega, ?_⟩, by omega⟩
    · simp only [List.map_append, List.map_cons, List.map_nil]
      rw [runF_app, run]
      simp only [runF]
      unfold afterP
      rw [foldOf_p _ g1]
      by_cases ha : o / 100 % 2 = 0 <;> simp [after, Ed.lev, g2, ha]
    · intro f hf
      rcases List.mem_append.mp hf with hf | hf
      · exact m f hf
      · rw [List.mem_singleton.mp hf]
        exact g1
  · have hc : 1 < s.c := by
      by_cases hr : 1 < s.r
      · have : ¬ s.c = 1 := fun z => hl ⟨hr, .inl z⟩
        omega
      · have : ¬ s.c = 1 := fun z => h2 ⟨by omega, z⟩
        omega
    obtain ⟨g1, g2⟩ := half s.c hc b.2.2.2
    simp [hl]
    generalize (if o / 2 % 3 = 0 then s.c / 2 else 1 + o / 6 % (s.c / 2)) = mm at g1 g2 ⊢
    refine ⟨⟨by simp; omega, ?_, by simp; omega, ?_⟩, by omega⟩
    · simp only [List.map_append, List.map_cons, List.map_nil]
      rw [runF_app, run]
      simp only [runF]
      unfold afterP
      rw [foldOf_p _ g1]
      by_cases ha : o / 100 % 2 = 0 <;> simp [after, Ed.lev, g2, ha]
    · intro f hf
      rcases List.mem_append.mp hf with hf | hf
      · exact m f hf
      · rw [List.mem_singleton.mp hf]
        exact g1
/-- a good scheme -/
structure Good (r c : Int) (fs : List Fold) : Prop where
  b : 1 ≤ r ∧ r ≤ 8 ∧ 1 ≤ c ∧ c ≤ 8 ∧ r * c ≤ 32
  run : runF 1 r c (fs.map Fold.p) = .ok (1, 1)
  len : fs.length ≤ 14
  m : ∀ f ∈ fs, 1 ≤ f.m
theorem folds_eq (r c num : Int) (cells : List Int) (hne : cells ≠ []) (b : 1 ≤ r ∧ r ≤ 8 ∧ 1 ≤ c ∧ c ≤ 8 ∧ r * c ≤ 32) : ∃ fs, X__law_folds [.int r, .int c, .lst (cells.map P.int), .int num] = ret (.lst (fs.map Fold.p)) ∧ Good r c fs := by
  obtain ⟨y, h1, I, h2⟩ := whileL_meas (c := xOp qNe (xTup [(xV 0), (xV 1)]) (xTup [(xC (.int 1)), (xC (.int 1))])) (body := L__law_folds_1) (fun s : St => envF 0 0 cells num s) (Inv r c) (fun s => !(decide (s.r = 1) && decide (s.c = 1))) (fun s => (s.r + s.c).toNat)
    (fun x _ => by simp [envF]) (fun x I hg => by
      have h2 : ¬ (x.r = 1 ∧ x.c = 1) := fun z => by simp [z.1, z.2] at hg
      obtain ⟨I2, hm⟩ := inv_turn (cells := cells) (num := num) I h2
      have hl : x.fs.length ≤ 100 := by have := I.len; have := I.b; omega
      exact ⟨_, loop_body cells hne num x I.b h2 hl, I2, by have := I2.b; omega⟩) 10000 ⟨r, c, []⟩ (by simp; omega) ⟨⟨b.1, b.2.1, b.2.2.1, b.2.2.2.1⟩, by simp [runF], by simp; omega, fun _ h => nomatch h⟩
  have hy : y.r = 1 ∧ y.c = 1 := by simpa using h2
  refine ⟨y.fs, ?_, b, ?_, ?_, I.m⟩
  · have e : envF 0 0 cells num ⟨r, c, []⟩ = [some (.int r), some (.int c), some (.lst (cells.map P.int)), some (.int num), some (.lst []), none, none, none, none, none] := rfl
    rw [e] at h1
    simp [X__law_folds, B__law_folds, xDef, start0, h1]
    simp [envF]
  · rw [I.run, hy.1, hy.2]
  · have := I.len
    omega
theorem intsP_map : ∀ xs : List Int, intsP (xs.map P.int) = some xs
  | [] => rfl
  | x :: xs => by rw [List.map_cons, intsP, intsP_map xs]
theorem scheme_eq (ns : List Int) (hl : ns.length ≤ 63) (k : Int) (hk : 0 ≤ k ∧ k ≤ 1000) : ∃ r c fs, X__law_scheme [.lst (ns.map P.int), .int k] = ret (.tup [.int r, .int c, .lst (fs.map Fold.p)]) ∧ Good r c fs := by
  have hs : ∀ xs : List Int, qSum [.lst (xs.map P.int)] = some (.int xs.sum) := fun xs => by rw [qSum, intsP_map]; rfl
  have cut : cutX (ns.map P.int) none (some 200) = ns.map P.int := by
    rw [cut_to (by decide), List.take_of_length_le (by rw [List.length_map]; omega)]
  obtain ⟨cells, hce⟩ : ∃ c, c = ns ++ [ns.sum + (ns.length : Int)] := ⟨_, rfl⟩
  have hp : ns.map P.int ++ [P.int (ns.sum + (ns.length : Int))] = cells.map P.int := by rw [hce]; simp
  have hne : cells ≠ [] := by rw [hce]; simp
  have z1 : ns.length + 1 ≤ sizeLine := by rw [sizeLine_eq]; omega
  have e1 := mixed_eq cells.sum k (by omega)
  have b := sizeN_ok (mixed cells.sum k)
  obtain ⟨fs, h1, h2⟩ := folds_eq (sizeN (mixed cells.sum k)).1 (sizeN (mixed cells.sum k)).2 (mixed cells.sum k / 1000) cells hne b
  refine ⟨_, _, fs, ?_, h2⟩
  simp [X__law_scheme, B__law_scheme, xDef, start0, cut, hs, z1, hp, e1, size_eq, h1]
theorem kinds_eq (fe : List (Str × V)) (c : Nat) (n : Str) (h : (c, n) ∈ [(2, ("row" : Str)), (3, "scheme"), (4, "sheet"), (5, "book"), (6, "great"), (7, "place")]) : X__law_kinds [.exc c fe] = ret (.lst [.str n]) := by
  have z : 6 ≤ sizeLine ∧ 4 ≤ sizeLine ∧ 7 ≤ sizeLine ∧ 8 ≤ sizeLine := by rw [sizeLine_eq]; omega
  simp at h
  rcases h with ⟨rfl, rfl⟩ | ⟨rfl, rfl⟩ | ⟨rfl, rfl⟩ | ⟨rfl, rfl⟩ | ⟨rfl, rfl⟩ | ⟨rfl, rfl⟩ <;>
    simp [X__law_kinds, B__law_kinds, xDef, start0, isT, isV, z, lcK_ap, lcL_cons, lcL_nil, lcStep_ap]

theorem fold_kn {f : Fold} : Kn3 f.p := ⟨by simp [Fold.p], fun x y z h => by
  simp [Fold.p] at h
  obtain ⟨rfl, rfl, rfl⟩ := h
  simp⟩
theorem good_none {r c : Int} {fs : List Fold} (g : Good r c fs) : wrongF r c (fs.map Fold.p) = none := by
  unfold wrongF
  rw [g.run]
  simp
theorem ok_rc {r c : Int} (b : 1 ≤ r ∧ r ≤ 8 ∧ 1 ≤ c ∧ c ≤ 8 ∧ r * c ≤ 32) : okSize (.int r) (.int c) = true := by
  simp [okSize]
  omega
theorem maps_kn {fs : List Fold} : ∀ p ∈ fs.map Fold.p, Kn3 p := fun p hp => by
  obtain ⟨f, _, rfl⟩ := List.mem_map.mp hp
  exact fold_kn
theorem same_folds (fs : List Fold) : eqPs (fs.map Fold.p) (fs.map Fold.p) = true := by
  induction fs with
  | nil => simp
  | cons f fs ih =>
    rw [List.map_cons, eqPs_cons, ih]
    simp [Fold.p]
theorem fit_folds (fs : List Fold) : fitPs 58 (fs.map Fold.p) = true := fitPs_all fun p hp => by
  obtain ⟨f, _, rfl⟩ := List.mem_map.mp hp
  obtain ⟨e, m, o⟩ := f
  cases e <;> cases o <;> simp [Fold.p, Ed.s, wayS]

end Q03

namespace Q03
open PySem PySem.Spec PyProof.Rows L2 FP PX
/-! reading -/
theorem found_eq {t : Str} (ht : t.length < 80000) : X__law_found [.str t] = ret (resP ((rowsT t).map wordsT)) := by
  have hp := rowsT_pos t
  cases hr : rowsT t with
  | nil => rw [hr] at hp; simp at hp
  | cons r0 rest =>
    have h := read_scheme_eq ht hr
    have hlen : rest.length ≤ 90000 := by
      have := rowsT_le t
      rw [hr] at this
      simp at this
      omega
    rw [List.map_cons, resP]
    cases hw : rowW sizeC (wordsT r0) with
    | some n =>
      rw [hw] at h
      have hk := kinds_eq (fsRow 1 n) 2 "row" (by simp)
      simp [X__law_found, B__law_found, xDef, start0, h, catch_PressError, isNoP, hk, List.lookup_cons]
    | none =>
      rw [hw] at h
      simp only at h ⊢
      cases hs : scanF (rest.map wordsT) 2 with
      | some x =>
        obtain ⟨i, n⟩ := x
        rw [hs] at h
        have hk := kinds_eq (fsRow i n) 2 "row" (by simp)
        simp [X__law_found, B__law_found, xDef, start0, h, catch_PressError, isNoP, hk, List.lookup_cons]
      | none =>
        rw [hs] at h
        simp only at h ⊢
        have b := sizeV_ok hw
        have kn : ∀ p ∈ rest.map (fun t => foldV (wordsT t)), Kn3 p := fun p hp => by
          obtain ⟨x, _, rfl⟩ := List.mem_map.mp hp
          exact foldV_kn _
        have hmm : (rest.map wordsT).map foldV = rest.map fun t => foldV (wordsT t) := by rw [List.map_map]; rfl
        rw [hmm]
        by_cases hz : (sizeV (wordsT r0)).1 * (sizeV (wordsT r0)).2 > 32
        · rw [if_pos hz]
          have := scheme_bad0 (p := .int (sizeV (wordsT r0)).1) (q := .int (sizeV (wordsT r0)).2) (f := .lst (rest.map fun t => foldV (wordsT t))) Kn_int Kn_int Kn_lst (.inl (by simp [okSize]; omega))
          rw [this] at h
          have hk := kinds_eq (fsAt 0) 3 "scheme" (by simp)
          simp [X__law_found, B__law_found, xDef, start0, h, catch_PressError, isNoP, hk]
        · rw [if_neg hz]
          have ok : okSize (.int (sizeV (wordsT r0)).1) (.int (sizeV (wordsT r0)).2) = true := by simp [okSize]; omega
          cases hwf : wrongF (sizeV (wordsT r0)).1 (sizeV (wordsT r0)).2 (rest.map fun t => foldV (wordsT t)) with
          | some k =>
            rw [scheme_bad _ _ _ kn (by simp; omega) ok hwf] at h
            have hk := kinds_eq (fsAt k) 3 "scheme" (by simp)
            simp [X__law_found, B__law_found, xDef, start0, h, catch_PressError, isNoP, hk]
          | none =>
            rw [scheme_ok _ _ _ kn (by simp; omega) ok hwf] at h
            have tl := told_eq (sizeV (wordsT r0)).1 (sizeV (wordsT r0)).2 (rest.map fun t => foldV (wordsT t))
            unfold schP at tl h
            simp [X__law_found, B__law_found, xDef, start0, h, isNoP, tl]
theorem fig_strs : qStr [.int 1] = some (.str "1") ∧ qStr [.int 2] = some (.str "2") ∧ qStr [.int 3] = some (.str "3") ∧ qStr [.int 4] = some (.str "4") ∧ qStr [.int 5] = some (.str "5") ∧ qStr [.int 6] = some (.str "6") ∧ qStr [.int 7] = some (.str "7") ∧ qStr [.int 8] = some (.str "8") := by
  have h : ∀ k : Int, k.natAbs.log2 < 1920 → qStr [.int k] = some (.str (Str.ofString (toString k))) := fun k h => if_pos h
  have e : Str.ofString (toString (1 : Int)) = "1" ∧ Str.ofString (toString (2 : Int)) = "2" ∧ Str.ofString (toString (3 : Int)) = "3" ∧ Str.ofString (toString (4 : Int)) = "4" ∧ Str.ofString (toString (5 : Int)) = "5" ∧ Str.ofString (toString (6 : Int)) = "6" ∧ Str.ofString (toString (7 : Int)) = "7" ∧ Str.ofString (toString (8 : Int)) = "8" := by decide +kernel
  obtain ⟨e1, e2, e3, e4, e5, e6, e7, e8⟩ := e
  refine ⟨?_, ?_, ?_, ?_, ?_, ?_, ?_, ?_⟩ <;> rw [h _ (by decide)]
  · rw [e1]
  · rw [e2]
  · rw [e3]
  · rw [e4]
  · rw [e5]
  · rw [e6]
  · rw [e7]
  · rw [e8]
theorem sides_eq (ρ : PEnv) (hρ : ∃ a b, ρ = [a, b, none, none, none, none]) : lcK (tkN 4) none (xCB qStr [(xV 4)]) [4] ρ (some (rngP 1 8)) = ret (.lst (figs.map P.str)) := by
  obtain ⟨a, b, rfl⟩ := hρ
  obtain ⟨e1, e2, e3, e4, e5, e6, e7, e8⟩ := fig_strs
  refine lcK_some (by decide) ?_
  rw [show rngP 1 8 = [P.int 1, P.int 2, P.int 3, P.int 4, P.int 5, P.int 6, P.int 7, P.int 8] from rfl]
  simp [lcL_cons, lcL_nil, lcStep_ap, e1, e2, e3, e4, e5, e6, e7, e8]
/-- the law's own look at a row -/
def lwA : List (List Str) → List Str → Nat → Option Nat
  | [], _, _ => none
  | _ :: _, [], k => some (k + 1)
  | c :: cs, u :: us, k => if u ∈ c then lwA cs us (k + 1) else some (k + 1)
theorem wrW_L : ∀ (us : List Str) (cs : List (List Str)) (k : Nat), wrW us cs k = match lwA cs us k with
    | some n => some n
    | none => if us.length = cs.length then none else some (k + cs.length + 1)
  | [], [], k => by simp [wrW, lwA]
  | [], _ :: _, k => by simp [wrW, lwA]
  | w :: ws, [], k => by simp [wrW, lwA]
  | w :: ws, c :: cs, k => by
    rw [wrW, lwA, wrW_L ws cs (k + 1)]
    split
    · split
      · rfl
      · simp only [List.length_cons]
        by_cases h : ws.length = cs.length
        · rw [if_pos h, if_pos (by omega)]
        · rw [if_neg h, if_neg (by omega)]
          congr 1
          omega
    · rfl
def csP (cs : List (List Str)) : List P := cs.map fun c => .lst (c.map P.str)
theorem fw_loop (ws : List Str) (b w : P) (s : Option P) : ∀ (cs : List (List Str)) (k : Nat), k ≤ ws.length →
    match lwA cs (ws.drop k) k with
      | some n => forL (tkT [(tkN 4), (tkN 5)]) L__law_first_wrong_1 (enumP (k : Int) (csP cs)) [some (.lst (ws.map P.str)), some b, s, some w, none, none] = some (.rt (.int n))
      | none => forL (tkT [(tkN 4), (tkN 5)]) L__law_first_wrong_1 (enumP (k : Int) (csP cs)) [some (.lst (ws.map P.str)), some b, s, some w, none, none] = some (.nx [some (.lst (ws.map P.str)), some b, s, some w, none, none])
  | [], k, _ => by simp [lwA, csP, enumP_nil]
  | c :: cs, k, hk => by
    have ih := fw_loop ws b w s cs (k + 1)
    unfold csP at ih ⊢
    rw [List.map_cons, enumP_cons, forL_cons]
    rw [show ((k + 1 : Nat) : Int) = (k : Int) + 1 by omega] at ih
    cases hd : ws.drop k with
    | nil =>
      have hl : ws.length ≤ k := List.drop_eq_nil_iff.mp hd
      have : (k : Int) = (ws.length : Int) := by omega
      simp [L__law_first_wrong_1, lwA, this]
    | cons u us =>
      have hlt : k < ws.length := by
        rcases Nat.lt_or_ge k ws.length with h | h
        · exact h
        · rw [List.drop_eq_nil_iff.mpr h] at hd; cases hd
      have hc : ws[k]? = some u := by
        have := congrArg List.head? hd
        rw [List.head?_drop] at this
        simpa using this
      have hcs : ws.drop (k + 1) = us := by
        have := congrArg List.tail hd
        rw [List.tail_drop] at this
        simpa using this
      have hix : atI (ws.map P.str) (k : Int) = some (.str u) := by
        rw [atI_in (by omega) (by rw [List.length_map]; omega)]
        simp [List.getD_eq_getElem?_getD, hc]
      have ne : ¬ (k : Int) = (ws.length : Int) := by omega
      have hin := ni_strsL u c
      rw [lwA]
      rw [hcs] at ih
      by_cases hu : u ∈ c
      · simp [L__law_first_wrong_1, hix, ne, hin, hu]
        exact ih hlt
      · simp [L__law_first_wrong_1, hix, ne, hin, hu]
theorem first_wrong_law (ws : List Str) (b : Bool) : X__law_first_wrong [.lst (ws.map P.str), .bl b] = ret (natO (rowW (if b = true then sizeC else foldC) ws)) := by
  have z : (4 : Nat) ≤ sizeLine := by rw [sizeLine_eq]; omega
  have hs := sides_eq [some (.lst (ws.map P.str)), some (.bl b), none, none, none, none] ⟨_, _, rfl⟩
  have hi := in_strsL "" ws
  have hlp := fun w cs => fw_loop ws (.bl b) w (some (.lst (figs.map P.str))) cs 0 (Nat.zero_le _)
  simp only [List.drop_zero] at hlp
  unfold rowW
  by_cases hq : ("" : Str) ∈ ws
  · cases b <;> simp at hs <;> simp [X__law_first_wrong, B__law_first_wrong, xDef, start0, hs, hi, hq, natO]
  · rw [if_neg hq, wrW_L]
    cases b with
    | true =>
      have h1 := hlp (.lst (csP sizeC)) sizeC
      have hc : csP sizeC = [.lst [.str "sheet"], .lst (figs.map P.str), .lst (figs.map P.str)] := rfl
      rw [hc] at h1
      simp only [if_true]
      cases hl : lwA sizeC ws 0 with
      | some n =>
        rw [hl] at h1
        simp at h1 hs
        simp [X__law_first_wrong, B__law_first_wrong, xDef, start0, hs, hi, hq, natO, h1]
      | none =>
        rw [hl] at h1
        simp at h1 hs
        by_cases hn : ws.length = 3
        · simp [X__law_first_wrong, B__law_first_wrong, xDef, start0, hs, hi, hq, h1, sizeC, hn, natO]
        · have hn' : ¬ (ws.length : Int) = 3 := by omega
          simp [X__law_first_wrong, B__law_first_wrong, xDef, start0, hs, hi, hq, h1, sizeC, hn, hn', natO]
    | false =>
      have h1 := hlp (.lst (csP foldC)) foldC
      have hc : csP foldC = [.lst [.str "fold"], .lst (edges.map P.str), .lst (figs.map P.str), .lst (ways.map P.str)] := rfl
      rw [hc] at h1
      simp only [Bool.false_eq_true, if_false]
      cases hl : lwA foldC ws 0 with
      | some n =>
        rw [hl] at h1
        simp at h1 hs
        simp [X__law_first_wrong, B__law_first_wrong, xDef, start0, hs, hi, hq, natO, h1]
      | none =>
        rw [hl] at h1
        simp at h1 hs
        by_cases hn : ws.length = 4
        · simp [X__law_first_wrong, B__law_first_wrong, xDef, start0, hs, hi, hq, h1, foldC, hn, natO]
        · have hn' : ¬ (ws.length : Int) = 4 := by omega
          simp [X__law_first_wrong, B__law_first_wrong, xDef, start0, hs, hi, hq, h1, foldC, hn, hn', natO]
def rowsP (rows : List (List Str)) : List P := rows.map fun ws => .lst (ws.map P.str)
theorem read_loop (a0 a b c : Option P) : ∀ (rows : List (List Str)) (k : Nat) (x : Option P), 1 ≤ k →
    match scanF rows (k + 1) with
    | some (i, n) => forL (tkT [(tkN 4), (tkN 5)]) L__law_read_1 (enumP (k : Int) (rowsP rows)) [a0, a, b, c, none, x, none, none, none, none, none] = some (.rt (.tup [.int i, .int n]))
    | none => ∃ y, forL (tkT [(tkN 4), (tkN 5)]) L__law_read_1 (enumP (k : Int) (rowsP rows)) [a0, a, b, c, none, x, none, none, none, none, none] = some (.nx [a0, a, b, c, none, y, none, none, none, none, none])
  | [], k, x, hk => by
    simp only [scanF]
    exact ⟨x, by simp [rowsP, enumP_nil]⟩
  | ws :: rows, k, x, hk => by
    have ih := read_loop a0 a b c rows (k + 1) (some (.lst (ws.map P.str))) (by omega)
    unfold rowsP at ih ⊢
    rw [List.map_cons, enumP_cons, scanF]
    rw [show ((k + 1 : Nat) : Int) = (k : Int) + 1 by omega] at ih
    have hf := first_wrong_law ws false
    have ne : ¬ k = 0 := by omega
    simp only [Bool.false_eq_true, if_false] at hf
    cases hw : rowW foldC ws with
    | some n =>
      rw [hw] at hf
      rw [forL_cons]
      simp [L__law_read_1, ne, hf, natO, isNoP]
    | none =>
      rw [hw] at hf
      have body : L__law_read_1 [a0, a, b, c, some (.int k), some (.lst (ws.map P.str)), none, none, none, none, none] = some (.nx [a0, a, b, c, none, some (.lst (ws.map P.str)), none, none, none, none, none]) := by
        simp [L__law_read_1, ne, hf, natO, isNoP]
      rw [forL_step rfl body]
      exact ih
theorem edge_of {e : Str} (h : e ∈ edges) : ∃ d : Ed, e = d.s := by
  simp only [edges, List.mem_cons, List.mem_nil_iff, or_false] at h
  rcases h with rfl | rfl | rfl | rfl
  · exact ⟨.left, rfl⟩
  · exact ⟨.right, rfl⟩
  · exact ⟨.top, rfl⟩
  · exact ⟨.bottom, rfl⟩
theorem way_of {e : Str} (h : e ∈ ways) : ∃ o : Bool, e = wayS o := by
  simp only [ways, List.mem_cons, List.mem_nil_iff, or_false] at h
  rcases h with rfl | rfl
  · exact ⟨true, rfl⟩
  · exact ⟨false, rfl⟩
theorem fold_vals {ws : List Str} (h : rowW foldC ws = none) : ∃ f : Fold, foldV ws = f.p ∧ 1 ≤ f.m ∧ f.m ≤ 8 := by
  unfold rowW at h
  split at h
  · cases h
  obtain ⟨e, m, w, rfl, he, hm, hw⟩ := fold_none h
  obtain ⟨d, rfl⟩ := edge_of he
  obtain ⟨o, rfl⟩ := way_of hw
  exact ⟨⟨d, figV m, o⟩, rfl, (fig_ok hm).2.1, (fig_ok hm).2.2⟩
theorem fold_item {ws : List Str} (h : rowW foldC ws = none) (a0 a b c : Option P) : lcStep (tkN 5) none (xTup [(xOp qIx (xV 5) (xC (.int 1))), (xCB qInt [(xOp qIx (xV 5) (xC (.int 2)))]), (xOp qIx (xV 5) (xC (.int 3)))]) [a0, a, b, c, none, none, none, none, none, none, none] (.lst (ws.map P.str)) = some (some (foldV ws)) := by
  unfold rowW at h
  split at h
  · cases h
  obtain ⟨e, m, w, rfl, he, hm, hw⟩ := fold_none h
  obtain ⟨f1, _⟩ := fig_ok hm
  exact step_none rfl (by simp [f1, foldV])
theorem scanF_none : ∀ {rows : List (List Str)} {k : Nat}, scanF rows k = none → ∀ ws ∈ rows, rowW foldC ws = none
  | [], _, _, ws, h => by cases h
  | r :: rows, k, e, ws, h => by
    rw [scanF] at e
    cases hr : rowW foldC r with
    | some n => rw [hr] at e; cases e
    | none =>
      rw [hr] at e
      rcases List.mem_cons.mp h with rfl | h
      · exact hr
      · exact scanF_none e ws h
theorem all_folds : ∀ {rows : List (List Str)}, (∀ ws ∈ rows, rowW foldC ws = none) → ∃ fs : List Fold, rows.map foldV = fs.map Fold.p ∧ (∀ f ∈ fs, 1 ≤ f.m ∧ f.m ≤ 8)
  | [], _ => ⟨[], rfl, fun _ h => nomatch h⟩
  | r :: rows, h => by
    obtain ⟨f, h1, h2⟩ := fold_vals (h r List.mem_cons_self)
    obtain ⟨fs, h3, h4⟩ := all_folds fun ws hw => h ws (List.mem_cons_of_mem _ hw)
    exact ⟨f :: fs, by rw [List.map_cons, h1, h3]; rfl, fun g hg => (List.mem_cons.mp hg).elim (fun z => z ▸ h2) (h4 g)⟩
theorem fold_loop (a0 a c x : Option P) : ∀ (fs : List Fold) (k r cc : Int), (∀ f ∈ fs, 1 ≤ f.m ∧ f.m ≤ 8) →
    match runF (k + 1) r cc (fs.map Fold.p) with
    | .error n => forL (tkT [(tkN 4), (tkT [(tkN 8), (tkN 9), (tkN 10)])]) L__law_read_2 (enumP k (fs.map Fold.p)) [a0, a, some (.tup [.int r, .int cc]), c, none, x, none, none, none, none, none] = some (.rt (.int n))
    | .ok (r', c') => forL (tkT [(tkN 4), (tkT [(tkN 8), (tkN 9), (tkN 10)])]) L__law_read_2 (enumP k (fs.map Fold.p)) [a0, a, some (.tup [.int r, .int cc]), c, none, x, none, none, none, none, none] = some (.nx [a0, a, some (.tup [.int r', .int c']), c, none, x, none, none, none, none, none])
  | [], k, r, cc, _ => by simp [runF, enumP_nil]
  | f :: fs, k, r, cc, h => by
    obtain ⟨h1, h8⟩ := h f List.mem_cons_self
    have ih := fun r cc => fold_loop a0 a c x fs (k + 1) r cc fun g hg => h g (List.mem_cons_of_mem _ hg)
    have e : qIn (.str f.e.s) (.tup [.str "left", .str "right"]) = some (.bl !f.e.lev) := by
      have := in_strs f.e.s ["left", "right"]
      unfold ktP at this
      simp only [List.map_cons, List.map_nil] at this
      rw [this]
      cases f.e <;> simp [Ed.s, Ed.lev]
    rw [List.map_cons, enumP_cons, runF]
    unfold afterP
    rw [foldOf_p f h1]
    simp only [Option.bind_some, after]
    have m2 : mulOk 2 f.m := mulOk_small2
    cases hl : f.e.lev with
    | true =>
      simp only [if_true]
      by_cases h2 : 2 * f.m ≤ r
      · have : ¬ r < 2 * f.m := by omega
        simp only [h2, if_true]
        have body : L__law_read_2 [a0, a, some (.tup [.int r, .int cc]), c, some (.int k), x, none, none, some (.str f.e.s), some (.int f.m), some (.str (wayS f.o))] = some (.nx [a0, a, some (.tup [.int (r - f.m), .int cc]), c, none, x, none, none, none, none, none]) := by
          simp [L__law_read_2, e, hl, m2, this]
        rw [forL_step (by simp [Fold.p]) body]
        exact ih _ _
      · have : r < 2 * f.m := by omega
        simp only [h2, if_false]
        rw [forL_cons]
        simp [L__law_read_2, Fold.p, e, hl, m2, this]
    | false =>
      simp only [Bool.false_eq_true, if_false]
      by_cases h2 : 2 * f.m ≤ cc
      · have : ¬ cc < 2 * f.m := by omega
        simp only [h2, if_true]
        have body : L__law_read_2 [a0, a, some (.tup [.int r, .int cc]), c, some (.int k), x, none, none, some (.str f.e.s), some (.int f.m), some (.str (wayS f.o))] = some (.nx [a0, a, some (.tup [.int r, .int (cc - f.m)]), c, none, x, none, none, none, none, none]) := by
          simp [L__law_read_2, e, hl, m2, this]
        rw [forL_step (by simp [Fold.p]) body]
        exact ih _ _
      · have : cc < 2 * f.m := by omega
        simp only [h2, if_false]
        rw [forL_cons]
        simp [L__law_read_2, Fold.p, e, hl, m2, this]
theorem law_read_eq (ws : List Str) (rest : List (List Str)) (hl : rest.length ≤ 900000) : X__law_read [.lst (rowsP (ws :: rest))] = ret (resP (ws :: rest)) := by
  have hf := first_wrong_law ws true
  simp only [if_true] at hf
  have e0 : rowsP (ws :: rest) = .lst (ws.map P.str) :: rowsP rest := rfl
  rw [resP]
  generalize hA : some (P.lst (rowsP (ws :: rest))) = a0
  have body1 : ∀ n, rowW sizeC ws = some n → ∀ qs, forL (tkT [(tkN 4), (tkN 5)]) L__law_read_1 (enumP 0 (.lst (ws.map P.str) :: qs)) [a0, none, none, none, none, none, none, none, none, none, none] = some (.rt (.tup [.int 1, .int n])) := fun n hn qs => by
    rw [hn] at hf
    rw [enumP_cons, forL_cons]
    simp [L__law_read_1, hf, natO, isNoP]
  cases hw : rowW sizeC ws with
  | some n =>
    have h1 := body1 n hw (rowsP rest)
    rw [← e0] at h1
    subst hA
    simp [X__law_read, B__law_read, xDef, start0, h1]
  | none =>
    rw [hw] at hf
    have body : L__law_read_1 [a0, none, none, none, some (.int 0), some (.lst (ws.map P.str)), none, none, none, none, none] = some (.nx [a0, none, none, none, none, some (.lst (ws.map P.str)), none, none, none, none, none]) := by
      simp [L__law_read_1, hf, natO, isNoP]
    have lp := read_loop a0 none none none rest 1 (some (.lst (ws.map P.str))) (by omega)
    have st : ∀ qs, forL (tkT [(tkN 4), (tkN 5)]) L__law_read_1 (enumP 0 (.lst (ws.map P.str) :: qs)) [a0, none, none, none, none, none, none, none, none, none, none] = forL (tkT [(tkN 4), (tkN 5)]) L__law_read_1 (enumP 1 qs) [a0, none, none, none, none, some (.lst (ws.map P.str)), none, none, none, none, none] := fun qs => by
      rw [enumP_cons, forL_step rfl body]
      rfl
    simp only
    cases hs : scanF rest 2 with
    | some x =>
      obtain ⟨i, n⟩ := x
      rw [hs] at lp
      simp only at lp
      have h1 := (st (rowsP rest)).trans lp
      rw [← e0] at h1
      subst hA
      simp [X__law_read, B__law_read, xDef, start0, h1]
    | none =>
      rw [hs] at lp
      simp only at lp ⊢
      obtain ⟨y, lp⟩ := lp
      have h1 := (st (rowsP rest)).trans lp
      rw [← e0] at h1
      have b := sizeV_ok hw
      have hall := scanF_none hs
      obtain ⟨fs, hfs, hm⟩ := all_folds hall
      have hw' : wrW ws sizeC 0 = none := by
        unfold rowW at hw
        split at hw
        · cases hw
        · exact hw
      obtain ⟨x1, x2, rfl, m1, m2⟩ := size_none hw'
      have q1 := (fig_ok m1).1
      have q2 := (fig_ok m2).1
      have mo : mulOk (figV x1) (figV x2) := mulOk_small (by have := (fig_ok m1).2; omega)
      have sv : sizeV [("sheet" : Str), x1, x2] = (figV x1, figV x2) := rfl
      rw [sv] at b ⊢
      simp only at b ⊢
      subst hA
      by_cases hz : figV x1 * figV x2 > 32
      · rw [if_pos hz]
        simp [rowsP] at h1
        simp [X__law_read, B__law_read, xDef, start0, h1, rowsP, q1, q2, mo, hz]
      · rw [if_neg hz]
        have hz' : ¬ 32 < figV x1 * figV x2 := by omega
        have lc := fun (a0 a b c : Option P) => lcL_map (fun ws : List Str => P.lst (ws.map P.str)) foldV (f := lcStep (tkN 5) none (xTup [(xOp qIx (xV 5) (xC (.int 1))), (xCB qInt [(xOp qIx (xV 5) (xC (.int 2)))]), (xOp qIx (xV 5) (xC (.int 3)))]) [a0, a, b, c, none, none, none, none, none, none, none]) rest fun w hw => fold_item (hall w hw) a0 a b c
        have cut : cutX (rowsP ([("sheet" : Str), x1, x2] :: rest)) (some 1) none = rowsP rest := by rw [cut_from (by omega)]; rfl
        have lcK := fun (a0 a b c y : Option P) => lcK_some (tk := tkN 5) (c := none) (e := xTup [(xOp qIx (xV 5) (xC (.int 1))), (xCB qInt [(xOp qIx (xV 5) (xC (.int 2)))]), (xOp qIx (xV 5) (xC (.int 3)))]) (vs := [5]) (ρ := [a0, a, b, c, none, y, none, none, none, none, none]) (xs := rowsP rest) (by unfold rowsP; rw [List.length_map]; omega) (lc a0 a b c)
        have lp2 := fun (a0 a c x : Option P) => fold_loop a0 a c x fs 0 (figV x1) (figV x2) hm
        have hlen : rest.length = fs.length := by
          have := congrArg List.length hfs
          simpa using this
        rw [hfs] at lcK ⊢
        unfold wrongF
        have ix1 : atI (rowsP ([("sheet" : Str), x1, x2] :: rest)) 0 = some (.lst [.str "sheet", .str x1, .str x2]) := by simp [rowsP]
        generalize rowsP ([("sheet" : Str), x1, x2] :: rest) = RP at h1 cut ix1 ⊢
        generalize rowsP rest = RR at cut lcK
        simp only [Int.zero_add] at lp2
        cases hr : runF 1 (figV x1) (figV x2) (fs.map Fold.p) with
        | error n =>
          simp only [hr] at lp2
          simp [X__law_read, B__law_read, xDef, start0, h1, ix1, q1, q2, mo, hz', cut, lcK, lp2]
        | ok s =>
          obtain ⟨r', c'⟩ := s
          simp only [hr] at lp2
          by_cases h11 : r' = 1 ∧ c' = 1
          · simp [X__law_read, B__law_read, xDef, start0, h1, ix1, q1, q2, mo, hz', cut, lcK, lp2, h11]
          · simp [X__law_read, B__law_read, xDef, start0, h1, ix1, q1, q2, mo, hz', cut, lcK, lp2, h11]
end Q03

namespace Q03
open PySem PySem.Spec PyProof.Rows L2 FP PX
@[simp] theorem qRep_lst {xs : List P} {k : Int} : qRep (.lst xs) (.sc (.int k)) = if -(2 ^ 63) ≤ k ∧ k < 2 ^ 63 ∧ xs.length * k.toNat ≤ sizeLine then some (.lst (List.replicate k.toNat xs).flatten) else none := rfl
/-! rows bent -/
structure Sm (rows : List (List Str)) (n m : Nat) : Prop where
  ne : rows ≠ []
  len : rows.length ≤ n
  row : ∀ ws ∈ rows, ws.length ≤ m ∧ ∀ w ∈ ws, w.length ≤ 8
abbrev wordsB : List Str := ["sheet", "fold", "left", "bottom", "over", "under", "1", "8", "9", "0", "01", "", "x", "Left"]
theorem wordsB_len : ∀ w ∈ wordsB, w.length ≤ 8 := by decide +kernel
theorem word_at (n : Int) : ∃ w : Str, atI (wordsB.map P.str) (n % 14) = some (.str w) ∧ w.length ≤ 8 := by
  have h0 := Int.emod_nonneg n (b := 14) (by decide)
  have h1 := Int.emod_lt_of_pos n (b := 14) (by decide)
  rw [atI_mod (k := 14) (by decide) (by decide)]
  have hlt : (n % 14).toNat < wordsB.length := by
    have : wordsB.length = 14 := rfl
    omega
  refine ⟨wordsB[(n % 14).toNat], ?_, wordsB_len _ (List.getElem_mem hlt)⟩
  rw [List.getD_eq_getElem?_getD, List.getElem?_map, List.getElem?_eq_getElem hlt]
  rfl
theorem rowsP_app (a b : List (List Str)) : rowsP (a ++ b) = rowsP a ++ rowsP b := List.map_append
theorem bent_eq (rows : List (List Str)) (num : Int) {n m : Nat} (h : Sm rows n m) (hn : n ≤ 100) (hm : m ≤ 100) (h4 : 4 ≤ m) : ∃ rows', X__law_bent [.lst (rowsP rows), .int num] = FP.ret (.lst (rowsP rows')) ∧ Sm rows' (n + 1) (m + 1) := by
  have hpos : 0 < rows.length := List.length_pos_iff.mpr h.ne
  have lr : (rowsP rows).length = rows.length := by unfold rowsP; rw [List.length_map]
  obtain ⟨at_, hat, hat2⟩ : ∃ k : Nat, num / 12 % (rows.length : Int) = k ∧ k < rows.length := by
    have h0 := Int.emod_nonneg (num / 12) (b := (rows.length : Int)) (by omega)
    have h1 := Int.emod_lt_of_pos (num / 12) (b := (rows.length : Int)) (by omega)
    exact ⟨(num / 12 % (rows.length : Int)).toNat, by omega, by omega⟩
  obtain ⟨row, hrow⟩ : ∃ row, rows[at_]? = some row := ⟨rows[at_], List.getElem?_eq_getElem hat2⟩
  have mrow : row ∈ rows := List.mem_of_getElem? hrow
  obtain ⟨rl, rw8⟩ := h.row row mrow
  have ix : atI (rowsP rows) (at_ : Int) = some (.lst (row.map P.str)) := by
    rw [atI_in (by omega) (by rw [lr]; omega)]
    unfold rowsP
    simp [List.getD_eq_getElem?_getD, hrow]
  obtain ⟨spot, hsp, hsp2⟩ : ∃ k : Nat, num / 1200 % ((row.length : Int) + 1) = k ∧ k ≤ row.length := by
    have h0 := Int.emod_nonneg (num / 1200) (b := (row.length : Int) + 1) (by omega)
    have h1 := Int.emod_lt_of_pos (num / 1200) (b := (row.length : Int) + 1) (by omega)
    exact ⟨(num / 1200 % ((row.length : Int) + 1)).toNat, by omega, by omega⟩
  obtain ⟨word, hwd, hw8⟩ := word_at (num / 40000)
  simp at hwd
  have c1 : cutX (rowsP rows) none (some (at_ : Int)) = rowsP (rows.take at_) := by rw [cut_to (by omega)]; unfold rowsP; rw [List.map_take]; rfl
  have c2 : cutX (rowsP rows) (some ((at_ : Int) + 1)) none = rowsP (rows.drop (at_ + 1)) := by rw [cut_from (by omega)]; unfold rowsP; rw [List.map_drop, show ((at_ : Int) + 1).toNat = at_ + 1 by omega]
  have c3 : cutX (rowsP rows) (some (at_ : Int)) none = rowsP (rows.drop at_) := by rw [cut_from (by omega)]; unfold rowsP; rw [List.map_drop]; rfl
  have c4 : cutX (row.map P.str) none (some (spot : Int)) = (row.take spot).map P.str := by rw [cut_to (by omega), List.map_take]; rfl
  have c5 : cutX (row.map P.str) (some ((spot : Int) + 1)) none = (row.drop (spot + 1)).map P.str := by rw [cut_from (by omega), List.map_drop, show ((spot : Int) + 1).toNat = spot + 1 by omega]
  have l1 : (rowsP (rows.take at_)).length = at_ := by unfold rowsP; rw [List.length_map, List.length_take]; omega
  have l2 : (rowsP (rows.drop (at_ + 1))).length = rows.length - (at_ + 1) := by unfold rowsP; rw [List.length_map, List.length_drop]
  have l3 : (rowsP (rows.drop at_)).length = rows.length - at_ := by unfold rowsP; rw [List.length_map, List.length_drop]
  have hlen := h.len
  have sz := sizeLine_eq
  have z1 : (rowsP (rows.take at_)).length + (rowsP (rows.drop (at_ + 1))).length ≤ sizeLine := by rw [l1, l2]; omega
  have z2 : (rowsP (rows.take at_)).length + 1 ≤ sizeLine := by rw [l1]; omega
  have y0 := Int.emod_nonneg num (b := 12) (by decide)
  have y1 := Int.emod_lt_of_pos num (b := 12) (by decide)
  generalize hy : num % 12 = y at y0 y1
  have sub1 : ∀ ws ∈ rows.take at_, ws.length ≤ m + 1 ∧ ∀ w ∈ ws, w.length ≤ 8 := fun ws hw => by
    obtain ⟨a, b⟩ := h.row ws (List.mem_of_mem_take hw)
    exact ⟨by omega, b⟩
  have sub2 : ∀ k, ∀ ws ∈ rows.drop k, ws.length ≤ m + 1 ∧ ∀ w ∈ ws, w.length ≤ 8 := fun k ws hw => by
    obtain ⟨a, b⟩ := h.row ws (List.mem_of_mem_drop hw)
    exact ⟨by omega, b⟩
  have rowOk : row.length ≤ m + 1 ∧ ∀ w ∈ row, w.length ≤ 8 := ⟨by omega, rw8⟩
  have mk : ∀ more : List Str, (more.length ≤ m + 1 ∧ ∀ w ∈ more, w.length ≤ 8) → Sm (rows.take at_ ++ [more] ++ rows.drop (at_ + 1)) (n + 1) (m + 1) := fun more hm => by
    refine ⟨by simp, ?_, fun ws hw => ?_⟩
    · simp only [List.length_append, List.length_take, List.length_drop, List.length_cons, List.length_nil]
      omega
    · rcases List.mem_append.mp hw with hw | hw
      · rcases List.mem_append.mp hw with hw | hw
        · exact sub1 ws hw
        · rw [List.mem_singleton.mp hw]; exact hm
      · exact sub2 _ ws hw
  have z0 : (1 : Nat) ≤ sizeLine := by omega
  by_cases h0 : y = 0
  · subst h0
    by_cases hone : rows.length = 1
    · obtain ⟨r, rfl⟩ := List.length_eq_one_iff.mp hone
      have a0 : at_ = 0 := by simp at hat2; exact hat2
      subst a0
      cases hrow
      refine ⟨[[("fold" : Str), "top", "1", "over"]], ?_, by simp, by simp, fun ws hw => ?_⟩
      · have ix' : atI (rowsP [row]) 0 = some (.lst (row.map P.str)) := ix
        have c1' : cutX (rowsP [row]) none (some 0) = [] := c1
        have c2' : cutX (rowsP [row]) (some 1) none = [] := c2
        have lr' : (rowsP [row]).length = 1 := lr
        simp [X__law_bent, B__law_bent, xDef, start0, ix', hsp, hwd, hy, c1', c2', lr', z0]
        simp [rowsP]
      · rw [List.mem_singleton.mp hw]
        exact ⟨by simp; omega, by decide +kernel⟩
    · refine ⟨rows.take at_ ++ rows.drop (at_ + 1), ?_, ?_, ?_, fun ws hw => ?_⟩
      · have e1 : ¬ (rows.length : Int) = 1 := by omega
        have z5 : (rowsP (rows.take at_)).length + (rowsP (rows.drop (at_ + 1))).length + 0 ≤ sizeLine := z1
        simp [X__law_bent, B__law_bent, xDef, start0, hat, ix, hsp, hwd, hy, c1, c2, z1, lr, hpos, hone, e1, z0, z1, rowsP_app]
      · intro z
        have := congrArg List.length z
        simp only [List.length_append, List.length_take, List.length_drop, List.length_nil] at this
        omega
      · simp only [List.length_append, List.length_take, List.length_drop]
        omega
      · rcases List.mem_append.mp hw with hw | hw
        · exact sub1 ws hw
        · exact sub2 _ ws hw
  · by_cases h1 : y = 1
    · subst h1
      refine ⟨rows.take at_ ++ [row] ++ rows.drop at_, ?_, by simp, ?_, fun ws hw => ?_⟩
      · have z6 : (rowsP (rows.take at_)).length + 1 + (rowsP (rows.drop at_)).length ≤ sizeLine := by rw [l1, l3]; omega
        simp [X__law_bent, B__law_bent, xDef, start0, hat, ix, hsp, hwd, hy, c1, c2, c3, z2, lr, hpos, z6, rowsP_app]
        rfl
      · simp only [List.length_append, List.length_take, List.length_drop, List.length_cons, List.length_nil]
        omega
      · rcases List.mem_append.mp hw with hw | hw
        · rcases List.mem_append.mp hw with hw | hw
          · exact sub1 ws hw
          · rw [List.mem_singleton.mp hw]; exact rowOk
        · exact sub2 _ ws hw
    · by_cases h2 : y = 2
      · subst h2
        refine ⟨rows.take at_ ++ rows.drop (at_ + 1) ++ [row], ?_, by simp, ?_, fun ws hw => ?_⟩
        · have z6 : (rowsP (rows.take at_)).length + (rowsP (rows.drop (at_ + 1))).length + 1 ≤ sizeLine := by rw [l1, l2]; omega
          simp [X__law_bent, B__law_bent, xDef, start0, hat, ix, hsp, hwd, hy, c1, c2, c3, z1, lr, hpos, z6, rowsP_app]
          rfl
        · simp only [List.length_append, List.length_take, List.length_drop, List.length_cons, List.length_nil]
          omega
        · rcases List.mem_append.mp hw with hw | hw
          · rcases List.mem_append.mp hw with hw | hw
            · exact sub1 ws hw
            · exact sub2 _ ws hw
          · rw [List.mem_singleton.mp hw]; exact rowOk
      · have n3 : ¬ y = 3 ∨ True := .inr trivial
        have rz : row.length ≤ 100 := by omega
        have z6 : (rowsP (rows.take at_)).length + 1 + (rowsP (rows.drop (at_ + 1))).length ≤ sizeLine := by rw [l1, l2]; omega
        by_cases h6 : y < 6
        · refine ⟨_, ?_, mk (row.take spot ++ [word] ++ row.drop spot) ⟨by simp; omega, fun w hw => ?_⟩⟩
          · have zr : row.length < sizeLine := by omega
            have sp2 : (spot : Int) < 9223372036854775808 := by omega
            simp [X__law_bent, B__law_bent, xDef, start0, hat, ix, hsp, hwd, hy, c1, c2, c3, z2, lr, hpos, z6, rowsP_app, h0, h1, h2, h6, zr, sp2]
            simp [rowsP]
          · rcases List.mem_append.mp hw with hw | hw
            · rcases List.mem_append.mp hw with hw | hw
              · exact rw8 w (List.mem_of_mem_take hw)
              · rw [List.mem_singleton.mp hw]; exact hw8
            · exact rw8 w (List.mem_of_mem_drop hw)
        · by_cases h8 : y < 8
          · refine ⟨_, ?_, mk (row.take spot ++ row.drop (spot + 1)) ⟨by simp; omega, fun w hw => ?_⟩⟩
            · have zr : min spot row.length + (row.length - (spot + 1)) ≤ sizeLine := by omega
              simp [X__law_bent, B__law_bent, xDef, start0, hat, ix, hsp, hwd, hy, c1, c2, c3, c4, c5, z2, lr, hpos, z6, rowsP_app, h0, h1, h2, h6, h8, zr]
              simp [rowsP]
            · rcases List.mem_append.mp hw with hw | hw
              · exact rw8 w (List.mem_of_mem_take hw)
              · exact rw8 w (List.mem_of_mem_drop hw)
          · refine ⟨_, ?_, mk (row.take spot ++ [word] ++ row.drop (spot + 1)) ⟨by simp; omega, fun w hw => ?_⟩⟩
            · have zr : row.length + 1 ≤ sizeLine := by omega
              have spl := splice_one (xs := row.map P.str) (y := P.str word) (n := spot) (by rw [List.length_map]; exact hsp2)
              simp [X__law_bent, B__law_bent, xDef, start0, hat, ix, hsp, hwd, hy, c1, c2, c3, z2, lr, hpos, z6, rowsP_app, h0, h1, h2, h6, h8, zr, spl]
              simp [rowsP]
            · rcases List.mem_append.mp hw with hw | hw
              · rcases List.mem_append.mp hw with hw | hw
                · exact rw8 w (List.mem_of_mem_take hw)
                · rw [List.mem_singleton.mp hw]; exact hw8
              · exact rw8 w (List.mem_of_mem_drop hw)
end Q03

namespace Q03
open PySem PySem.Spec PyProof.Rows L2 FP PX
theorem strok_rows : (∀ a ∈ figs, ∀ b ∈ figs, PyData.strOk (Txt.join " " ["sheet", a, b]) = true) ∧ ∀ e ∈ edges, ∀ a ∈ figs, ∀ w ∈ ways, PyData.strOk (Txt.join " " ["fold", e, a, w]) = true := by decide +kernel
theorem law_rows_eq {r c : Int} {fs : List Fold} (hr : 1 ≤ r ∧ r ≤ 8) (hc : 1 ≤ c ∧ c ≤ 8) (hf : ∀ f ∈ fs, 1 ≤ f.m ∧ f.m ≤ 8) (hl : fs.length ≤ 1000) : X__law_rows [.int r, .int c, .lst (fs.map Fold.p)] = ret (.lst (rowsP (dueR r c fs))) := by
  obtain ⟨_, _, q1, _⟩ := fig_of hr
  obtain ⟨_, _, q2, _⟩ := fig_of hc
  have lc : lcL (lcStep (tkT [(tkN 3), (tkN 4), (tkN 5)]) none (xLst [(xC (.str "fold")), (xV 3), (xCB qStr [(xV 4)]), (xV 5)]) [some (.int r), some (.int c), some (.lst (fs.map Fold.p)), none, none, none]) (fs.map Fold.p) = some (fs.map fun f => .lst ((rowFd f).map P.str)) := by
    refine lcL_map Fold.p (fun f => .lst ((rowFd f).map P.str)) fs fun f hm => ?_
    obtain ⟨_, _, q3, _⟩ := fig_of (hf f hm)
    exact step_none (by simp [Fold.p]; rfl) (by simp [q3, rowFd])
  have sz := sizeLine_eq
  have hz : 1 + fs.length ≤ sizeLine := by omega
  simp [X__law_rows, B__law_rows, xDef, start0, q1, q2]
  rw [lcK_some (by rw [List.length_map]; omega) (by simpa using lc)]
  simp [hz, dueR, rowSz, rowsP]
theorem run_small : ∀ {fs : List Fold} {k r c : Int} {s : Int × Int}, r ≤ 8 ∧ c ≤ 8 → (∀ f ∈ fs, 1 ≤ f.m) → runF k r c (fs.map Fold.p) = .ok s → ∀ f ∈ fs, 1 ≤ f.m ∧ f.m ≤ 8
  | [], _, _, _, _, _, _, _ => fun f h => nomatch h
  | f :: fs, k, r, c, s, hb, hm, h => by
    have h1 := hm f List.mem_cons_self
    rw [List.map_cons, runF] at h
    unfold afterP at h
    rw [foldOf_p f h1] at h
    simp only [Option.bind_some, after] at h
    have step : f.m ≤ 8 ∧ ∃ r' c', (r' ≤ 8 ∧ c' ≤ 8) ∧ runF (k + 1) r' c' (fs.map Fold.p) = .ok s := by
      cases hl : f.e.lev with
      | true =>
        simp only [hl, if_true] at h
        by_cases h2 : 2 * f.m ≤ r
        · rw [if_pos h2] at h
          exact ⟨by omega, r - f.m, c, by omega, h⟩
        · rw [if_neg h2] at h; cases h
      | false =>
        simp only [hl, Bool.false_eq_true, if_false] at h
        by_cases h2 : 2 * f.m ≤ c
        · rw [if_pos h2] at h
          exact ⟨by omega, r, c - f.m, by omega, h⟩
        · rw [if_neg h2] at h; cases h
    obtain ⟨h8, r', c', hb', h'⟩ := step
    intro g hg
    rcases List.mem_cons.mp hg with rfl | hg
    · exact ⟨h1, h8⟩
    · exact run_small hb' (fun x hx => hm x (List.mem_cons_of_mem _ hx)) h' g hg
theorem found_bad {p : P} (h : Kn p) (hs : strP p = none) : X__law_found [p] = FP.ret (.tup [.int 1, .int 0]) := by
  have hr := rows_of_bad h hs
  have e : X_read_scheme [p] = some (.er 2 (fsRow 1 0)) := by simp [X_read_scheme, B_read_scheme, xDef, start0, hr]
  have hk := kinds_eq (fsRow 1 0) 2 "row" (by simp)
  simp [X__law_found, B__law_found, xDef, start0, e, catch_PressError, isNoP, hk, List.lookup_cons]
theorem found_empty : X__law_found [.str ""] = FP.ret (.tup [.int 1, .int 0]) := by
  have h := found_eq (t := "") (by decide +kernel)
  have e1 : rowsT "" = [("" : Str)] := by decide +kernel
  have e2 : wordsT "" = [("" : Str)] := by decide +kernel
  rw [h, e1]
  simp [e2, resP, rowW]
/-- what a text comes to -/
theorem res_kind (ws : List Str) (rest : List (List Str)) : (∃ k, resP (ws :: rest) = .int k) ∨ (∃ i n, resP (ws :: rest) = .tup [.int i, .int n]) ∨ ∃ a b fs, resP (ws :: rest) = .tup [.int a, .int b, .lst (List.map Fold.p fs)] := by
  rw [resP]
  cases rowW sizeC ws with
  | some n => exact .inr (.inl ⟨_, _, rfl⟩)
  | none =>
    cases hs : scanF rest 2 with
    | some x => exact .inr (.inl ⟨_, _, rfl⟩)
    | none =>
      obtain ⟨fs, hfs, _⟩ := all_folds (scanF_none hs)
      simp only [hfs]
      split
      · exact .inl ⟨_, rfl⟩
      · cases wrongF (sizeV ws).1 (sizeV ws).2 (fs.map Fold.p) with
        | some k => exact .inl ⟨_, rfl⟩
        | none => exact .inr (.inr ⟨_, _, fs, rfl⟩)
theorem ne_bls {a b : Bool} : qNe (.sc (.bl a)) (.sc (.bl b)) = some (.bl !(decide (a = b))) := by
  unfold qNe eqOk
  simp [scal]
theorem res_same (ws : List Str) (rest : List (List Str)) : qNe (resP (ws :: rest)) (resP (ws :: rest)) = some (.bl false) ∧ Kn (resP (ws :: rest)) := by
  rcases res_kind ws rest with ⟨k, h⟩ | ⟨i, n, h⟩ | ⟨a, b, fs, h⟩ <;> rw [h]
  · simp
  · simp
  · have hs := same_folds fs
    have hf := fit_folds fs
    simp [hs, hf]
theorem same_strs : ∀ zs : List Str, eqPs (zs.map P.str) (zs.map P.str) = true
  | [] => by simp
  | z :: zs => by rw [List.map_cons, eqPs_cons, same_strs zs]; simp
theorem joins_eq {rows : List (List Str)} (h : ∀ ws ∈ rows, ws.length ≤ 10 ∧ ∀ w ∈ ws, w.length ≤ 8) (hn : rows.length ≤ 1000) (ρ : PEnv) (hρ : ∃ a b c d e f g i j k l m, ρ = [a, b, c, d, e, f, g, i, j, k, l, m, none, none, none]) :
    lcK (tkN 13) none (xStr1 qJoin (xC (.str " ")) (xV 13)) [13] ρ (some (rowsP rows)) = FP.ret (.lst ((rows.map (Txt.join " ")).map P.str)) := by
  obtain ⟨a, b, c, d, e, f, g, i, j, k, l, m, rfl⟩ := hρ
  have := lcL_map (fun ws : List Str => P.lst (ws.map P.str)) (fun ws => P.str (Txt.join " " ws)) (f := lcStep (tkN 13) none (xStr1 qJoin (xC (.str " ")) (xV 13)) [a, b, c, d, e, f, g, i, j, k, l, m, none, none, none]) rows fun ws hw => by
    obtain ⟨h1, h2⟩ := h ws hw
    have hj := join_ap (a := " ") (ws := ws) (Nat.le_trans (join_len (k := 8) (n := 10) sp1 h2 h1).2 (by omega))
    exact step_none rfl (by simp [hj])
  rw [lcK_some (by unfold rowsP; rw [List.length_map]; omega) this, List.map_map]
  rfl
theorem told_body {r c : Int} {fs : List Fold} (hr : 1 ≤ r ∧ r ≤ 8) (hc : 1 ≤ c ∧ c ≤ 8) (hf : ∀ f ∈ fs, 1 ≤ f.m ∧ f.m ≤ 8) (hl : fs.length ≤ 100) (a0 a1 a4 a5 a6 a7 a8 a9 a11 : Option P) :
    L_law_1 [a0, a1, some (schP r c (fs.map Fold.p)), some (.lst (rowsP (dueR r c fs))), a4, a5, a6, a7, a8, a9, none, a11, none, none, none] = some (.nx [a0, a1, some (schP r c (fs.map Fold.p)), some (.lst (rowsP (dueR r c fs))), none, a5, a6, a7, a8, a9, none, a11, none, none, none]) := by
  have h1 := scheme_rows_eq hr hc hf (by omega)
  have e : (dueR r c fs).map (fun ws => P.str (Txt.join " " ws)) = ((dueR r c fs).map (Txt.join " ")).map P.str := by rw [List.map_map]; rfl
  rw [e] at h1
  have dl : (dueR r c fs).length = fs.length + 1 := by simp [dueR]
  have hj := fun ρ hρ => joins_eq (rows := dueR r c fs) (fun ws hw => by
    obtain ⟨_, b, c, _⟩ := due_row hr hc hf ws hw
    exact ⟨by omega, fun w hw => (b w hw).2⟩) (by omega) ρ hρ
  have hss := same_strs ((dueR r c fs).map (Txt.join " "))
  have hff : fitPs 59 (((dueR r c fs).map (Txt.join " ")).map P.str) = true := fitPs_all fun p hp => by
    obtain ⟨z, hz, rfl⟩ := List.mem_map.mp hp
    obtain ⟨ws, hw, rfl⟩ := List.mem_map.mp hz
    rw [fitP_str]
    rcases List.mem_cons.mp hw with rfl | hw
    · exact strok_rows.1 _ (fig_of hr).1 _ (fig_of hc).1
    · obtain ⟨f, hm, rfl⟩ := List.mem_map.mp hw
      exact strok_rows.2 _ (ed_mem _) _ (fig_of (hf f hm)).1 _ (way_mem _)
  have zl : ((dueR r c fs).map (Txt.join " ")).length < sizeLine := by rw [List.length_map, dl, sizeLine_eq]; omega
  have hj' := hj [a0, a1, some (schP r c (fs.map Fold.p)), some (.lst (rowsP (dueR r c fs))), a4, a5, a6, a7, a8, a9, some (.lst (((dueR r c fs).map (Txt.join " ")).map P.str)), a11, none, none, none] ⟨_, _, _, _, _, _, _, _, _, _, _, _, rfl⟩
  generalize (dueR r c fs).map (Txt.join " ") = zs at h1 hss hff zl hj'
  generalize rowsP (dueR r c fs) = RP at hj' ⊢
  generalize schP r c (fs.map Fold.p) = SC at h1 hj' ⊢
  simp [L_law_1, h1, isi_list, hj', hss, hff, zl]
theorem body2 {t : Str} {ws : List Str} {rest : List (List Str)} (ht : t.length < 80000) (hr : (rowsT t).map wordsT = ws :: rest) (a0 a1 a2 a3 a4 a6 a7 a8 a9 a12 : Option P) :
    L_law_2 [a0, a1, a2, a3, a4, some (.str t), a6, a7, a8, a9, none, some (resP (ws :: rest)), a12, none, none] = some (.nx [a0, a1, a2, a3, a4, some (.str t), a6, a7, a8, a9, none, some (resP (ws :: rest)), none, none, none]) := by
  have h := found_eq ht
  rw [hr] at h
  obtain ⟨h1, h2⟩ := res_same ws rest
  generalize resP (ws :: rest) = p at h h1 h2 ⊢
  simp [L_law_2, h, h1, isi_tuple h2, ne_bls]
theorem turn3 (whole : Int) {rows : List (List Str)} {n m : Nat} (h : Sm rows n m) (hn : n ≤ 17) (hm : m ≤ 7) (h4 : 4 ≤ m) (k : Nat) (hk : k < 3) (a0 a2 a5 a6 a7 a8 a9 : Option P) : ∃ rows' t', Sm rows' (n + 1) (m + 1) ∧
    L_law_3 [a0, some (.int whole), a2, some (.lst (rowsP rows)), some (.int k), a5, a6, a7, a8, a9, none, none, none, none, none] = some (.nx [a0, some (.int whole), a2, some (.lst (rowsP rows')), none, some (.str t'), a6, a7, a8, a9, none, none, none, none, none]) := by
  have e1 := mixed_eq whole (50 + (k : Int)) (by omega)
  obtain ⟨rows', hb, hs⟩ := bent_eq rows (mixed whole (50 + (k : Int))) h (by omega) (by omega) h4
  refine ⟨rows', textR rows', hs, ?_⟩
  have hlen := hs.len
  have hrow : ∀ ws ∈ rows', ws.length ≤ 8 ∧ ∀ w ∈ ws, w.length ≤ 8 := fun ws hw => ⟨by have := (hs.row ws hw).1; omega, (hs.row ws hw).2⟩
  have hj := fun ρ hρ => joins_eq (rows := rows') (fun ws hw => ⟨by have := (hrow ws hw).1; omega, (hrow ws hw).2⟩) (by omega) ρ hρ
  have hjl : ∀ ws ∈ rows', (Txt.join " " ws).length ≤ 1000 := fun ws hw => Nat.le_trans (join_len (k := 8) (n := 8) sp1 (hrow ws hw).2 (hrow ws hw).1).1 (by omega)
  obtain ⟨tl1, tl2⟩ := text_len (n := 18) hjl (by omega)
  have hjt := join_ap (a := "\n") (Nat.le_trans tl2 (by omega))
  have ht : (textR rows').length < 80000 := by omega
  have sz := sizeLine_eq
  have hsp := split_nl (t := textR rows') (by omega)
  have hspw : lcL (lcStep (tkN 14) none (xStr1 qSplit (xV 14) (xC (.str " "))) [a0, some (.int whole), a2, some (.lst (rowsP rows')), some (.int k), some (.str (textR rows')), a6, a7, a8, a9, none, none, none, none, none]) ((rowsT (textR rows')).map P.str) = some (rowsP ((rowsT (textR rows')).map wordsT)) := by
    have := lcL_map P.str (fun r => P.lst ((wordsT r).map P.str)) (f := lcStep (tkN 14) none (xStr1 qSplit (xV 14) (xC (.str " "))) [a0, some (.int whole), a2, some (.lst (rowsP rows')), some (.int k), some (.str (textR rows')), a6, a7, a8, a9, none, none, none, none, none]) (rowsT (textR rows')) fun r hr => by
      have := row_short hr
      have hq := split_sp (t := r) (by omega)
      exact step_none rfl (by simp [hq])
    rw [this]
    unfold rowsP
    rw [List.map_map]
    rfl
  have hrl := rowsT_le (textR rows')
  have hlc := lcK_some (tk := tkN 14) (c := none) (e := xStr1 qSplit (xV 14) (xC (.str " "))) (vs := [14]) (ρ := [a0, some (.int whole), a2, some (.lst (rowsP rows')), some (.int k), some (.str (textR rows')), a6, a7, a8, a9, none, none, none, none, none]) (xs := (rowsT (textR rows')).map P.str) (by rw [List.length_map]; omega) (by simpa using hspw)
  have hp := rowsT_pos (textR rows')
  obtain ⟨ws, rest, hwr⟩ : ∃ ws rest, (rowsT (textR rows')).map wordsT = ws :: rest := by
    cases hq : rowsT (textR rows') with
    | nil => rw [hq] at hp; simp at hp
    | cons a b => exact ⟨_, _, rfl⟩
  have hll : rest.length ≤ 900000 := by
    have := congrArg List.length hwr
    simp at this
    omega
  have hrd := law_read_eq ws rest hll
  rw [hwr] at hlc
  have hb2 := fun x y => body2 ht hwr a0 (some (.int whole)) a2 (some (.lst (rowsP rows'))) x a6 a7 a8 a9 y
  have hjt' : qJoin (.str "\n") (.lst ((rows'.map (Txt.join " ")).map P.str)) = some (.str (textR rows')) := hjt
  have hj' := hj [a0, some (.int whole), a2, some (.lst (rowsP rows')), some (.int k), a5, a6, a7, a8, a9, none, none, none, none, none] ⟨_, _, _, _, _, _, _, _, _, _, _, _, rfl⟩
  generalize textR rows' = tx at *
  generalize rowsP rows' = RP at *
  generalize rows'.map (Txt.join " ") = zs at *
  generalize rowsP (ws :: rest) = WP at *
  generalize resP (ws :: rest) = RS at *
  have lp : ∀ x, forL (tkN 12) L_law_2 (rngP 0 2) [a0, some (.int whole), a2, some (.lst RP), x, some (.str tx), a6, a7, a8, a9, none, some RS, none, none, none] = some (.nx [a0, some (.int whole), a2, some (.lst RP), x, some (.str tx), a6, a7, a8, a9, none, some RS, none, none, none]) := fun x => by
    rw [show rngP 0 2 = [P.int 0, P.int 1] from rfl, forL_step rfl (hb2 _ _), forL_step rfl (hb2 _ _)]
    rfl
  simp [L_law_3, e1, hb, hj', hjt', hsp, hlc, hrd, lp]
theorem pure (ns : List Int) (hl : ns.length ≤ 63) : X_law [.lst (ns.map P.int)] = some (.ok (.bl true)) := by
  obtain ⟨r, c, fs, h1, g⟩ := scheme_eq ns hl 3 (by omega)
  have hs : qSum [.lst (ns.map P.int)] = some (.int ns.sum) := by rw [qSum, intsP_map]; rfl
  obtain ⟨whole, hw⟩ : ∃ w, w = ns.sum + (ns.length : Int) := ⟨_, rfl⟩
  have hgl := g.len
  have h2 := scheme_ok r c (fs.map Fold.p) maps_kn (by rw [List.length_map]; omega) (ok_rc g.b) (good_none g)
  have hr : 1 ≤ r ∧ r ≤ 8 := ⟨g.b.1, g.b.2.1⟩
  have hc : 1 ≤ c ∧ c ≤ 8 := ⟨g.b.2.2.1, g.b.2.2.2.1⟩
  have hf := run_small ⟨hr.2, hc.2⟩ g.m g.run
  have h3 := law_rows_eq hr hc hf (by omega)
  have h5 := scheme_text_eq hr hc hf (by omega)
  have hdr := due_row (fs := fs) hr hc hf
  have dl : (dueR r c fs).length = fs.length + 1 := by simp [dueR]
  have hjl : ∀ ws ∈ dueR r c fs, (Txt.join " " ws).length ≤ 1000 := fun ws hw => by
    obtain ⟨_, _, _, _, e⟩ := hdr ws hw
    omega
  obtain ⟨tl1, tl2⟩ := text_len (n := 18) hjl (by omega)
  have hjt : qJoin (.str "\n") (.lst (((dueR r c fs).map (Txt.join " ")).map P.str)) = some (.str (textR (dueR r c fs))) := join_ap (a := "\n") (Nat.le_trans tl2 (by omega))
  have hfd := found_eq (t := textR (dueR r c fs)) (by omega)
  rw [due_rows hr hc hf, due_good hr hc hf g.b.2.2.2.2 (good_none g)] at hfd
  have hsm : Sm (dueR r c fs) 15 4 := ⟨by simp [dueR], by omega, fun ws hw => by
    obtain ⟨_, b, c, _⟩ := hdr ws hw
    exact ⟨c, fun w hw => (b w hw).2⟩⟩
  have hj := fun ρ hρ => joins_eq (rows := dueR r c fs) (fun ws hw => by
    obtain ⟨_, b, c, _⟩ := hdr ws hw
    exact ⟨by omega, fun w hw => (b w hw).2⟩) (by omega) ρ hρ
  have hsf := same_folds fs
  have hff := fit_folds fs
  have e60 := mixed_eq whole 60 (by omega)
  have l1 : forL (tkN 4) L_law_1 (rngP 0 2) [some (.lst (ns.map P.int)), some (.int whole), some (schP r c (fs.map Fold.p)), some (.lst (rowsP (dueR r c fs))), none, none, none, some (.int r), some (.int c), some (.lst (fs.map Fold.p)), none, none, none, none, none] = some (.nx [some (.lst (ns.map P.int)), some (.int whole), some (schP r c (fs.map Fold.p)), some (.lst (rowsP (dueR r c fs))), none, none, none, some (.int r), some (.int c), some (.lst (fs.map Fold.p)), none, none, none, none, none]) := by
    rw [show rngP 0 2 = [P.int 0, P.int 1] from rfl, forL_step rfl (told_body hr hc hf (by omega) _ _ _ _ _ _ _ _ _), forL_step rfl (told_body hr hc hf (by omega) _ _ _ _ _ _ _ _ _)]
    rfl
  obtain ⟨R1, t1, s1, b1⟩ := turn3 whole hsm (by omega) (by omega) (by omega) 0 (by omega) (some (.lst (ns.map P.int))) (some (schP r c (fs.map Fold.p))) (some (.str (textR (dueR r c fs)))) none (some (.int r)) (some (.int c)) (some (.lst (fs.map Fold.p)))
  obtain ⟨R2, t2, s2, b2⟩ := turn3 whole s1 (by omega) (by omega) (by omega) 1 (by omega) (some (.lst (ns.map P.int))) (some (schP r c (fs.map Fold.p))) (some (.str t1)) none (some (.int r)) (some (.int c)) (some (.lst (fs.map Fold.p)))
  obtain ⟨R3, t3, s3, b3⟩ := turn3 whole s2 (by omega) (by omega) (by omega) 2 (by omega) (some (.lst (ns.map P.int))) (some (schP r c (fs.map Fold.p))) (some (.str t2)) none (some (.int r)) (some (.int c)) (some (.lst (fs.map Fold.p)))
  have l3 : forL (tkN 4) L_law_3 (rngP 0 3) [some (.lst (ns.map P.int)), some (.int whole), some (schP r c (fs.map Fold.p)), some (.lst (rowsP (dueR r c fs))), none, some (.str (textR (dueR r c fs))), none, some (.int r), some (.int c), some (.lst (fs.map Fold.p)), none, none, none, none, none] = some (.nx [some (.lst (ns.map P.int)), some (.int whole), some (schP r c (fs.map Fold.p)), some (.lst (rowsP R3)), none, some (.str t3), none, some (.int r), some (.int c), some (.lst (fs.map Fold.p)), none, none, none, none, none]) := by
    rw [show rngP 0 3 = [P.int 0, P.int 1, P.int 2] from rfl, forL_step rfl b1, forL_step rfl b2, forL_step rfl b3]
    rfl
  obtain ⟨odd, ho, hk, hns⟩ : ∃ p : P, atI [.non, .int 7, .bl true, .lst [.str t3], .tup [.str t3], .dK [] []] (mixed whole 60 % 6) = some p ∧ Kn p ∧ strP p = none := by
    have h0 := Int.emod_nonneg (mixed whole 60) (b := 6) (by decide)
    have h1 := Int.emod_lt_of_pos (mixed whole 60) (b := 6) (by decide)
    generalize mixed whole 60 % 6 = k at h0 h1
    have : k = 0 ∨ k = 1 ∨ k = 2 ∨ k = 3 ∨ k = 4 ∨ k = 5 := by omega
    rcases this with rfl | rfl | rfl | rfl | rfl | rfl <;> (rw [atI_in (by omega) (by simp)]; simp [strP])
  have fb := found_bad hk hns
  have fe := found_empty
  have hj' := hj [some (.lst (ns.map P.int)), some (.int whole), some (schP r c (fs.map Fold.p)), some (.lst (rowsP (dueR r c fs))), none, some (.str (textR (dueR r c fs))), none, some (.int r), some (.int c), some (.lst (fs.map Fold.p)), none, none, none, none, none] ⟨_, _, _, _, _, _, _, _, _, _, _, _, rfl⟩
  clear b1 b2 b3 hj tl1 tl2 hjl hdr
  generalize schP r c (fs.map Fold.p) = SC at *
  generalize rowsP (dueR r c fs) = RP at *
  generalize textR (dueR r c fs) = TX at *
  generalize (dueR r c fs).map (Txt.join " ") = ZS at *
  simp [X_law, B_law, xDef, start0, hs, ← hw, h1, h2, h3, l1, h5, hj', hjt, hfd, hsf, hff, l3, e60, ho, fb, fe]
end Q03

namespace Q03
open PySem PySem.Spec PyProof.Rows L2 FP PX
def R_law : List D → D → Prop := fun ds z => ∃ ns : List Int, ds = [.lst false (ns.map D.int)] ∧ ns.length ≤ 63 ∧ z = .bl true
theorem len_law : ∀ ds z, R_law ds z → ds.length = 1 := by
  rintro ds z ⟨ns, rfl, _⟩
  rfl
theorem law_rF (A : Nat → Addr) : ∀ ds z, R_law ds z → rF A X_law .s 1 ds z := by
  rintro ds z ⟨ns, rfl, hl, rfl⟩
  refine ⟨[.lst (ns.map P.int)], .bl true, rfl, ?_, pure ns hl, by rw [emb_sc]⟩
  rw [List.map_cons, List.map_nil, emb_lst, embs_s, List.map_map]
  refine congrArg (fun x => [D.lst false x]) (List.map_congr_left fun n _ => ?_)
  exact (emb_sc (A := A) (w := .s)).symm
section
variable {P : Program} {w : World} {K : PySem.W.Frag} {mg : Str → Option Value} {base : Heap}
set_option maxHeartbeats 4000000 in
theorem ok_law (T : Txt K mg) : FnOk P w K mg base CX0 11 T.f_law T.fd_law ["_law_script"] (spF K R_law) := by
  refine ok_of (N := ["_law_script", "_law_whole", "_law_scheme_here", "_law_due", "_law_turn", "_law_text", "_law_odd", "_law_rows_here", "_law_columns", "_law_folds_here", "_law_told", "_law_wants", "_law_again", "_law_words", "_law_row"]) T.F_law sc_law len_law fun cdv A outer s H E hr => ⟨_, (pss_cons (ps_set (i := 1) sc_law.nd rfl (by first | exact Or.inl rfl | exact Or.inr rfl) (pe_op (op_plusK (K := K) rfl) (pe_callB (cr_sumK (K := K) rfl rfl) (by rfl) T.z_sum (by decide +kernel) (pa_cons (pv 0) pa_nil)) (pe_callB (call_lennK (K := K) rfl) (by rfl) T.z_len (by decide +kernel) (pa_cons (pv 0) pa_nil))))
      (pss_cons (ps_asg (pe_callS (ok__law_scheme T) (hr.mono (by decide)) (by rfl) T.g__law_scheme T.F__law_scheme.kp T.b__law_scheme (fun σ => passAt takes0 σ) (pa_cons (pv 0) (pa_cons pe_int pa_nil))) (pg_tupK (K := K) (n := 3) rfl rfl (pgs_cons (pg_name (i := 7) sc_law.nd rfl (by first | exact Or.inl rfl | exact Or.inr rfl)) (pgs_cons (pg_name (i := 8) sc_law.nd rfl (by first | exact Or.inl rfl | exact Or.inr rfl)) (pgs_cons (pg_name (i := 9) sc_law.nd rfl (by first | exact Or.inl rfl | exact Or.inr rfl)) pgs_nil)))))
      (pss_cons (ps_set (i := 2) sc_law.nd rfl (by first | exact Or.inl rfl | exact Or.inr rfl) (pe_makeS T.mk_Scheme (ok_Scheme___init__ T) (hr.mono (by decide)) (by rfl) T.m_Scheme T.b_Scheme___init__ (fun σ => passAt takes0 σ) (pa_cons (pv 7) (pa_cons (pv 8) (pa_cons (pv 9) pa_nil)))))
      (pss_cons (ps_set (i := 3) sc_law.nd rfl (by first | exact Or.inl rfl | exact Or.inr rfl) (pe_callS (ok__law_rows T) (hr.mono (by decide)) (by rfl) T.g__law_rows T.F__law_rows.kp T.b__law_rows (fun σ => passAt takes0 σ) (pa_cons (pv 7) (pa_cons (pv 8) (pa_cons (pv 9) pa_nil)))))
      (pss_cons (ps_for PassesOwn.never rfl (pi_range1 (by rfl) T.z_range (pa_cons pe_int pa_nil)) (pg_name (i := 4) sc_law.nd rfl (by first | exact Or.inl rfl | exact Or.inr rfl))
      (pss_cons (ps_set (i := 10) sc_law.nd rfl (by first | exact Or.inl rfl | exact Or.inr rfl) (pe_callS (ok_scheme_rows T) (hr.mono (by decide)) (by rfl) T.g_scheme_rows T.F_scheme_rows.kp T.b_scheme_rows (fun σ => passAt takes0 σ) (pa_cons (pv 2) pa_nil)))
      (pss_cons (ps_if (PW.pt (pw_or (pt_not (pt_truthK (K := K) rfl (pe_callB (call_isisK (K := K) rfl) (by rfl) T.z_isinstance (by decide +kernel) (pa_cons (pv 10) (pa_cons (pe_bltn (v := .ty "list") (by rfl) T.z_list (by decide +kernel) rfl) pa_nil))) (by intro _; rfl))) (pw_or1 (pt_cmpR (op_neeK (K := K) rfl hr.units) (pv 10) (pe_lc (own := [("_law_words", 13)]) (by rfl) sc_law.nd (pi_listK (K := K) rfl (pv 3)) (blkOk_by (own := [("_law_words", 13)]) (N := ["_law_script", "_law_whole", "_law_scheme_here", "_law_due", "_law_turn", "_law_text", "_law_odd", "_law_rows_here", "_law_columns", "_law_folds_here", "_law_told", "_law_wants", "_law_again", "_law_words", "_law_row"]) (sc := defScope s_law) (by decide +kernel)) (fun _ _ _ _ _ => (pg_name (i := 13) sc_law.nd rfl (by first | exact Or.inl rfl | exact Or.inr rfl))) (fun _ _ _ _ _ => pts_nil) (fun _ _ _ _ _ => (pe_joinK (K := K) rfl pe_str (pv 13)))) (nomark _)))))
      (pss_one (ps_ret pe_bl)) pss_nil)
      (pss_one (ps_expr (pe_bmK (K := K) rfl PySem.F.plainAttrs_list PySem.F.slot_list_append PySem.F.type_list_append mt_append (pv 10) (pa_cons pe_str pa_nil)))))))
      (pss_cons (ps_set (i := 5) sc_law.nd rfl (by first | exact Or.inl rfl | exact Or.inr rfl) (pe_callS (ok_scheme_text T) (hr.mono (by decide)) (by rfl) T.g_scheme_text T.F_scheme_text.kp T.b_scheme_text (fun σ => passAt takes0 σ) (pa_cons (pv 2) pa_nil)))
      (pss_cons (ps_if (PW.pt (pw_or (pt_cmpR (op_neeK (K := K) rfl hr.units) (pv 5) (pe_joinK (K := K) rfl pe_str (pe_lc (own := [("_law_words", 13)]) (by rfl) sc_law.nd (pi_listK (K := K) rfl (pv 3)) (blkOk_by (own := [("_law_words", 13)]) (N := ["_law_script", "_law_whole", "_law_scheme_here", "_law_due", "_law_turn", "_law_text", "_law_odd", "_law_rows_here", "_law_columns", "_law_folds_here", "_law_told", "_law_wants", "_law_again", "_law_words", "_law_row"]) (sc := defScope s_law) (by decide +kernel)) (fun _ _ _ _ _ => (pg_name (i := 13) sc_law.nd rfl (by first | exact Or.inl rfl | exact Or.inr rfl))) (fun _ _ _ _ _ => pts_nil) (fun _ _ _ _ _ => (pe_joinK (K := K) rfl pe_str (pv 13))))) (nomark _)) (pw_or1 (pt_cmpR (op_neeK (K := K) rfl hr.units) (pe_callS (ok__law_found T) (hr.mono (by decide)) (by rfl) T.g__law_found T.F__law_found.kp T.b__law_found (fun σ => passAt takes0 σ) (pa_cons (pv 5) pa_nil)) (pe_tup (pa_cons (pv 7) (pa_cons (pv 8) (pa_cons (pv 9) pa_nil)))) (nomark _)))))
      (pss_one (ps_ret pe_bl)) pss_nil)
      (pss_cons (ps_for PassesOwn.never rfl (pi_range1 (by rfl) T.z_range (pa_cons pe_int pa_nil)) (pg_name (i := 4) sc_law.nd rfl (by first | exact Or.inl rfl | exact Or.inr rfl))
      (pss_cons (ps_set (i := 3) sc_law.nd rfl (by first | exact Or.inl rfl | exact Or.inr rfl) (pe_callS (ok__law_bent T) (hr.mono (by decide)) (by rfl) T.g__law_bent T.F__law_bent.kp T.b__law_bent (fun σ => passAt takes0 σ) (pa_cons (pv 3) (pa_cons (pe_callS (ok__law_mixed T) (hr.mono (by decide)) (by rfl) T.g__law_mixed T.F__law_mixed.kp T.b__law_mixed (fun σ => passAt takes0 σ) (pa_cons (pv 1) (pa_cons (pe_op (op_plusK (K := K) rfl) pe_int (pv 4)) pa_nil))) pa_nil))))
      (pss_cons (ps_set (i := 5) sc_law.nd rfl (by first | exact Or.inl rfl | exact Or.inr rfl) (pe_joinK (K := K) rfl pe_str (pe_lc (own := [("_law_words", 13)]) (by rfl) sc_law.nd (pi_listK (K := K) rfl (pv 3)) (blkOk_by (own := [("_law_words", 13)]) (N := ["_law_script", "_law_whole", "_law_scheme_here", "_law_due", "_law_turn", "_law_text", "_law_odd", "_law_rows_here", "_law_columns", "_law_folds_here", "_law_told", "_law_wants", "_law_again", "_law_words", "_law_row"]) (sc := defScope s_law) (by decide +kernel)) (fun _ _ _ _ _ => (pg_name (i := 13) sc_law.nd rfl (by first | exact Or.inl rfl | exact Or.inr rfl))) (fun _ _ _ _ _ => pts_nil) (fun _ _ _ _ _ => (pe_joinK (K := K) rfl pe_str (pv 13))))))
      (pss_cons (ps_set (i := 11) sc_law.nd rfl (by first | exact Or.inl rfl | exact Or.inr rfl) (pe_callS (ok__law_read T) (hr.mono (by decide)) (by rfl) T.g__law_read T.F__law_read.kp T.b__law_read (fun σ => passAt takes0 σ) (pa_cons (pe_lc (own := [("_law_row", 14)]) (by rfl) sc_law.nd (pi_listK (K := K) rfl (pe_split (pv 5) pe_str)) (blkOk_by (own := [("_law_row", 14)]) (N := ["_law_script", "_law_whole", "_law_scheme_here", "_law_due", "_law_turn", "_law_text", "_law_odd", "_law_rows_here", "_law_columns", "_law_folds_here", "_law_told", "_law_wants", "_law_again", "_law_words", "_law_row"]) (sc := defScope s_law) (by decide +kernel)) (fun _ _ _ _ _ => (pg_name (i := 14) sc_law.nd rfl (by first | exact Or.inl rfl | exact Or.inr rfl))) (fun _ _ _ _ _ => pts_nil) (fun _ _ _ _ _ => (pe_split (pv 14) pe_str))) pa_nil)))
      (pss_one (ps_for PassesOwn.never rfl (pi_range1 (by rfl) T.z_range (pa_cons pe_int pa_nil)) (pg_name (i := 12) sc_law.nd rfl (by first | exact Or.inl rfl | exact Or.inr rfl))
      (pss_cons (ps_set (i := 10) sc_law.nd rfl (by first | exact Or.inl rfl | exact Or.inr rfl) (pe_callS (ok__law_found T) (hr.mono (by decide)) (by rfl) T.g__law_found T.F__law_found.kp T.b__law_found (fun σ => passAt takes0 σ) (pa_cons (pv 5) pa_nil)))
      (pss_one (ps_if (PW.pt (pw_or (pt_cmpR (op_neeK (K := K) rfl hr.units) (pv 10) (pv 11) (nomark _)) (pw_or1 (pt_cmpR (op_neeK (K := K) rfl hr.units) (pe_callB (call_isisK (K := K) rfl) (by rfl) T.z_isinstance (by decide +kernel) (pa_cons (pv 10) (pa_cons (pe_bltn (v := .ty "tuple") (by rfl) T.z_tuple (by decide +kernel) rfl) pa_nil))) (pe_callB (call_isisK (K := K) rfl) (by rfl) T.z_isinstance (by decide +kernel) (pa_cons (pv 11) (pa_cons (pe_bltn (v := .ty "tuple") (by rfl) T.z_tuple (by decide +kernel) rfl) pa_nil))) (nomark _)))))
      (pss_one (ps_ret pe_bl)) pss_nil)))))))))
      (pss_cons (ps_set (i := 6) sc_law.nd rfl (by first | exact Or.inl rfl | exact Or.inr rfl) (pe_ix (ix_seqK (K := K) rfl) (pe_lst (pa_cons pe_non (pa_cons pe_int (pa_cons pe_bl (pa_cons (pe_lst (pa_cons (pv 5) pa_nil)) (pa_cons (pe_tup (pa_cons (pv 5) pa_nil)) (pa_cons pe_dnewK pa_nil))))))) (pe_op op_md (pe_callS (ok__law_mixed T) (hr.mono (by decide)) (by rfl) T.g__law_mixed T.F__law_mixed.kp T.b__law_mixed (fun σ => passAt takes0 σ) (pa_cons (pv 1) (pa_cons pe_int pa_nil))) pe_int) (fun _ _ => rfl)))
      (pss_one (ps_ret (pe_andTK (K := K) rfl (pe_cmpR (op_eqqK (K := K) rfl hr.units) (pe_callS (ok__law_found T) (hr.mono (by decide)) (by rfl) T.g__law_found T.F__law_found.kp T.b__law_found (fun σ => passAt takes0 σ) (pa_cons (pv 6) pa_nil)) (pe_tup (pa_cons pe_int (pa_cons pe_int pa_nil))) (nomark _)) (pe_one (pe_cmpR (op_eqqK (K := K) rfl hr.units) (pe_callS (ok__law_found T) (hr.mono (by decide)) (by rfl) T.g__law_found T.F__law_found.kp T.b__law_found (fun σ => passAt takes0 σ) (pa_cons pe_str pa_nil)) (pe_tup (pa_cons pe_int (pa_cons pe_int pa_nil))) (nomark _))))))))))))))), ?_⟩
  (try simp only [cxK])
  have hS : SOk K T.A (fun _ _ _ _ => False) (W.s) [] (fun _ => True) _ [.s, .s, .s, .s, .s, .s, .s, .s, .s, .s, (.o .s), .s, .s, .s, .s] [.s, .s, .s, .s, .s, .s, .s, .s, .s, .s, (.o .s), .s, .s, .s, .s] B_law := (s_seq (s_setK trivial (x_op o_add (x_cb (w1 := .s) c_sum (a_cons (x_v rfl) a_nil)) (x_cb (w1 := .s) c_len (a_cons (x_v rfl) a_nil))) rfl)
  (s_seq (s_asT trivial (x_call (w := (W.s)) (n := 2) (a_cons (x_v rfl) (a_cons x_c a_nil)) rfl) (tk_tup rfl (tks_cons (tk_n (fun _ h => nomatch h) rfl) (tks_cons (tk_n (fun _ h => nomatch h) rfl) (tks_cons (tk_n (fun _ h => nomatch h) rfl) tks_nil)))))
  (s_seq (s_setK trivial (x_frz (x_mk (A := T.A) (c := 8) (ws := []) (a_cons (x_v rfl) (a_cons (x_v rfl) (a_cons (x_v rfl) a_nil))) rfl)) rfl)
  (s_seq (s_setK trivial (x_call (w := (W.s)) (n := 3) (a_cons (x_v rfl) (a_cons (x_v rfl) (a_cons (x_v rfl) a_nil))) rfl) rfl)
  (s_seq (s_for (i_rng1 (U := (fun _ _ _ _ => False)) (a_cons x_c a_nil)) (tk_n (fun _ h => nomatch h) rfl)
  (s_fgR [4, 10] (s_seq (s_setK trivial (x_call (w := (.o .s)) (n := 1) (a_cons (x_v rfl) a_nil) rfl) rfl)
  (s_seq (s_if trivial (t_of0 (t_or (t_not (t_tru (w := .s) (x_cb (w1 := .s) c_isi (a_cons (x_v rfl) (a_cons x_c a_nil))))) (t_test (w := .s) (x_op (w1 := .s) (w2 := .s) o_ne (x_v rfl) (x_frz (x_lc (w := (.o .s)) (c := none) (i_list (U := (fun _ _ _ _ => False)) (x_v rfl)) rfl (fun _ => rfl) (tk_n (fun _ h => by cases h; decide) rfl) rfl (x_join (w1 := .s) x_c (x_v rfl))))))))
  (s_ret trivial x_c) s_next)
  (s_chg rfl pt_var (a_cons x_c a_nil) (fun π hl _ ho => match π, hl, ho with | [], _, _ => g_append (fun _ => rfl))))) (by walk_at "fg")))
  (s_seq (s_setK trivial (x_call (w := (W.s)) (n := 1) (a_cons (x_v rfl) a_nil) rfl) rfl)
  (s_seq (s_if trivial (t_or (t_test (w := .s) (x_op (w1 := .s) (w2 := .s) o_ne (x_v rfl) (x_join (w1 := .s) x_c (x_frz (x_lc (w := (.o .s)) (c := none) (i_list (U := (fun _ _ _ _ => False)) (x_v rfl)) rfl (fun _ => rfl) (tk_n (fun _ h => by cases h; decide) rfl) rfl (x_join (w1 := .s) x_c (x_v rfl))))))) (t_test (w := .s) (x_op (w1 := .s) (w2 := .s) o_ne (x_frz (x_call (w := (.o .s)) (n := 1) (a_cons (x_v rfl) a_nil) rfl)) (x_frz (x_tup (w := (.o .s)) rfl (a_cons (x_v rfl) (a_cons (x_v rfl) (a_cons (x_v rfl) a_nil))))))))
  (s_ret trivial x_c) s_next)
  (s_seq (s_for (i_rng1 (U := (fun _ _ _ _ => False)) (a_cons x_c a_nil)) (tk_n (fun _ h => nomatch h) rfl)
  (s_fgR [4, 10, 11, 12] (s_seq (s_setK trivial (x_call (w := (W.s)) (n := 2) (a_cons (x_v rfl) (a_cons (x_call (w := (W.s)) (n := 2) (a_cons (x_v rfl) (a_cons (x_op o_add x_c (x_v rfl)) a_nil)) rfl) a_nil)) rfl) rfl)
  (s_seq (s_setK trivial (x_join (w1 := .s) x_c (x_frz (x_lc (w := (.o .s)) (c := none) (i_list (U := (fun _ _ _ _ => False)) (x_v rfl)) rfl (fun _ => rfl) (tk_n (fun _ h => by cases h; decide) rfl) rfl (x_join (w1 := .s) x_c (x_v rfl))))) rfl)
  (s_seq (s_setK trivial (x_call (w := (W.s)) (n := 1) (a_cons (x_frz (x_lc (w := (.o .s)) (c := none) (i_list (U := (fun _ _ _ _ => False)) (x_frz (x_split (w := .s) (w1 := .s) (w2 := .s) (x_v rfl) x_c))) rfl (fun _ => rfl) (tk_n (fun _ h => by cases h; decide) rfl) rfl (x_frz (x_split (w := .s) (w1 := .s) (w2 := .s) (x_v rfl) x_c)))) a_nil) rfl) rfl)
  (s_for (i_rng1 (U := (fun _ _ _ _ => False)) (a_cons x_c a_nil)) (tk_n (fun _ h => nomatch h) rfl)
  (s_fgR [10, 12] (s_seq (s_setK trivial (x_call (w := (.o .s)) (n := 1) (a_cons (x_v rfl) a_nil) rfl) rfl)
  (s_if trivial (t_of0 (t_or (t_test (w := .s) (x_op (w1 := .s) (w2 := .s) o_ne (x_v rfl) (x_v rfl))) (t_test (w := .s) (x_op (w1 := .s) (w2 := .s) o_ne (x_cb (w1 := .s) c_isi (a_cons (x_v rfl) (a_cons x_c a_nil))) (x_cb (w1 := .s) c_isi (a_cons (x_v rfl) (a_cons x_c a_nil)))))))
  (s_ret trivial x_c) s_next)) (by walk_at "fg")))))) (by walk_at "fg")))
  (s_seq (s_setK trivial (x_op (w2 := .s) (o_ix (w1 := .s) (fun _ => rfl)) (x_frz (x_lst (w := (.o .s)) rfl (a_cons x_c (a_cons x_c (a_cons x_c (a_cons (x_frz (x_lst (w := (.o .s)) rfl (a_cons (x_v rfl) a_nil))) (a_cons (x_frz (x_tup (w := (.o .s)) rfl (a_cons (x_v rfl) a_nil))) (a_cons (x_frz (x_dnew (w := (.o .s)) rfl)) a_nil)))))))) (x_op (w1 := .s) (w2 := .s) o_md (x_call (w := (W.s)) (n := 2) (a_cons (x_v rfl) (a_cons x_c a_nil)) rfl) x_c)) rfl)
  (s_ret trivial (x_and (x_op (w1 := .s) (w2 := .s) o_eq (x_frz (x_call (w := (.o .s)) (n := 1) (a_cons (x_v rfl) a_nil) rfl)) (x_frz (x_tup (w := (.o .s)) rfl (a_cons x_c (a_cons x_c a_nil))))) (x_op (w1 := .s) (w2 := .s) o_eq (x_frz (x_call (w := (.o .s)) (n := 1) (a_cons x_c a_nil) rfl)) (x_frz (x_tup (w := (.o .s)) rfl (a_cons x_c (a_cons x_c a_nil))))))))))))))))
  intro ds z h
  exact run_F hS 15 rfl (fun j hj => match j, hj with | 0, _ => rfl | j + 1, h => absurd h (by omega)) ds z (law_rF T.A ds z h)
end
end Q03

end
namespace Q03
open PySem PySem.Spec PyProof.Rows L2 FP PX
theorem ints_rp {K : PySem.W.Frag} {A : Own} {H : Hp} : ∀ ns : List Int, RpAll K A H (ns.map V.int) (ns.map D.int) []
  | [] => .nil
  | n :: ns => RpAll.cons (B := []) (C := []) (.sc _) (ints_rp ns) (fun _ h => nomatch h)
theorem sq_rp {K : PySem.W.Frag} {H : Hp} {a : Addr} {ns : List Int} (h : SqL K H a (ns.map V.int)) : Rp K Own.no H (.ref a) (.lst false (ns.map D.int)) [] :=
  .lstS (h.imp (fun h => ⟨h, fun z => z⟩) id) (by
    exact ints_rp ns)
theorem start_law {K : PySem.W.Frag} {H : Hp} {a : Addr} {ns : List Int} {E : XK} (hl : ns.length ≤ 63) (h : SqL K H a (ns.map V.int)) : spF K R_law [.ref a] H (fun v _ => v = .bl true) E :=
  ⟨Own.no, [.lst false (ns.map D.int)], .bl true, fun _ h => h.elim, RpAll.cons (B := []) (C := []) (sq_rp h) .nil (fun _ h => nomatch h), ⟨ns, rfl, hl, rfl⟩, fun v H2 C e f p => by cases p; rfl⟩
theorem all_mk {l : PySem.W.OpenLaw} {w : World} {K : PySem.W.Frag} {h : Heap} {mg : Str → Option Value} {fa : Addr} (X : K.In h) (G : h.Ns mainGlobals mg) (hfa : mg "law" = some (.ref fa))
    {f_BadRow___init__ f_BadScheme___init__ f_is_whole f_is_among f_is_word_of f_words_of f_Scheme___init__ f_Scheme_told f_is_size f_first_wrong_fold f_size_after f__is_fold f_rows_of f_words_at f_words_among f_scheme_rows f_scheme_text f_read_scheme f_read_size f_read_fold f__law_mixed f__law_kinds f__law_size f__law_folds f__law_scheme f__law_rows f__law_bent f__law_first_wrong f__law_read f__law_found f_law A_PressError A_BadRow A_BadScheme A_BadSheet A_BadBook A_TooGreat A_OutOfPlace A_Scheme : Addr}
    (aC_PressError : PySem.W.nsIn K mainGlobals "PressError" = some (some (.ref A_PressError)))
    (aC_BadRow : PySem.W.nsIn K mainGlobals "BadRow" = some (some (.ref A_BadRow)))
    (aC_BadScheme : PySem.W.nsIn K mainGlobals "BadScheme" = some (some (.ref A_BadScheme)))
    (aC_BadSheet : PySem.W.nsIn K mainGlobals "BadSheet" = some (some (.ref A_BadSheet)))
    (aC_BadBook : PySem.W.nsIn K mainGlobals "BadBook" = some (some (.ref A_BadBook)))
    (aC_TooGreat : PySem.W.nsIn K mainGlobals "TooGreat" = some (some (.ref A_TooGreat)))
    (aC_OutOfPlace : PySem.W.nsIn K mainGlobals "OutOfPlace" = some (some (.ref A_OutOfPlace)))
    (aC_Scheme : PySem.W.nsIn K mainGlobals "Scheme" = some (some (.ref A_Scheme)))
    (in_BadRow : PySem.W.findIn K (.ref A_BadRow) "__init__" = some (some (.ref f_BadRow___init__)))
    (in_BadScheme : PySem.W.findIn K (.ref A_BadScheme) "__init__" = some (some (.ref f_BadScheme___init__)))
    (at_Scheme___init__ : PySem.W.findIn K (.ref A_Scheme) "__init__" = some (some (.ref f_Scheme___init__)))
    (at_Scheme_told : PySem.W.findIn K (.ref A_Scheme) "told" = some (some (.ref f_Scheme_told)))
    {od0 an0 : Option Addr} {sl0 : Array (Option Value)} {oc0 kV0 dc0 pm0 cd0 ct0 : Value} (l0 : K.lookup f_BadRow___init__ = some ⟨oc0, od0, .func (PySem.W.fnOf "__init__" "BadRow.__init__" (defArgs s_BadRow___init__) (defBody s_BadRow___init__) (defScope s_BadRow___init__) .none kV0 dc0 pm0 an0 cd0 ct0), sl0⟩) (c0 : PySem.W.codeIn K cd0 "BadRow.__init__" = true) (kk_BadRow___init__ : PySem.W.keepIn K (.ref f_BadRow___init__) = true)
    {od1 an1 : Option Addr} {sl1 : Array (Option Value)} {oc1 kV1 dc1 pm1 cd1 ct1 : Value} (l1 : K.lookup f_BadScheme___init__ = some ⟨oc1, od1, .func (PySem.W.fnOf "__init__" "BadScheme.__init__" (defArgs s_BadScheme___init__) (defBody s_BadScheme___init__) (defScope s_BadScheme___init__) .none kV1 dc1 pm1 an1 cd1 ct1), sl1⟩) (c1 : PySem.W.codeIn K cd1 "BadScheme.__init__" = true) (kk_BadScheme___init__ : PySem.W.keepIn K (.ref f_BadScheme___init__) = true)
    {od2 an2 : Option Addr} {sl2 : Array (Option Value)} {oc2 kV2 dc2 pm2 cd2 ct2 : Value} (a2 : PySem.W.nsIn K mainGlobals "is_whole" = some (some (.ref f_is_whole))) (l2 : K.lookup f_is_whole = some ⟨oc2, od2, .func (PySem.W.fnOf "is_whole" "is_whole" (defArgs s_is_whole) (defBody s_is_whole) (defScope s_is_whole) .none kV2 dc2 pm2 an2 cd2 ct2), sl2⟩) (c2 : PySem.W.codeIn K cd2 "is_whole" = true) (kk_is_whole : PySem.W.keepIn K (.ref f_is_whole) = true)
    {od3 an3 : Option Addr} {sl3 : Array (Option Value)} {oc3 kV3 dc3 pm3 cd3 ct3 : Value} (a3 : PySem.W.nsIn K mainGlobals "is_among" = some (some (.ref f_is_among))) (l3 : K.lookup f_is_among = some ⟨oc3, od3, .func (PySem.W.fnOf "is_among" "is_among" (defArgs s_is_among) (defBody s_is_among) (defScope s_is_among) .none kV3 dc3 pm3 an3 cd3 ct3), sl3⟩) (c3 : PySem.W.codeIn K cd3 "is_among" = true) (kk_is_among : PySem.W.keepIn K (.ref f_is_among) = true)
    {od4 an4 : Option Addr} {sl4 : Array (Option Value)} {oc4 kV4 dc4 pm4 cd4 ct4 : Value} (a4 : PySem.W.nsIn K mainGlobals "is_word_of" = some (some (.ref f_is_word_of))) (l4 : K.lookup f_is_word_of = some ⟨oc4, od4, .func (PySem.W.fnOf "is_word_of" "is_word_of" (defArgs s_is_word_of) (defBody s_is_word_of) (defScope s_is_word_of) .none kV4 dc4 pm4 an4 cd4 ct4), sl4⟩) (c4 : PySem.W.codeIn K cd4 "is_word_of" = true) (kk_is_word_of : PySem.W.keepIn K (.ref f_is_word_of) = true)
    {od5 an5 : Option Addr} {sl5 : Array (Option Value)} {oc5 kV5 dc5 pm5 cd5 ct5 : Value} (a5 : PySem.W.nsIn K mainGlobals "words_of" = some (some (.ref f_words_of))) (l5 : K.lookup f_words_of = some ⟨oc5, od5, .func (PySem.W.fnOf "words_of" "words_of" (defArgs s_words_of) (defBody s_words_of) (defScope s_words_of) .none kV5 dc5 pm5 an5 cd5 ct5), sl5⟩) (c5 : PySem.W.codeIn K cd5 "words_of" = true) (kk_words_of : PySem.W.keepIn K (.ref f_words_of) = true)
    {od6 an6 : Option Addr} {sl6 : Array (Option Value)} {oc6 kV6 dc6 pm6 cd6 ct6 : Value} (l6 : K.lookup f_Scheme___init__ = some ⟨oc6, od6, .func (PySem.W.fnOf "__init__" "Scheme.__init__" (defArgs s_Scheme___init__) (defBody s_Scheme___init__) (defScope s_Scheme___init__) .none kV6 dc6 pm6 an6 cd6 ct6), sl6⟩) (c6 : PySem.W.codeIn K cd6 "Scheme.__init__" = true) (kk_Scheme___init__ : PySem.W.keepIn K (.ref f_Scheme___init__) = true)
    {od7 an7 : Option Addr} {sl7 : Array (Option Value)} {oc7 kV7 dc7 pm7 cd7 ct7 : Value} (l7 : K.lookup f_Scheme_told = some ⟨oc7, od7, .func (PySem.W.fnOf "told" "Scheme.told" (defArgs s_Scheme_told) (defBody s_Scheme_told) (defScope s_Scheme_told) .none kV7 dc7 pm7 an7 cd7 ct7), sl7⟩) (c7 : PySem.W.codeIn K cd7 "Scheme.told" = true) (kk_Scheme_told : PySem.W.keepIn K (.ref f_Scheme_told) = true)
    {od8 an8 : Option Addr} {sl8 : Array (Option Value)} {oc8 kV8 dc8 pm8 cd8 ct8 : Value} (a8 : PySem.W.nsIn K mainGlobals "is_size" = some (some (.ref f_is_size))) (l8 : K.lookup f_is_size = some ⟨oc8, od8, .func (PySem.W.fnOf "is_size" "is_size" (defArgs s_is_size) (defBody s_is_size) (defScope s_is_size) .none kV8 dc8 pm8 an8 cd8 ct8), sl8⟩) (c8 : PySem.W.codeIn K cd8 "is_size" = true) (kk_is_size : PySem.W.keepIn K (.ref f_is_size) = true)
    {od9 an9 : Option Addr} {sl9 : Array (Option Value)} {oc9 kV9 dc9 pm9 cd9 ct9 : Value} (a9 : PySem.W.nsIn K mainGlobals "first_wrong_fold" = some (some (.ref f_first_wrong_fold))) (l9 : K.lookup f_first_wrong_fold = some ⟨oc9, od9, .func (PySem.W.fnOf "first_wrong_fold" "first_wrong_fold" (defArgs s_first_wrong_fold) (defBody s_first_wrong_fold) (defScope s_first_wrong_fold) .none kV9 dc9 pm9 an9 cd9 ct9), sl9⟩) (c9 : PySem.W.codeIn K cd9 "first_wrong_fold" = true) (kk_first_wrong_fold : PySem.W.keepIn K (.ref f_first_wrong_fold) = true)
    {od10 an10 : Option Addr} {sl10 : Array (Option Value)} {oc10 kV10 dc10 pm10 cd10 ct10 : Value} (a10 : PySem.W.nsIn K mainGlobals "size_after" = some (some (.ref f_size_after))) (l10 : K.lookup f_size_after = some ⟨oc10, od10, .func (PySem.W.fnOf "size_after" "size_after" (defArgs s_size_after) (defBody s_size_after) (defScope s_size_after) .none kV10 dc10 pm10 an10 cd10 ct10), sl10⟩) (c10 : PySem.W.codeIn K cd10 "size_after" = true) (kk_size_after : PySem.W.keepIn K (.ref f_size_after) = true)
    {od11 an11 : Option Addr} {sl11 : Array (Option Value)} {oc11 kV11 dc11 pm11 cd11 ct11 : Value} (a11 : PySem.W.nsIn K mainGlobals "_is_fold" = some (some (.ref f__is_fold))) (l11 : K.lookup f__is_fold = some ⟨oc11, od11, .func (PySem.W.fnOf "_is_fold" "_is_fold" (defArgs s__is_fold) (defBody s__is_fold) (defScope s__is_fold) .none kV11 dc11 pm11 an11 cd11 ct11), sl11⟩) (c11 : PySem.W.codeIn K cd11 "_is_fold" = true) (kk__is_fold : PySem.W.keepIn K (.ref f__is_fold) = true)
    {od12 an12 : Option Addr} {sl12 : Array (Option Value)} {oc12 kV12 dc12 pm12 cd12 ct12 : Value} (a12 : PySem.W.nsIn K mainGlobals "rows_of" = some (some (.ref f_rows_of))) (l12 : K.lookup f_rows_of = some ⟨oc12, od12, .func (PySem.W.fnOf "rows_of" "rows_of" (defArgs s_rows_of) (defBody s_rows_of) (defScope s_rows_of) .none kV12 dc12 pm12 an12 cd12 ct12), sl12⟩) (c12 : PySem.W.codeIn K cd12 "rows_of" = true) (kk_rows_of : PySem.W.keepIn K (.ref f_rows_of) = true)
    {od13 an13 : Option Addr} {sl13 : Array (Option Value)} {oc13 kV13 dc13 pm13 cd13 ct13 : Value} (a13 : PySem.W.nsIn K mainGlobals "words_at" = some (some (.ref f_words_at))) (l13 : K.lookup f_words_at = some ⟨oc13, od13, .func (PySem.W.fnOf "words_at" "words_at" (defArgs s_words_at) (defBody s_words_at) (defScope s_words_at) .none kV13 dc13 pm13 an13 cd13 ct13), sl13⟩) (c13 : PySem.W.codeIn K cd13 "words_at" = true) (kk_words_at : PySem.W.keepIn K (.ref f_words_at) = true)
    {od14 an14 : Option Addr} {sl14 : Array (Option Value)} {oc14 kV14 dc14 pm14 cd14 ct14 : Value} (a14 : PySem.W.nsIn K mainGlobals "words_among" = some (some (.ref f_words_among))) (l14 : K.lookup f_words_among = some ⟨oc14, od14, .func (PySem.W.fnOf "words_among" "words_among" (defArgs s_words_among) (defBody s_words_among) (defScope s_words_among) .none kV14 dc14 pm14 an14 cd14 ct14), sl14⟩) (c14 : PySem.W.codeIn K cd14 "words_among" = true) (kk_words_among : PySem.W.keepIn K (.ref f_words_among) = true)
    {od15 an15 : Option Addr} {sl15 : Array (Option Value)} {oc15 kV15 dc15 pm15 cd15 ct15 : Value} (a15 : PySem.W.nsIn K mainGlobals "scheme_rows" = some (some (.ref f_scheme_rows))) (l15 : K.lookup f_scheme_rows = some ⟨oc15, od15, .func (PySem.W.fnOf "scheme_rows" "scheme_rows" (defArgs s_scheme_rows) (defBody s_scheme_rows) (defScope s_scheme_rows) .none kV15 dc15 pm15 an15 cd15 ct15), sl15⟩) (c15 : PySem.W.codeIn K cd15 "scheme_rows" = true) (kk_scheme_rows : PySem.W.keepIn K (.ref f_scheme_rows) = true)
    {od16 an16 : Option Addr} {sl16 : Array (Option Value)} {oc16 kV16 dc16 pm16 cd16 ct16 : Value} (a16 : PySem.W.nsIn K mainGlobals "scheme_text" = some (some (.ref f_scheme_text))) (l16 : K.lookup f_scheme_text = some ⟨oc16, od16, .func (PySem.W.fnOf "scheme_text" "scheme_text" (defArgs s_scheme_text) (defBody s_scheme_text) (defScope s_scheme_text) .none kV16 dc16 pm16 an16 cd16 ct16), sl16⟩) (c16 : PySem.W.codeIn K cd16 "scheme_text" = true) (kk_scheme_text : PySem.W.keepIn K (.ref f_scheme_text) = true)
    {od17 an17 : Option Addr} {sl17 : Array (Option Value)} {oc17 kV17 dc17 pm17 cd17 ct17 : Value} (a17 : PySem.W.nsIn K mainGlobals "read_scheme" = some (some (.ref f_read_scheme))) (l17 : K.lookup f_read_scheme = some ⟨oc17, od17, .func (PySem.W.fnOf "read_scheme" "read_scheme" (defArgs s_read_scheme) (defBody s_read_scheme) (defScope s_read_scheme) .none kV17 dc17 pm17 an17 cd17 ct17), sl17⟩) (c17 : PySem.W.codeIn K cd17 "read_scheme" = true) (kk_read_scheme : PySem.W.keepIn K (.ref f_read_scheme) = true)
    {od18 an18 : Option Addr} {sl18 : Array (Option Value)} {oc18 kV18 dc18 pm18 cd18 ct18 : Value} (a18 : PySem.W.nsIn K mainGlobals "read_size" = some (some (.ref f_read_size))) (l18 : K.lookup f_read_size = some ⟨oc18, od18, .func (PySem.W.fnOf "read_size" "read_size" (defArgs s_read_size) (defBody s_read_size) (defScope s_read_size) .none kV18 dc18 pm18 an18 cd18 ct18), sl18⟩) (c18 : PySem.W.codeIn K cd18 "read_size" = true) (kk_read_size : PySem.W.keepIn K (.ref f_read_size) = true)
    {od19 an19 : Option Addr} {sl19 : Array (Option Value)} {oc19 kV19 dc19 pm19 cd19 ct19 : Value} (a19 : PySem.W.nsIn K mainGlobals "read_fold" = some (some (.ref f_read_fold))) (l19 : K.lookup f_read_fold = some ⟨oc19, od19, .func (PySem.W.fnOf "read_fold" "read_fold" (defArgs s_read_fold) (defBody s_read_fold) (defScope s_read_fold) .none kV19 dc19 pm19 an19 cd19 ct19), sl19⟩) (c19 : PySem.W.codeIn K cd19 "read_fold" = true) (kk_read_fold : PySem.W.keepIn K (.ref f_read_fold) = true)
    {od20 an20 : Option Addr} {sl20 : Array (Option Value)} {oc20 kV20 dc20 pm20 cd20 ct20 : Value} (a20 : PySem.W.nsIn K mainGlobals "_law_mixed" = some (some (.ref f__law_mixed))) (l20 : K.lookup f__law_mixed = some ⟨oc20, od20, .func (PySem.W.fnOf "_law_mixed" "_law_mixed" (defArgs s__law_mixed) (defBody s__law_mixed) (defScope s__law_mixed) .none kV20 dc20 pm20 an20 cd20 ct20), sl20⟩) (c20 : PySem.W.codeIn K cd20 "_law_mixed" = true) (kk__law_mixed : PySem.W.keepIn K (.ref f__law_mixed) = true)
    {od21 an21 : Option Addr} {sl21 : Array (Option Value)} {oc21 kV21 dc21 pm21 cd21 ct21 : Value} (a21 : PySem.W.nsIn K mainGlobals "_law_kinds" = some (some (.ref f__law_kinds))) (l21 : K.lookup f__law_kinds = some ⟨oc21, od21, .func (PySem.W.fnOf "_law_kinds" "_law_kinds" (defArgs s__law_kinds) (defBody s__law_kinds) (defScope s__law_kinds) .none kV21 dc21 pm21 an21 cd21 ct21), sl21⟩) (c21 : PySem.W.codeIn K cd21 "_law_kinds" = true) (kk__law_kinds : PySem.W.keepIn K (.ref f__law_kinds) = true)
    {od22 an22 : Option Addr} {sl22 : Array (Option Value)} {oc22 kV22 dc22 pm22 cd22 ct22 : Value} (a22 : PySem.W.nsIn K mainGlobals "_law_size" = some (some (.ref f__law_size))) (l22 : K.lookup f__law_size = some ⟨oc22, od22, .func (PySem.W.fnOf "_law_size" "_law_size" (defArgs s__law_size) (defBody s__law_size) (defScope s__law_size) .none kV22 dc22 pm22 an22 cd22 ct22), sl22⟩) (c22 : PySem.W.codeIn K cd22 "_law_size" = true) (kk__law_size : PySem.W.keepIn K (.ref f__law_size) = true)
    {od23 an23 : Option Addr} {sl23 : Array (Option Value)} {oc23 kV23 dc23 pm23 cd23 ct23 : Value} (a23 : PySem.W.nsIn K mainGlobals "_law_folds" = some (some (.ref f__law_folds))) (l23 : K.lookup f__law_folds = some ⟨oc23, od23, .func (PySem.W.fnOf "_law_folds" "_law_folds" (defArgs s__law_folds) (defBody s__law_folds) (defScope s__law_folds) .none kV23 dc23 pm23 an23 cd23 ct23), sl23⟩) (c23 : PySem.W.codeIn K cd23 "_law_folds" = true) (kk__law_folds : PySem.W.keepIn K (.ref f__law_folds) = true)
    {od24 an24 : Option Addr} {sl24 : Array (Option Value)} {oc24 kV24 dc24 pm24 cd24 ct24 : Value} (a24 : PySem.W.nsIn K mainGlobals "_law_scheme" = some (some (.ref f__law_scheme))) (l24 : K.lookup f__law_scheme = some ⟨oc24, od24, .func (PySem.W.fnOf "_law_scheme" "_law_scheme" (defArgs s__law_scheme) (defBody s__law_scheme) (defScope s__law_scheme) .none kV24 dc24 pm24 an24 cd24 ct24), sl24⟩) (c24 : PySem.W.codeIn K cd24 "_law_scheme" = true) (kk__law_scheme : PySem.W.keepIn K (.ref f__law_scheme) = true)
    {od25 an25 : Option Addr} {sl25 : Array (Option Value)} {oc25 kV25 dc25 pm25 cd25 ct25 : Value} (a25 : PySem.W.nsIn K mainGlobals "_law_rows" = some (some (.ref f__law_rows))) (l25 : K.lookup f__law_rows = some ⟨oc25, od25, .func (PySem.W.fnOf "_law_rows" "_law_rows" (defArgs s__law_rows) (defBody s__law_rows) (defScope s__law_rows) .none kV25 dc25 pm25 an25 cd25 ct25), sl25⟩) (c25 : PySem.W.codeIn K cd25 "_law_rows" = true) (kk__law_rows : PySem.W.keepIn K (.ref f__law_rows) = true)
    {od26 an26 : Option Addr} {sl26 : Array (Option Value)} {oc26 kV26 dc26 pm26 cd26 ct26 : Value} (a26 : PySem.W.nsIn K mainGlobals "_law_bent" = some (some (.ref f__law_bent))) (l26 : K.lookup f__law_bent = some ⟨oc26, od26, .func (PySem.W.fnOf "_law_bent" "_law_bent" (defArgs s__law_bent) (defBody s__law_bent) (defScope s__law_bent) .none kV26 dc26 pm26 an26 cd26 ct26), sl26⟩) (c26 : PySem.W.codeIn K cd26 "_law_bent" = true) (kk__law_bent : PySem.W.keepIn K (.ref f__law_bent) = true)
    {od27 an27 : Option Addr} {sl27 : Array (Option Value)} {oc27 kV27 dc27 pm27 cd27 ct27 : Value} (a27 : PySem.W.nsIn K mainGlobals "_law_first_wrong" = some (some (.ref f__law_first_wrong))) (l27 : K.lookup f__law_first_wrong = some ⟨oc27, od27, .func (PySem.W.fnOf "_law_first_wrong" "_law_first_wrong" (defArgs s__law_first_wrong) (defBody s__law_first_wrong) (defScope s__law_first_wrong) .none kV27 dc27 pm27 an27 cd27 ct27), sl27⟩) (c27 : PySem.W.codeIn K cd27 "_law_first_wrong" = true) (kk__law_first_wrong : PySem.W.keepIn K (.ref f__law_first_wrong) = true)
    {od28 an28 : Option Addr} {sl28 : Array (Option Value)} {oc28 kV28 dc28 pm28 cd28 ct28 : Value} (a28 : PySem.W.nsIn K mainGlobals "_law_read" = some (some (.ref f__law_read))) (l28 : K.lookup f__law_read = some ⟨oc28, od28, .func (PySem.W.fnOf "_law_read" "_law_read" (defArgs s__law_read) (defBody s__law_read) (defScope s__law_read) .none kV28 dc28 pm28 an28 cd28 ct28), sl28⟩) (c28 : PySem.W.codeIn K cd28 "_law_read" = true) (kk__law_read : PySem.W.keepIn K (.ref f__law_read) = true)
    {od29 an29 : Option Addr} {sl29 : Array (Option Value)} {oc29 kV29 dc29 pm29 cd29 ct29 : Value} (a29 : PySem.W.nsIn K mainGlobals "_law_found" = some (some (.ref f__law_found))) (l29 : K.lookup f__law_found = some ⟨oc29, od29, .func (PySem.W.fnOf "_law_found" "_law_found" (defArgs s__law_found) (defBody s__law_found) (defScope s__law_found) .none kV29 dc29 pm29 an29 cd29 ct29), sl29⟩) (c29 : PySem.W.codeIn K cd29 "_law_found" = true) (kk__law_found : PySem.W.keepIn K (.ref f__law_found) = true)
    {od30 an30 : Option Addr} {sl30 : Array (Option Value)} {oc30 kV30 dc30 pm30 cd30 ct30 : Value} (a30 : PySem.W.nsIn K mainGlobals "law" = some (some (.ref f_law))) (l30 : K.lookup f_law = some ⟨oc30, od30, .func (PySem.W.fnOf "law" "law" (defArgs s_law) (defBody s_law) (defScope s_law) .none kV30 dc30 pm30 an30 cd30 ct30), sl30⟩) (c30 : PySem.W.codeIn K cd30 "law" = true) (kk_law : PySem.W.keepIn K (.ref f_law) = true)
    (xs_PressError : PySem.W.subIn K (.ref A_PressError) (.type "BaseException") = some true)
    (xt_PressError : PySem.W.typeIn K (.ref A_PressError) = some (.type "type"))
    (xh_PressError : PySem.W.hasDictIn K A_PressError = true)
    (bs_PressError : PySem.W.specialIn K (.ref A_PressError) "__getattribute__" = some (some (.builtin "type.__getattribute__")))
    (br_PressError : PySem.W.readsIn K A_PressError (.type "type") = true)
    (bf_PressError : PySem.W.findCls K (.ref A_PressError) (.type "type") "__init__" = some (.val (.builtin "ValueError.__init__")))
    {nm_BadRow qq_BadRow : Str} {N_BadRow : Addr} {bs_BadRow : List Value} {sn_BadRow : List Str} {su_BadRow : List Value} {ab_BadRow : Bool} {co_BadRow : Option Bool} {dd_BadRow : Option Addr} {k0_BadRow k1_BadRow k2_BadRow k3_BadRow k5_BadRow : Option Value}
    (xs_BadRow : PySem.W.subIn K (.ref A_BadRow) (.type "BaseException") = some true)
    (xt_BadRow : PySem.W.typeIn K (.ref A_BadRow) = some (.type "type"))
    (xh_BadRow : PySem.W.hasDictIn K A_BadRow = true)
    (k_BadRow : PySem.W.keepIn K (.ref A_BadRow) = true)
    (hg_BadRow : PySem.W.findIn K (.ref A_BadRow) "__getattribute__" = some (some (.builtin "BaseException.__getattribute__")))
    (hk_BadRow : PySem.W.findIn K (.ref A_BadRow) "__getattr__" = some none)
    (ha_BadRow : PySem.W.findIn K (.ref A_BadRow) "__class__" = some (some (.builtin "object.__class__")))
    (hn_BadRow : PySem.W.specialIn K (.builtin "object.__class__") "__get__" = some (some (.builtin "getset_descriptor.__get__")))
    (ht_BadRow : PySem.W.takesIn K (.builtin "object.__class__") = some true)
    (hm_BadRow : PySem.W.mroIn K A_BadRow (.type "object") = some true)
    (xc_PressError_BadRow : PySem.W.subIn K (.ref A_BadRow) (.ref A_PressError) = some true)
    (sa_BadRow : PySem.W.findIn K (.ref A_BadRow) "__setattr__" = some (some (.builtin "object.__setattr__")))
    (xl_BadRow : K.lookup A_BadRow = some (excClassObj nm_BadRow qq_BadRow A_BadRow N_BadRow bs_BadRow [.ref A_PressError, .type "ValueError", .type "Exception", .type "BaseException", .type "object"] true sn_BadRow su_BadRow ab_BadRow co_BadRow dd_BadRow k0_BadRow k1_BadRow k2_BadRow k3_BadRow k5_BadRow "ValueError.__new__"))
    (ft_BadRow___init__ : PySem.W.typeIn K (.ref f_BadRow___init__) = some (.type "function"))
    (nf_row_BadRow : PySem.W.findIn K (.ref A_BadRow) "row" = some none)
    (nf_word_BadRow : PySem.W.findIn K (.ref A_BadRow) "word" = some none)
    {nm_BadScheme qq_BadScheme : Str} {N_BadScheme : Addr} {bs_BadScheme : List Value} {sn_BadScheme : List Str} {su_BadScheme : List Value} {ab_BadScheme : Bool} {co_BadScheme : Option Bool} {dd_BadScheme : Option Addr} {k0_BadScheme k1_BadScheme k2_BadScheme k3_BadScheme k5_BadScheme : Option Value}
    (xs_BadScheme : PySem.W.subIn K (.ref A_BadScheme) (.type "BaseException") = some true)
    (xt_BadScheme : PySem.W.typeIn K (.ref A_BadScheme) = some (.type "type"))
    (xh_BadScheme : PySem.W.hasDictIn K A_BadScheme = true)
    (k_BadScheme : PySem.W.keepIn K (.ref A_BadScheme) = true)
    (hg_BadScheme : PySem.W.findIn K (.ref A_BadScheme) "__getattribute__" = some (some (.builtin "BaseException.__getattribute__")))
    (hk_BadScheme : PySem.W.findIn K (.ref A_BadScheme) "__getattr__" = some none)
    (ha_BadScheme : PySem.W.findIn K (.ref A_BadScheme) "__class__" = some (some (.builtin "object.__class__")))
    (hn_BadScheme : PySem.W.specialIn K (.builtin "object.__class__") "__get__" = some (some (.builtin "getset_descriptor.__get__")))
    (ht_BadScheme : PySem.W.takesIn K (.builtin "object.__class__") = some true)
    (hm_BadScheme : PySem.W.mroIn K A_BadScheme (.type "object") = some true)
    (xc_PressError_BadScheme : PySem.W.subIn K (.ref A_BadScheme) (.ref A_PressError) = some true)
    (sa_BadScheme : PySem.W.findIn K (.ref A_BadScheme) "__setattr__" = some (some (.builtin "object.__setattr__")))
    (xl_BadScheme : K.lookup A_BadScheme = some (excClassObj nm_BadScheme qq_BadScheme A_BadScheme N_BadScheme bs_BadScheme [.ref A_PressError, .type "ValueError", .type "Exception", .type "BaseException", .type "object"] true sn_BadScheme su_BadScheme ab_BadScheme co_BadScheme dd_BadScheme k0_BadScheme k1_BadScheme k2_BadScheme k3_BadScheme k5_BadScheme "ValueError.__new__"))
    (ft_BadScheme___init__ : PySem.W.typeIn K (.ref f_BadScheme___init__) = some (.type "function"))
    (nf_at_BadScheme : PySem.W.findIn K (.ref A_BadScheme) "at" = some none)
    (xs_BadSheet : PySem.W.subIn K (.ref A_BadSheet) (.type "BaseException") = some true)
    (xt_BadSheet : PySem.W.typeIn K (.ref A_BadSheet) = some (.type "type"))
    (xh_BadSheet : PySem.W.hasDictIn K A_BadSheet = true)
    (k_BadSheet : PySem.W.keepIn K (.ref A_BadSheet) = true)
    (hg_BadSheet : PySem.W.findIn K (.ref A_BadSheet) "__getattribute__" = some (some (.builtin "BaseException.__getattribute__")))
    (hk_BadSheet : PySem.W.findIn K (.ref A_BadSheet) "__getattr__" = some none)
    (ha_BadSheet : PySem.W.findIn K (.ref A_BadSheet) "__class__" = some (some (.builtin "object.__class__")))
    (hn_BadSheet : PySem.W.specialIn K (.builtin "object.__class__") "__get__" = some (some (.builtin "getset_descriptor.__get__")))
    (ht_BadSheet : PySem.W.takesIn K (.builtin "object.__class__") = some true)
    (hm_BadSheet : PySem.W.mroIn K A_BadSheet (.type "object") = some true)
    (xc_PressError_BadSheet : PySem.W.subIn K (.ref A_BadSheet) (.ref A_PressError) = some true)
    (q_BadSheet : PySem.W.excIn K A_BadSheet [.type "ValueError", .type "Exception", .type "BaseException", .type "object"] "ValueError.__new__" = true)
    (xs_BadBook : PySem.W.subIn K (.ref A_BadBook) (.type "BaseException") = some true)
    (xt_BadBook : PySem.W.typeIn K (.ref A_BadBook) = some (.type "type"))
    (xh_BadBook : PySem.W.hasDictIn K A_BadBook = true)
    (k_BadBook : PySem.W.keepIn K (.ref A_BadBook) = true)
    (hg_BadBook : PySem.W.findIn K (.ref A_BadBook) "__getattribute__" = some (some (.builtin "BaseException.__getattribute__")))
    (hk_BadBook : PySem.W.findIn K (.ref A_BadBook) "__getattr__" = some none)
    (ha_BadBook : PySem.W.findIn K (.ref A_BadBook) "__class__" = some (some (.builtin "object.__class__")))
    (hn_BadBook : PySem.W.specialIn K (.builtin "object.__class__") "__get__" = some (some (.builtin "getset_descriptor.__get__")))
    (ht_BadBook : PySem.W.takesIn K (.builtin "object.__class__") = some true)
    (hm_BadBook : PySem.W.mroIn K A_BadBook (.type "object") = some true)
    (xc_PressError_BadBook : PySem.W.subIn K (.ref A_BadBook) (.ref A_PressError) = some true)
    (q_BadBook : PySem.W.excIn K A_BadBook [.type "ValueError", .type "Exception", .type "BaseException", .type "object"] "ValueError.__new__" = true)
    (xs_TooGreat : PySem.W.subIn K (.ref A_TooGreat) (.type "BaseException") = some true)
    (xt_TooGreat : PySem.W.typeIn K (.ref A_TooGreat) = some (.type "type"))
    (xh_TooGreat : PySem.W.hasDictIn K A_TooGreat = true)
    (k_TooGreat : PySem.W.keepIn K (.ref A_TooGreat) = true)
    (hg_TooGreat : PySem.W.findIn K (.ref A_TooGreat) "__getattribute__" = some (some (.builtin "BaseException.__getattribute__")))
    (hk_TooGreat : PySem.W.findIn K (.ref A_TooGreat) "__getattr__" = some none)
    (ha_TooGreat : PySem.W.findIn K (.ref A_TooGreat) "__class__" = some (some (.builtin "object.__class__")))
    (hn_TooGreat : PySem.W.specialIn K (.builtin "object.__class__") "__get__" = some (some (.builtin "getset_descriptor.__get__")))
    (ht_TooGreat : PySem.W.takesIn K (.builtin "object.__class__") = some true)
    (hm_TooGreat : PySem.W.mroIn K A_TooGreat (.type "object") = some true)
    (xc_PressError_TooGreat : PySem.W.subIn K (.ref A_TooGreat) (.ref A_PressError) = some true)
    (q_TooGreat : PySem.W.excIn K A_TooGreat [.type "ValueError", .type "Exception", .type "BaseException", .type "object"] "ValueError.__new__" = true)
    (xs_OutOfPlace : PySem.W.subIn K (.ref A_OutOfPlace) (.type "BaseException") = some true)
    (xt_OutOfPlace : PySem.W.typeIn K (.ref A_OutOfPlace) = some (.type "type"))
    (xh_OutOfPlace : PySem.W.hasDictIn K A_OutOfPlace = true)
    (k_OutOfPlace : PySem.W.keepIn K (.ref A_OutOfPlace) = true)
    (hg_OutOfPlace : PySem.W.findIn K (.ref A_OutOfPlace) "__getattribute__" = some (some (.builtin "BaseException.__getattribute__")))
    (hk_OutOfPlace : PySem.W.findIn K (.ref A_OutOfPlace) "__getattr__" = some none)
    (ha_OutOfPlace : PySem.W.findIn K (.ref A_OutOfPlace) "__class__" = some (some (.builtin "object.__class__")))
    (hn_OutOfPlace : PySem.W.specialIn K (.builtin "object.__class__") "__get__" = some (some (.builtin "getset_descriptor.__get__")))
    (ht_OutOfPlace : PySem.W.takesIn K (.builtin "object.__class__") = some true)
    (hm_OutOfPlace : PySem.W.mroIn K A_OutOfPlace (.type "object") = some true)
    (xc_PressError_OutOfPlace : PySem.W.subIn K (.ref A_OutOfPlace) (.ref A_PressError) = some true)
    (q_OutOfPlace : PySem.W.excIn K A_OutOfPlace [.type "ValueError", .type "Exception", .type "BaseException", .type "object"] "ValueError.__new__" = true)
    (pg_Scheme : PySem.W.plainGet K A_Scheme Str.empty = true)
    (hd_Scheme : PySem.W.hasDictIn K A_Scheme = true)
    (po_Scheme : PySem.W.plainOver K A_Scheme = true)
    (sa_Scheme : PySem.W.findIn K (.ref A_Scheme) "__setattr__" = some (some (.builtin "object.__setattr__")))
    (na__rows_Scheme : PySem.W.findIn K (.ref A_Scheme) "_rows" = some none)
    (na__columns_Scheme : PySem.W.findIn K (.ref A_Scheme) "_columns" = some none)
    (na__folds_Scheme : PySem.W.findIn K (.ref A_Scheme) "_folds" = some none)
    (fn_Scheme___init__ : PySem.W.isFn K (.ref f_Scheme___init__) = true)
    (mi_Scheme : PySem.W.makesIn K A_Scheme = true)
    (kc_Scheme : PySem.W.keepIn K (.ref A_Scheme) = true)
    (fn_Scheme_told : PySem.W.isFn K (.ref f_Scheme_told) = true)
    (ki_BadRow_BadRow : PySem.W.kitOne K (.ref A_BadRow) (.ref A_BadRow) = some true)
    (ki_BadRow_BadScheme : PySem.W.kitOne K (.ref A_BadRow) (.ref A_BadScheme) = some false)
    (ki_BadRow_BadSheet : PySem.W.kitOne K (.ref A_BadRow) (.ref A_BadSheet) = some false)
    (ki_BadRow_BadBook : PySem.W.kitOne K (.ref A_BadRow) (.ref A_BadBook) = some false)
    (ki_BadRow_TooGreat : PySem.W.kitOne K (.ref A_BadRow) (.ref A_TooGreat) = some false)
    (ki_BadRow_OutOfPlace : PySem.W.kitOne K (.ref A_BadRow) (.ref A_OutOfPlace) = some false)
    (ki_BadRow_ValueError : PySem.W.kitOne K (.ref A_BadRow) (.type "ValueError") = some true)
    (ki_BadRow_PressError : PySem.W.kitOne K (.ref A_BadRow) (.ref A_PressError) = some true)
    (ki_BadScheme_BadRow : PySem.W.kitOne K (.ref A_BadScheme) (.ref A_BadRow) = some false)
    (ki_BadScheme_BadScheme : PySem.W.kitOne K (.ref A_BadScheme) (.ref A_BadScheme) = some true)
    (ki_BadScheme_BadSheet : PySem.W.kitOne K (.ref A_BadScheme) (.ref A_BadSheet) = some false)
    (ki_BadScheme_BadBook : PySem.W.kitOne K (.ref A_BadScheme) (.ref A_BadBook) = some false)
    (ki_BadScheme_TooGreat : PySem.W.kitOne K (.ref A_BadScheme) (.ref A_TooGreat) = some false)
    (ki_BadScheme_OutOfPlace : PySem.W.kitOne K (.ref A_BadScheme) (.ref A_OutOfPlace) = some false)
    (ki_BadScheme_ValueError : PySem.W.kitOne K (.ref A_BadScheme) (.type "ValueError") = some true)
    (ki_BadScheme_PressError : PySem.W.kitOne K (.ref A_BadScheme) (.ref A_PressError) = some true)
    (ki_BadSheet_BadRow : PySem.W.kitOne K (.ref A_BadSheet) (.ref A_BadRow) = some false)
    (ki_BadSheet_BadScheme : PySem.W.kitOne K (.ref A_BadSheet) (.ref A_BadScheme) = some false)
    (ki_BadSheet_BadSheet : PySem.W.kitOne K (.ref A_BadSheet) (.ref A_BadSheet) = some true)
    (ki_BadSheet_BadBook : PySem.W.kitOne K (.ref A_BadSheet) (.ref A_BadBook) = some false)
    (ki_BadSheet_TooGreat : PySem.W.kitOne K (.ref A_BadSheet) (.ref A_TooGreat) = some false)
    (ki_BadSheet_OutOfPlace : PySem.W.kitOne K (.ref A_BadSheet) (.ref A_OutOfPlace) = some false)
    (ki_BadSheet_ValueError : PySem.W.kitOne K (.ref A_BadSheet) (.type "ValueError") = some true)
    (ki_BadSheet_PressError : PySem.W.kitOne K (.ref A_BadSheet) (.ref A_PressError) = some true)
    (ki_BadBook_BadRow : PySem.W.kitOne K (.ref A_BadBook) (.ref A_BadRow) = some false)
    (ki_BadBook_BadScheme : PySem.W.kitOne K (.ref A_BadBook) (.ref A_BadScheme) = some false)
    (ki_BadBook_BadSheet : PySem.W.kitOne K (.ref A_BadBook) (.ref A_BadSheet) = some false)
    (ki_BadBook_BadBook : PySem.W.kitOne K (.ref A_BadBook) (.ref A_BadBook) = some true)
    (ki_BadBook_TooGreat : PySem.W.kitOne K (.ref A_BadBook) (.ref A_TooGreat) = some false)
    (ki_BadBook_OutOfPlace : PySem.W.kitOne K (.ref A_BadBook) (.ref A_OutOfPlace) = some false)
    (ki_BadBook_ValueError : PySem.W.kitOne K (.ref A_BadBook) (.type "ValueError") = some true)
    (ki_BadBook_PressError : PySem.W.kitOne K (.ref A_BadBook) (.ref A_PressError) = some true)
    (ki_TooGreat_BadRow : PySem.W.kitOne K (.ref A_TooGreat) (.ref A_BadRow) = some false)
    (ki_TooGreat_BadScheme : PySem.W.kitOne K (.ref A_TooGreat) (.ref A_BadScheme) = some false)
    (ki_TooGreat_BadSheet : PySem.W.kitOne K (.ref A_TooGreat) (.ref A_BadSheet) = some false)
    (ki_TooGreat_BadBook : PySem.W.kitOne K (.ref A_TooGreat) (.ref A_BadBook) = some false)
    (ki_TooGreat_TooGreat : PySem.W.kitOne K (.ref A_TooGreat) (.ref A_TooGreat) = some true)
    (ki_TooGreat_OutOfPlace : PySem.W.kitOne K (.ref A_TooGreat) (.ref A_OutOfPlace) = some false)
    (ki_TooGreat_ValueError : PySem.W.kitOne K (.ref A_TooGreat) (.type "ValueError") = some true)
    (ki_TooGreat_PressError : PySem.W.kitOne K (.ref A_TooGreat) (.ref A_PressError) = some true)
    (ki_OutOfPlace_BadRow : PySem.W.kitOne K (.ref A_OutOfPlace) (.ref A_BadRow) = some false)
    (ki_OutOfPlace_BadScheme : PySem.W.kitOne K (.ref A_OutOfPlace) (.ref A_BadScheme) = some false)
    (ki_OutOfPlace_BadSheet : PySem.W.kitOne K (.ref A_OutOfPlace) (.ref A_BadSheet) = some false)
    (ki_OutOfPlace_BadBook : PySem.W.kitOne K (.ref A_OutOfPlace) (.ref A_BadBook) = some false)
    (ki_OutOfPlace_TooGreat : PySem.W.kitOne K (.ref A_OutOfPlace) (.ref A_TooGreat) = some false)
    (ki_OutOfPlace_OutOfPlace : PySem.W.kitOne K (.ref A_OutOfPlace) (.ref A_OutOfPlace) = some true)
    (ki_OutOfPlace_ValueError : PySem.W.kitOne K (.ref A_OutOfPlace) (.type "ValueError") = some true)
    (ki_OutOfPlace_PressError : PySem.W.kitOne K (.ref A_OutOfPlace) (.ref A_PressError) = some true)
    (z0 : PySem.W.nsIn K mainGlobals "ValueError" = some none)
    (z1 : PySem.W.nsIn K mainGlobals "bool" = some none)
    (z2 : PySem.W.nsIn K mainGlobals "enumerate" = some none)
    (z3 : PySem.W.nsIn K mainGlobals "int" = some none)
    (z4 : PySem.W.nsIn K mainGlobals "isinstance" = some none)
    (z5 : PySem.W.nsIn K mainGlobals "len" = some none)
    (z6 : PySem.W.nsIn K mainGlobals "list" = some none)
    (z7 : PySem.W.nsIn K mainGlobals "min" = some none)
    (z8 : PySem.W.nsIn K mainGlobals "range" = some none)
    (z9 : PySem.W.nsIn K mainGlobals "str" = some none)
    (z10 : PySem.W.nsIn K mainGlobals "sum" = some none)
    (z11 : PySem.W.nsIn K mainGlobals "tuple" = some none)
    {p0 : Addr} {dd0 : Option Addr} {n0 : Nat} {sk0 : Array (Option Value)} {u0_0 u0_1 u0_2 u0_3 : Tok} (q0 : PySem.W.nsIn K mainGlobals "EDGES" = some (some (.ref p0))) (w0 : K.lookup p0 = some ⟨.type "tuple", dd0, .seq #[.str "left" u0_0, .str "right" u0_1, .str "top" u0_2, .str "bottom" u0_3] n0, sk0⟩)
    {p1 : Addr} {dd1 : Option Addr} {n1 : Nat} {sk1 : Array (Option Value)} {u1_0 u1_1 u1_2 u1_3 u1_4 u1_5 u1_6 u1_7 : Tok} (q1 : PySem.W.nsIn K mainGlobals "FIGURES" = some (some (.ref p1))) (w1 : K.lookup p1 = some ⟨.type "tuple", dd1, .seq #[.str "1" u1_0, .str "2" u1_1, .str "3" u1_2, .str "4" u1_3, .str "5" u1_4, .str "6" u1_5, .str "7" u1_6, .str "8" u1_7] n1, sk1⟩)
    {p2 : Addr} {dd2 : Option Addr} {n2 : Nat} {sk2 : Array (Option Value)} {u2_0 u2_1 : Tok} (q2 : PySem.W.nsIn K mainGlobals "LEVEL_EDGES" = some (some (.ref p2))) (w2 : K.lookup p2 = some ⟨.type "tuple", dd2, .seq #[.str "top" u2_0, .str "bottom" u2_1] n2, sk2⟩)
    {t3 : Tok} (q3 : PySem.W.nsIn K mainGlobals "MOST_CELLS" = some (some (.int 32 t3)))
    {t4 : Tok} (q4 : PySem.W.nsIn K mainGlobals "MOST_LINES" = some (some (.int 8 t4)))
    {p5 : Addr} {dd5 : Option Addr} {n5 : Nat} {sk5 : Array (Option Value)} {u5_0 u5_1 : Tok} (q5 : PySem.W.nsIn K mainGlobals "WAYS" = some (some (.ref p5))) (w5 : K.lookup p5 = some ⟨.type "tuple", dd5, .seq #[.str "over" u5_0, .str "under" u5_1] n5, sk5⟩) :
    ∃ fd : FuncData, (∀ (s : Shared) (v : Value), BindsTo s fd ⟨[v], []⟩ [("_law_script", v)]) ∧ ∀ base : Heap, K.In base → base.Ns mainGlobals mg → FnOk l.prog w K mg base CX0 11 fa fd ["_law_script"] (spF K R_law) := by
  have e := hfa.symm.trans (PySem.W.mg_of X G a30)
  cases e
  have F0 := fun_mk (st := s_BadRow___init__) l0 c0 kk_BadRow___init__
  have F1 := fun_mk (st := s_BadScheme___init__) l1 c1 kk_BadScheme___init__
  have F2 := fun_mk (st := s_is_whole) l2 c2 kk_is_whole
  have F3 := fun_mk (st := s_is_among) l3 c3 kk_is_among
  have F4 := fun_mk (st := s_is_word_of) l4 c4 kk_is_word_of
  have F5 := fun_mk (st := s_words_of) l5 c5 kk_words_of
  have F6 := fun_mk (st := s_Scheme___init__) l6 c6 kk_Scheme___init__
  have F7 := fun_mk (st := s_Scheme_told) l7 c7 kk_Scheme_told
  have F8 := fun_mk (st := s_is_size) l8 c8 kk_is_size
  have F9 := fun_mk (st := s_first_wrong_fold) l9 c9 kk_first_wrong_fold
  have F10 := fun_mk (st := s_size_after) l10 c10 kk_size_after
  have F11 := fun_mk (st := s__is_fold) l11 c11 kk__is_fold
  have F12 := fun_mk (st := s_rows_of) l12 c12 kk_rows_of
  have F13 := fun_mk (st := s_words_at) l13 c13 kk_words_at
  have F14 := fun_mk (st := s_words_among) l14 c14 kk_words_among
  have F15 := fun_mk (st := s_scheme_rows) l15 c15 kk_scheme_rows
  have F16 := fun_mk (st := s_scheme_text) l16 c16 kk_scheme_text
  have F17 := fun_mk (st := s_read_scheme) l17 c17 kk_read_scheme
  have F18 := fun_mk (st := s_read_size) l18 c18 kk_read_size
  have F19 := fun_mk (st := s_read_fold) l19 c19 kk_read_fold
  have F20 := fun_mk (st := s__law_mixed) l20 c20 kk__law_mixed
  have F21 := fun_mk (st := s__law_kinds) l21 c21 kk__law_kinds
  have F22 := fun_mk (st := s__law_size) l22 c22 kk__law_size
  have F23 := fun_mk (st := s__law_folds) l23 c23 kk__law_folds
  have F24 := fun_mk (st := s__law_scheme) l24 c24 kk__law_scheme
  have F25 := fun_mk (st := s__law_rows) l25 c25 kk__law_rows
  have F26 := fun_mk (st := s__law_bent) l26 c26 kk__law_bent
  have F27 := fun_mk (st := s__law_first_wrong) l27 c27 kk__law_first_wrong
  have F28 := fun_mk (st := s__law_read) l28 c28 kk__law_read
  have F29 := fun_mk (st := s__law_found) l29 c29 kk__law_found
  have F30 := fun_mk (st := s_law) l30 c30 kk_law
  let T : Txt K mg := { f_BadRow___init__ := f_BadRow___init__, fd_BadRow___init__ := _, F_BadRow___init__ := F0, b_BadRow___init__ := F0.binds (ps := ["self", "row", "word"]) (fun _ _ _ _ _ _ us hl => match us, hl with | [_, _, _], _ => rfl), f_BadScheme___init__ := f_BadScheme___init__, fd_BadScheme___init__ := _, F_BadScheme___init__ := F1, b_BadScheme___init__ := F1.binds (ps := ["self", "at"]) (fun _ _ _ _ _ _ us hl => match us, hl with | [_, _], _ => rfl), f_is_whole := f_is_whole, fd_is_whole := _, F_is_whole := F2, g_is_whole := PySem.W.mg_of X G a2, b_is_whole := F2.binds (ps := ["thing"]) (fun _ _ _ _ _ _ us hl => match us, hl with | [_], _ => rfl), f_is_among := f_is_among, fd_is_among := _, F_is_among := F3, g_is_among := PySem.W.mg_of X G a3, b_is_among := F3.binds (ps := ["thing", "least", "most"]) (fun _ _ _ _ _ _ us hl => match us, hl with | [_, _, _], _ => rfl), f_is_word_of := f_is_word_of, fd_is_word_of := _, F_is_word_of := F4, g_is_word_of := PySem.W.mg_of X G a4, b_is_word_of := F4.binds (ps := ["thing", "words"]) (fun _ _ _ _ _ _ us hl => match us, hl with | [_, _], _ => rfl), f_words_of := f_words_of, fd_words_of := _, F_words_of := F5, g_words_of := PySem.W.mg_of X G a5, b_words_of := F5.binds (ps := ["row"]) (fun _ _ _ _ _ _ us hl => match us, hl with | [_], _ => rfl), f_Scheme___init__ := f_Scheme___init__, fd_Scheme___init__ := _, F_Scheme___init__ := F6, b_Scheme___init__ := F6.binds (ps := ["self", "rows", "columns", "folds"]) (fun _ _ _ _ _ _ us hl => match us, hl with | [_, _, _, _], _ => rfl), f_Scheme_told := f_Scheme_told, fd_Scheme_told := _, F_Scheme_told := F7, b_Scheme_told := F7.binds (ps := ["self"]) (fun _ _ _ _ _ _ us hl => match us, hl with | [_], _ => rfl), f_is_size := f_is_size, fd_is_size := _, F_is_size := F8, g_is_size := PySem.W.mg_of X G a8, b_is_size := F8.binds (ps := ["rows", "columns"]) (fun _ _ _ _ _ _ us hl => match us, hl with | [_, _], _ => rfl), f_first_wrong_fold := f_first_wrong_fold, fd_first_wrong_fold := _, F_first_wrong_fold := F9, g_first_wrong_fold := PySem.W.mg_of X G a9, b_first_wrong_fold := F9.binds (ps := ["rows", "columns", "folds"]) (fun _ _ _ _ _ _ us hl => match us, hl with | [_, _, _], _ => rfl), f_size_after := f_size_after, fd_size_after := _, F_size_after := F10, g_size_after := PySem.W.mg_of X G a10, b_size_after := F10.binds (ps := ["rows", "columns", "fold"]) (fun _ _ _ _ _ _ us hl => match us, hl with | [_, _, _], _ => rfl), f__is_fold := f__is_fold, fd__is_fold := _, F__is_fold := F11, g__is_fold := PySem.W.mg_of X G a11, b__is_fold := F11.binds (ps := ["fold"]) (fun _ _ _ _ _ _ us hl => match us, hl with | [_], _ => rfl), f_rows_of := f_rows_of, fd_rows_of := _, F_rows_of := F12, g_rows_of := PySem.W.mg_of X G a12, b_rows_of := F12.binds (ps := ["text"]) (fun _ _ _ _ _ _ us hl => match us, hl with | [_], _ => rfl), f_words_at := f_words_at, fd_words_at := _, F_words_at := F13, g_words_at := PySem.W.mg_of X G a13, b_words_at := F13.binds (ps := ["row", "at"]) (fun _ _ _ _ _ _ us hl => match us, hl with | [_, _], _ => rfl), f_words_among := f_words_among, fd_words_among := _, F_words_among := F14, g_words_among := PySem.W.mg_of X G a14, b_words_among := F14.binds (ps := ["words", "at", "choices"]) (fun _ _ _ _ _ _ us hl => match us, hl with | [_, _, _], _ => rfl), f_scheme_rows := f_scheme_rows, fd_scheme_rows := _, F_scheme_rows := F15, g_scheme_rows := PySem.W.mg_of X G a15, b_scheme_rows := F15.binds (ps := ["scheme"]) (fun _ _ _ _ _ _ us hl => match us, hl with | [_], _ => rfl), f_scheme_text := f_scheme_text, fd_scheme_text := _, F_scheme_text := F16, g_scheme_text := PySem.W.mg_of X G a16, b_scheme_text := F16.binds (ps := ["scheme"]) (fun _ _ _ _ _ _ us hl => match us, hl with | [_], _ => rfl), f_read_scheme := f_read_scheme, fd_read_scheme := _, F_read_scheme := F17, g_read_scheme := PySem.W.mg_of X G a17, b_read_scheme := F17.binds (ps := ["text"]) (fun _ _ _ _ _ _ us hl => match us, hl with | [_], _ => rfl), f_read_size := f_read_size, fd_read_size := _, F_read_size := F18, g_read_size := PySem.W.mg_of X G a18, b_read_size := F18.binds (ps := ["words", "at"]) (fun _ _ _ _ _ _ us hl => match us, hl with | [_, _], _ => rfl), f_read_fold := f_read_fold, fd_read_fold := _, F_read_fold := F19, g_read_fold := PySem.W.mg_of X G a19, b_read_fold := F19.binds (ps := ["words", "at"]) (fun _ _ _ _ _ _ us hl => match us, hl with | [_, _], _ => rfl), f__law_mixed := f__law_mixed, fd__law_mixed := _, F__law_mixed := F20, g__law_mixed := PySem.W.mg_of X G a20, b__law_mixed := F20.binds (ps := ["_law_cell", "_law_k"]) (fun _ _ _ _ _ _ us hl => match us, hl with | [_, _], _ => rfl), f__law_kinds := f__law_kinds, fd__law_kinds := _, F__law_kinds := F21, g__law_kinds := PySem.W.mg_of X G a21, b__law_kinds := F21.binds (ps := ["_law_error"]) (fun _ _ _ _ _ _ us hl => match us, hl with | [_], _ => rfl), f__law_size := f__law_size, fd__law_size := _, F__law_size := F22, g__law_size := PySem.W.mg_of X G a22, b__law_size := F22.binds (ps := ["_law_number"]) (fun _ _ _ _ _ _ us hl => match us, hl with | [_], _ => rfl), f__law_folds := f__law_folds, fd__law_folds := _, F__law_folds := F23, g__law_folds := PySem.W.mg_of X G a23, b__law_folds := F23.binds (ps := ["_law_rows_here", "_law_columns", "_law_cells", "_law_number"]) (fun _ _ _ _ _ _ us hl => match us, hl with | [_, _, _, _], _ => rfl), f__law_scheme := f__law_scheme, fd__law_scheme := _, F__law_scheme := F24, g__law_scheme := PySem.W.mg_of X G a24, b__law_scheme := F24.binds (ps := ["_law_script", "_law_k"]) (fun _ _ _ _ _ _ us hl => match us, hl with | [_, _], _ => rfl), f__law_rows := f__law_rows, fd__law_rows := _, F__law_rows := F25, g__law_rows := PySem.W.mg_of X G a25, b__law_rows := F25.binds (ps := ["_law_rows_here", "_law_columns", "_law_folds_here"]) (fun _ _ _ _ _ _ us hl => match us, hl with | [_, _, _], _ => rfl), f__law_bent := f__law_bent, fd__law_bent := _, F__law_bent := F26, g__law_bent := PySem.W.mg_of X G a26, b__law_bent := F26.binds (ps := ["_law_rows_here", "_law_number"]) (fun _ _ _ _ _ _ us hl => match us, hl with | [_, _], _ => rfl), f__law_first_wrong := f__law_first_wrong, fd__law_first_wrong := _, F__law_first_wrong := F27, g__law_first_wrong := PySem.W.mg_of X G a27, b__law_first_wrong := F27.binds (ps := ["_law_words", "_law_is_first"]) (fun _ _ _ _ _ _ us hl => match us, hl with | [_, _], _ => rfl), f__law_read := f__law_read, fd__law_read := _, F__law_read := F28, g__law_read := PySem.W.mg_of X G a28, b__law_read := F28.binds (ps := ["_law_rows_here"]) (fun _ _ _ _ _ _ us hl => match us, hl with | [_], _ => rfl), f__law_found := f__law_found, fd__law_found := _, F__law_found := F29, g__law_found := PySem.W.mg_of X G a29, b__law_found := F29.binds (ps := ["_law_text"]) (fun _ _ _ _ _ _ us hl => match us, hl with | [_], _ => rfl), f_law := fa, fd_law := _, F_law := F30, g_law := PySem.W.mg_of X G a30, b_law := F30.binds (ps := ["_law_script"]) (fun _ _ _ _ _ _ us hl => match us, hl with | [_], _ => rfl), A_PressError := A_PressError, m_PressError := PySem.W.mg_of X G aC_PressError, A_BadRow := A_BadRow, m_BadRow := PySem.W.mg_of X G aC_BadRow, A_BadScheme := A_BadScheme, m_BadScheme := PySem.W.mg_of X G aC_BadScheme, A_BadSheet := A_BadSheet, m_BadSheet := PySem.W.mg_of X G aC_BadSheet, A_BadBook := A_BadBook, m_BadBook := PySem.W.mg_of X G aC_BadBook, A_TooGreat := A_TooGreat, m_TooGreat := PySem.W.mg_of X G aC_TooGreat, A_OutOfPlace := A_OutOfPlace, m_OutOfPlace := PySem.W.mg_of X G aC_OutOfPlace, A_Scheme := A_Scheme, m_Scheme := PySem.W.mg_of X G aC_Scheme, xs_PressError := xs_PressError, xt_PressError := xt_PressError, xh_PressError := xh_PressError, ba_PressError := ⟨bs_PressError, br_PressError, bf_PressError⟩, xs_BadRow := xs_BadRow, xt_BadRow := xt_BadRow, xh_BadRow := xh_BadRow, k_BadRow := k_BadRow, ec_BadRow := ⟨hg_BadRow, hk_BadRow, xs_BadRow, xh_BadRow, ha_BadRow, hn_BadRow, ht_BadRow, hm_BadRow⟩, xf_BadRow := ⟨hg_BadRow, hk_BadRow, xs_BadRow, xh_BadRow⟩, ex_BadRow_PressError := PySem.W.exm_ref xs_PressError xh_PressError xt_PressError xc_PressError_BadRow, ox_BadRow := ⟨⟨_, _, _, _, _, _, _, _, _, _, _, _, _, _, _, xl_BadRow, by rfl⟩, sa_BadRow, xs_BadRow, xt_BadRow, k_BadRow⟩, in_BadRow := in_BadRow, ft_BadRow___init__ := ft_BadRow___init__, nf_BadRow_row := nf_row_BadRow, nf_BadRow_word := nf_word_BadRow, xs_BadScheme := xs_BadScheme, xt_BadScheme := xt_BadScheme, xh_BadScheme := xh_BadScheme, k_BadScheme := k_BadScheme, ec_BadScheme := ⟨hg_BadScheme, hk_BadScheme, xs_BadScheme, xh_BadScheme, ha_BadScheme, hn_BadScheme, ht_BadScheme, hm_BadScheme⟩, xf_BadScheme := ⟨hg_BadScheme, hk_BadScheme, xs_BadScheme, xh_BadScheme⟩, ex_BadScheme_PressError := PySem.W.exm_ref xs_PressError xh_PressError xt_PressError xc_PressError_BadScheme, ox_BadScheme := ⟨⟨_, _, _, _, _, _, _, _, _, _, _, _, _, _, _, xl_BadScheme, by rfl⟩, sa_BadScheme, xs_BadScheme, xt_BadScheme, k_BadScheme⟩, in_BadScheme := in_BadScheme, ft_BadScheme___init__ := ft_BadScheme___init__, nf_BadScheme_at := nf_at_BadScheme, xs_BadSheet := xs_BadSheet, xt_BadSheet := xt_BadSheet, xh_BadSheet := xh_BadSheet, k_BadSheet := k_BadSheet, ec_BadSheet := ⟨hg_BadSheet, hk_BadSheet, xs_BadSheet, xh_BadSheet, ha_BadSheet, hn_BadSheet, ht_BadSheet, hm_BadSheet⟩, xf_BadSheet := ⟨hg_BadSheet, hk_BadSheet, xs_BadSheet, xh_BadSheet⟩, ex_BadSheet_PressError := PySem.W.exm_ref xs_PressError xh_PressError xt_PressError xc_PressError_BadSheet, q_BadSheet := q_BadSheet, xs_BadBook := xs_BadBook, xt_BadBook := xt_BadBook, xh_BadBook := xh_BadBook, k_BadBook := k_BadBook, ec_BadBook := ⟨hg_BadBook, hk_BadBook, xs_BadBook, xh_BadBook, ha_BadBook, hn_BadBook, ht_BadBook, hm_BadBook⟩, xf_BadBook := ⟨hg_BadBook, hk_BadBook, xs_BadBook, xh_BadBook⟩, ex_BadBook_PressError := PySem.W.exm_ref xs_PressError xh_PressError xt_PressError xc_PressError_BadBook, q_BadBook := q_BadBook, xs_TooGreat := xs_TooGreat, xt_TooGreat := xt_TooGreat, xh_TooGreat := xh_TooGreat, k_TooGreat := k_TooGreat, ec_TooGreat := ⟨hg_TooGreat, hk_TooGreat, xs_TooGreat, xh_TooGreat, ha_TooGreat, hn_TooGreat, ht_TooGreat, hm_TooGreat⟩, xf_TooGreat := ⟨hg_TooGreat, hk_TooGreat, xs_TooGreat, xh_TooGreat⟩, ex_TooGreat_PressError := PySem.W.exm_ref xs_PressError xh_PressError xt_PressError xc_PressError_TooGreat, q_TooGreat := q_TooGreat, xs_OutOfPlace := xs_OutOfPlace, xt_OutOfPlace := xt_OutOfPlace, xh_OutOfPlace := xh_OutOfPlace, k_OutOfPlace := k_OutOfPlace, ec_OutOfPlace := ⟨hg_OutOfPlace, hk_OutOfPlace, xs_OutOfPlace, xh_OutOfPlace, ha_OutOfPlace, hn_OutOfPlace, ht_OutOfPlace, hm_OutOfPlace⟩, xf_OutOfPlace := ⟨hg_OutOfPlace, hk_OutOfPlace, xs_OutOfPlace, xh_OutOfPlace⟩, ex_OutOfPlace_PressError := PySem.W.exm_ref xs_PressError xh_PressError xt_PressError xc_PressError_OutOfPlace, q_OutOfPlace := q_OutOfPlace, cl_Scheme := ⟨pg_Scheme, hd_Scheme, po_Scheme, sa_Scheme⟩, na_Scheme__rows := na__rows_Scheme, na_Scheme__columns := na__columns_Scheme, na_Scheme__folds := na__folds_Scheme, mk_Scheme := ⟨mi_Scheme, at_Scheme___init__, fn_Scheme___init__, kc_Scheme⟩, me_Scheme_told := ⟨at_Scheme_told, fn_Scheme_told, kk_Scheme_told⟩, ki_BadRow_BadRow := ki_BadRow_BadRow, ki_BadRow_BadScheme := ki_BadRow_BadScheme, ki_BadRow_BadSheet := ki_BadRow_BadSheet, ki_BadRow_BadBook := ki_BadRow_BadBook, ki_BadRow_TooGreat := ki_BadRow_TooGreat, ki_BadRow_OutOfPlace := ki_BadRow_OutOfPlace, ki_BadRow_ValueError := ki_BadRow_ValueError, ki_BadRow_PressError := ki_BadRow_PressError, ki_BadScheme_BadRow := ki_BadScheme_BadRow, ki_BadScheme_BadScheme := ki_BadScheme_BadScheme, ki_BadScheme_BadSheet := ki_BadScheme_BadSheet, ki_BadScheme_BadBook := ki_BadScheme_BadBook, ki_BadScheme_TooGreat := ki_BadScheme_TooGreat, ki_BadScheme_OutOfPlace := ki_BadScheme_OutOfPlace, ki_BadScheme_ValueError := ki_BadScheme_ValueError, ki_BadScheme_PressError := ki_BadScheme_PressError, ki_BadSheet_BadRow := ki_BadSheet_BadRow, ki_BadSheet_BadScheme := ki_BadSheet_BadScheme, ki_BadSheet_BadSheet := ki_BadSheet_BadSheet, ki_BadSheet_BadBook := ki_BadSheet_BadBook, ki_BadSheet_TooGreat := ki_BadSheet_TooGreat, ki_BadSheet_OutOfPlace := ki_BadSheet_OutOfPlace, ki_BadSheet_ValueError := ki_BadSheet_ValueError, ki_BadSheet_PressError := ki_BadSheet_PressError, ki_BadBook_BadRow := ki_BadBook_BadRow, ki_BadBook_BadScheme := ki_BadBook_BadScheme, ki_BadBook_BadSheet := ki_BadBook_BadSheet, ki_BadBook_BadBook := ki_BadBook_BadBook, ki_BadBook_TooGreat := ki_BadBook_TooGreat, ki_BadBook_OutOfPlace := ki_BadBook_OutOfPlace, ki_BadBook_ValueError := ki_BadBook_ValueError, ki_BadBook_PressError := ki_BadBook_PressError, ki_TooGreat_BadRow := ki_TooGreat_BadRow, ki_TooGreat_BadScheme := ki_TooGreat_BadScheme, ki_TooGreat_BadSheet := ki_TooGreat_BadSheet, ki_TooGreat_BadBook := ki_TooGreat_BadBook, ki_TooGreat_TooGreat := ki_TooGreat_TooGreat, ki_TooGreat_OutOfPlace := ki_TooGreat_OutOfPlace, ki_TooGreat_ValueError := ki_TooGreat_ValueError, ki_TooGreat_PressError := ki_TooGreat_PressError, ki_OutOfPlace_BadRow := ki_OutOfPlace_BadRow, ki_OutOfPlace_BadScheme := ki_OutOfPlace_BadScheme, ki_OutOfPlace_BadSheet := ki_OutOfPlace_BadSheet, ki_OutOfPlace_BadBook := ki_OutOfPlace_BadBook, ki_OutOfPlace_TooGreat := ki_OutOfPlace_TooGreat, ki_OutOfPlace_OutOfPlace := ki_OutOfPlace_OutOfPlace, ki_OutOfPlace_ValueError := ki_OutOfPlace_ValueError, ki_OutOfPlace_PressError := ki_OutOfPlace_PressError, z_ValueError := PySem.W.mg_none_of X G z0, z_bool := PySem.W.mg_none_of X G z1, z_enumerate := PySem.W.mg_none_of X G z2, z_int := PySem.W.mg_none_of X G z3, z_isinstance := PySem.W.mg_none_of X G z4, z_len := PySem.W.mg_none_of X G z5, z_list := PySem.W.mg_none_of X G z6, z_min := PySem.W.mg_none_of X G z7, z_range := PySem.W.mg_none_of X G z8, z_str := PySem.W.mg_none_of X G z9, z_sum := PySem.W.mg_none_of X G z10, z_tuple := PySem.W.mg_none_of X G z11, a_EDGES := p0, c_EDGES := PySem.W.mg_of X G q0, k_EDGES := ⟨_, #[.str "left" u0_0, .str "right" u0_1, .str "top" u0_2, .str "bottom" u0_3], n0, w0, rfl, rfl, (show 4 ≤ sizeLine by decide), .cons ⟨_, rfl⟩ (.cons ⟨_, rfl⟩ (.cons ⟨_, rfl⟩ (.cons ⟨_, rfl⟩ (.nil))))⟩, a_FIGURES := p1, c_FIGURES := PySem.W.mg_of X G q1, k_FIGURES := ⟨_, #[.str "1" u1_0, .str "2" u1_1, .str "3" u1_2, .str "4" u1_3, .str "5" u1_4, .str "6" u1_5, .str "7" u1_6, .str "8" u1_7], n1, w1, rfl, rfl, (show 8 ≤ sizeLine by decide), .cons ⟨_, rfl⟩ (.cons ⟨_, rfl⟩ (.cons ⟨_, rfl⟩ (.cons ⟨_, rfl⟩ (.cons ⟨_, rfl⟩ (.cons ⟨_, rfl⟩ (.cons ⟨_, rfl⟩ (.cons ⟨_, rfl⟩ (.nil))))))))⟩, a_LEVEL_EDGES := p2, c_LEVEL_EDGES := PySem.W.mg_of X G q2, k_LEVEL_EDGES := ⟨_, #[.str "top" u2_0, .str "bottom" u2_1], n2, w2, rfl, rfl, (show 2 ≤ sizeLine by decide), .cons ⟨_, rfl⟩ (.cons ⟨_, rfl⟩ (.nil))⟩, t_MOST_CELLS := t3, c_MOST_CELLS := PySem.W.mg_of X G q3, t_MOST_LINES := t4, c_MOST_LINES := PySem.W.mg_of X G q4, a_WAYS := p5, c_WAYS := PySem.W.mg_of X G q5, k_WAYS := ⟨_, #[.str "over" u5_0, .str "under" u5_1], n5, w5, rfl, rfl, (show 2 ≤ sizeLine by decide), .cons ⟨_, rfl⟩ (.cons ⟨_, rfl⟩ (.nil))⟩ }
  exact ⟨T.fd_law, fun s v => .of_eq rfl, fun base _ _ => ok_law T⟩
end Q03
open PySem PySem.W PyProof.Rows
set_option maxHeartbeats 0 in
theorem PySem.Challenge.cw_foldpress_k03_schemes_as_texts_holds : PySem.Challenge.rw_foldpress_k03_schemes_as_texts.Holds := by
  w_on; o_law; k_head; (case hw => w_witness2)
  k_fill
  refine L2.walk_of (l := PySem.Challenge.rw_foldpress_k03_schemes_as_texts) (n := 63) (k := 11) (x := "_law_script") (CX := fun _ => L2.CX0) (sp := fun w => FP.spF _ Q03.R_law) rfl (by decide) rfl ⟨rfl, by decide, by decide⟩ (fun w h Y => PySem.W.kIn_of Y) ?F (fun _ _ a ns hl _ hS => Q03.start_law hl hS) (fun _ _ _ _ _ h => h)
  case F =>
    intro w mg fa h KX G hmg
    refine' Q03.all_mk KX G hmg ?aC_PressError ?aC_BadRow ?aC_BadScheme ?aC_BadSheet ?aC_BadBook ?aC_TooGreat ?aC_OutOfPlace ?aC_Scheme ?in_BadRow ?in_BadScheme ?at_Scheme___init__ ?at_Scheme_told ?l0 ?c0 ?kk_BadRow___init__ ?l1 ?c1 ?kk_BadScheme___init__ ?a2 ?l2 ?c2 ?kk_is_whole ?a3 ?l3 ?c3 ?kk_is_among ?a4 ?l4 ?c4 ?kk_is_word_of ?a5 ?l5 ?c5 ?kk_words_of ?l6 ?c6 ?kk_Scheme___init__ ?l7 ?c7 ?kk_Scheme_told ?a8 ?l8 ?c8 ?kk_is_size ?a9 ?l9 ?c9 ?kk_first_wrong_fold ?a10 ?l10 ?c10 ?kk_size_after ?a11 ?l11 ?c11 ?kk__is_fold ?a12 ?l12 ?c12 ?kk_rows_of ?a13 ?l13 ?c13 ?kk_words_at ?a14 ?l14 ?c14 ?kk_words_among ?a15 ?l15 ?c15 ?kk_scheme_rows ?a16 ?l16 ?c16 ?kk_scheme_text ?a17 ?l17 ?c17 ?kk_read_scheme ?a18 ?l18 ?c18 ?kk_read_size ?a19 ?l19 ?c19 ?kk_read_fold ?a20 ?l20 ?c20 ?kk__law_mixed ?a21 ?l21 ?c21 ?kk__law_kinds ?a22 ?l22 ?c22 ?kk__law_size ?a23 ?l23 ?c23 ?kk__law_folds ?a24 ?l24 ?c24 ?kk__law_scheme ?a25 ?l25 ?c25 ?kk__law_rows ?a26 ?l26 ?c26 ?kk__law_bent ?a27 ?l27 ?c27 ?kk__law_first_wrong ?a28 ?l28 ?c28 ?kk__law_read ?a29 ?l29 ?c29 ?kk__law_found ?a30 ?l30 ?c30 ?kk_law ?xs_PressError ?xt_PressError ?xh_PressError ?bs_PressError ?br_PressError ?bf_PressError ?xs_BadRow ?xt_BadRow ?xh_BadRow ?k_BadRow ?hg_BadRow ?hk_BadRow ?ha_BadRow ?hn_BadRow ?ht_BadRow ?hm_BadRow ?xc_PressError_BadRow ?sa_BadRow ?xl_BadRow ?ft_BadRow___init__ ?nf_row_BadRow ?nf_word_BadRow ?xs_BadScheme ?xt_BadScheme ?xh_BadScheme ?k_BadScheme ?hg_BadScheme ?hk_BadScheme ?ha_BadScheme ?hn_BadScheme ?ht_BadScheme ?hm_BadScheme ?xc_PressError_BadScheme ?sa_BadScheme ?xl_BadScheme ?ft_BadScheme___init__ ?nf_at_BadScheme ?xs_BadSheet ?xt_BadSheet ?xh_BadSheet ?k_BadSheet ?hg_BadSheet ?hk_BadSheet ?ha_BadSheet ?hn_BadSheet ?ht_BadSheet ?hm_BadSheet ?xc_PressError_BadSheet ?q_BadSheet ?xs_BadBook ?xt_BadBook ?xh_BadBook ?k_BadBook ?hg_BadBook ?hk_BadBook ?ha_BadBook ?hn_BadBook ?ht_BadBook ?hm_BadBook ?xc_PressError_BadBook ?q_BadBook ?xs_TooGreat ?xt_TooGreat ?xh_TooGreat ?k_TooGreat ?hg_TooGreat ?hk_TooGreat ?ha_TooGreat ?hn_TooGreat ?ht_TooGreat ?hm_TooGreat ?xc_PressError_TooGreat ?q_TooGreat ?xs_OutOfPlace ?xt_OutOfPlace ?xh_OutOfPlace ?k_OutOfPlace ?hg_OutOfPlace ?hk_OutOfPlace ?ha_OutOfPlace ?hn_OutOfPlace ?ht_OutOfPlace ?hm_OutOfPlace ?xc_PressError_OutOfPlace ?q_OutOfPlace ?pg_Scheme ?hd_Scheme ?po_Scheme ?sa_Scheme ?na__rows_Scheme ?na__columns_Scheme ?na__folds_Scheme ?fn_Scheme___init__ ?mi_Scheme ?kc_Scheme ?fn_Scheme_told ?ki_BadRow_BadRow ?ki_BadRow_BadScheme ?ki_BadRow_BadSheet ?ki_BadRow_BadBook ?ki_BadRow_TooGreat ?ki_BadRow_OutOfPlace ?ki_BadRow_ValueError ?ki_BadRow_PressError ?ki_BadScheme_BadRow ?ki_BadScheme_BadScheme ?ki_BadScheme_BadSheet ?ki_BadScheme_BadBook ?ki_BadScheme_TooGreat ?ki_BadScheme_OutOfPlace ?ki_BadScheme_ValueError ?ki_BadScheme_PressError ?ki_BadSheet_BadRow ?ki_BadSheet_BadScheme ?ki_BadSheet_BadSheet ?ki_BadSheet_BadBook ?ki_BadSheet_TooGreat ?ki_BadSheet_OutOfPlace ?ki_BadSheet_ValueError ?ki_BadSheet_PressError ?ki_BadBook_BadRow ?ki_BadBook_BadScheme ?ki_BadBook_BadSheet ?ki_BadBook_BadBook ?ki_BadBook_TooGreat ?ki_BadBook_OutOfPlace ?ki_BadBook_ValueError ?ki_BadBook_PressError ?ki_TooGreat_BadRow ?ki_TooGreat_BadScheme ?ki_TooGreat_BadSheet ?ki_TooGreat_BadBook ?ki_TooGreat_TooGreat ?ki_TooGreat_OutOfPlace ?ki_TooGreat_ValueError ?ki_TooGreat_PressError ?ki_OutOfPlace_BadRow ?ki_OutOfPlace_BadScheme ?ki_OutOfPlace_BadSheet ?ki_OutOfPlace_BadBook ?ki_OutOfPlace_TooGreat ?ki_OutOfPlace_OutOfPlace ?ki_OutOfPlace_ValueError ?ki_OutOfPlace_PressError ?z0 ?z1 ?z2 ?z3 ?z4 ?z5 ?z6 ?z7 ?z8 ?z9 ?z10 ?z11 ?q0 ?w0 ?q1 ?w1 ?q2 ?w2 ?q3 ?q4 ?q5 ?w5
    (case aC_PressError => k_is); (case aC_BadRow => k_is); (case aC_BadScheme => k_is); (case aC_BadSheet => k_is); (case aC_BadBook => k_is); (case aC_TooGreat => k_is); (case aC_OutOfPlace => k_is); (case aC_Scheme => k_is); (case in_BadRow => k_is); (case in_BadScheme => k_is); (case at_Scheme___init__ => k_is); (case at_Scheme_told => k_is); (case l0 => k_is); (case c0 => k_is); (case kk_BadRow___init__ => k_is); (case l1 => k_is); (case c1 => k_is); (case kk_BadScheme___init__ => k_is); (case a2 => k_is); (case l2 => k_is); (case c2 => k_is); (case kk_is_whole => k_is); (case a3 => k_is); (case l3 => k_is); (case c3 => k_is); (case kk_is_among => k_is); (case a4 => k_is); (case l4 => k_is); (case c4 => k_is); (case kk_is_word_of => k_is); (case a5 => k_is); (case l5 => k_is); (case c5 => k_is); (case kk_words_of => k_is); (case l6 => k_is); (case c6 => k_is); (case kk_Scheme___init__ => k_is); (case l7 => k_is); (case c7 => k_is); (case kk_Scheme_told => k_is); (case a8 => k_is); (case l8 => k_is); (case c8 => k_is); (case kk_is_size => k_is); (case a9 => k_is); (case l9 => k_is); (case c9 => k_is); (case kk_first_wrong_fold => k_is); (case a10 => k_is); (case l10 => k_is); (case c10 => k_is); (case kk_size_after => k_is); (case a11 => k_is); (case l11 => k_is); (case c11 => k_is); (case kk__is_fold => k_is); (case a12 => k_is); (case l12 => k_is); (case c12 => k_is); (case kk_rows_of => k_is); (case a13 => k_is); (case l13 => k_is); (case c13 => k_is); (case kk_words_at => k_is); (case a14 => k_is); (case l14 => k_is); (case c14 => k_is); (case kk_words_among => k_is); (case a15 => k_is); (case l15 => k_is); (case c15 => k_is); (case kk_scheme_rows => k_is); (case a16 => k_is); (case l16 => k_is); (case c16 => k_is); (case kk_scheme_text => k_is); (case a17 => k_is); (case l17 => k_is); (case c17 => k_is); (case kk_read_scheme => k_is); (case a18 => k_is); (case l18 => k_is); (case c18 => k_is); (case kk_read_size => k_is); (case a19 => k_is); (case l19 => k_is); (case c19 => k_is); (case kk_read_fold => k_is); (case a20 => k_is); (case l20 => k_is); (case c20 => k_is); (case kk__law_mixed => k_is); (case a21 => k_is); (case l21 => k_is); (case c21 => k_is); (case kk__law_kinds => k_is); (case a22 => k_is); (case l22 => k_is); (case c22 => k_is); (case kk__law_size => k_is); (case a23 => k_is); (case l23 => k_is); (case c23 => k_is); (case kk__law_folds => k_is); (case a24 => k_is); (case l24 => k_is); (case c24 => k_is); (case kk__law_scheme => k_is); (case a25 => k_is); (case l25 => k_is); (case c25 => k_is); (case kk__law_rows => k_is); (case a26 => k_is); (case l26 => k_is); (case c26 => k_is); (case kk__law_bent => k_is); (case a27 => k_is); (case l27 => k_is); (case c27 => k_is); (case kk__law_first_wrong => k_is); (case a28 => k_is); (case l28 => k_is); (case c28 => k_is); (case kk__law_read => k_is); (case a29 => k_is); (case l29 => k_is); (case c29 => k_is); (case kk__law_found => k_is); (case a30 => k_is); (case l30 => k_is); (case c30 => k_is); (case kk_law => k_is); (case xs_PressError => k_is); (case xt_PressError => k_is); (case xh_PressError => k_is); (case bs_PressError => k_is); (case br_PressError => k_is); (case bf_PressError => k_is); (case xs_BadRow => k_is); (case xt_BadRow => k_is); (case xh_BadRow => k_is); (case k_BadRow => k_is); (case hg_BadRow => k_is); (case hk_BadRow => k_is); (case ha_BadRow => k_is); (case hn_BadRow => k_is); (case ht_BadRow => k_is); (case hm_BadRow => k_is); (case xc_PressError_BadRow => k_is); (case sa_BadRow => k_is); (case xl_BadRow => k_is); (case ft_BadRow___init__ => k_is); (case nf_row_BadRow => k_is); (case nf_word_BadRow => k_is); (case xs_BadScheme => k_is); (case xt_BadScheme => k_is); (case xh_BadScheme => k_is); (case k_BadScheme => k_is); (case hg_BadScheme => k_is); (case hk_BadScheme => k_is); (case ha_BadScheme => k_is); (case hn_BadScheme => k_is); (case ht_BadScheme => k_is); (case hm_BadScheme => k_is); (case xc_PressError_BadScheme => k_is); (case sa_BadScheme => k_is); (case xl_BadScheme => k_is); (case ft_BadScheme___init__ => k_is); (case nf_at_BadScheme => k_is); (case xs_BadSheet => k_is); (case xt_BadSheet => k_is); (case xh_BadSheet => k_is); (case k_BadSheet => k_is); (case hg_BadSheet => k_is); (case hk_BadSheet => k_is); (case ha_BadSheet => k_is); (case hn_BadSheet => k_is); (case ht_BadSheet => k_is); (case hm_BadSheet => k_is); (case xc_PressError_BadSheet => k_is); (case q_BadSheet => k_exc); (case xs_BadBook => k_is); (case xt_BadBook => k_is); (case xh_BadBook => k_is); (case k_BadBook => k_is); (case hg_BadBook => k_is); (case hk_BadBook => k_is); (case ha_BadBook => k_is); (case hn_BadBook => k_is); (case ht_BadBook => k_is); (case hm_BadBook => k_is); (case xc_PressError_BadBook => k_is); (case q_BadBook => k_exc); (case xs_TooGreat => k_is); (case xt_TooGreat => k_is); (case xh_TooGreat => k_is); (case k_TooGreat => k_is); (case hg_TooGreat => k_is); (case hk_TooGreat => k_is); (case ha_TooGreat => k_is); (case hn_TooGreat => k_is); (case ht_TooGreat => k_is); (case hm_TooGreat => k_is); (case xc_PressError_TooGreat => k_is); (case q_TooGreat => k_exc); (case xs_OutOfPlace => k_is); (case xt_OutOfPlace => k_is); (case xh_OutOfPlace => k_is); (case k_OutOfPlace => k_is); (case hg_OutOfPlace => k_is); (case hk_OutOfPlace => k_is); (case ha_OutOfPlace => k_is); (case hn_OutOfPlace => k_is); (case ht_OutOfPlace => k_is); (case hm_OutOfPlace => k_is); (case xc_PressError_OutOfPlace => k_is); (case q_OutOfPlace => k_exc); (case pg_Scheme => k_is); (case hd_Scheme => k_is); (case po_Scheme => k_is); (case sa_Scheme => k_is); (case na__rows_Scheme => k_is); (case na__columns_Scheme => k_is); (case na__folds_Scheme => k_is); (case fn_Scheme___init__ => k_is); (case mi_Scheme => k_is); (case kc_Scheme => k_is); (case fn_Scheme_told => k_is); (case ki_BadRow_BadRow => kit_is); (case ki_BadRow_BadScheme => kit_is); (case ki_BadRow_BadSheet => kit_is); (case ki_BadRow_BadBook => kit_is); (case ki_BadRow_TooGreat => kit_is); (case ki_BadRow_OutOfPlace => kit_is); (case ki_BadRow_ValueError => kit_is); (case ki_BadRow_PressError => kit_is); (case ki_BadScheme_BadRow => kit_is); (case ki_BadScheme_BadScheme => kit_is); (case ki_BadScheme_BadSheet => kit_is); (case ki_BadScheme_BadBook => kit_is); (case ki_BadScheme_TooGreat => kit_is); (case ki_BadScheme_OutOfPlace => kit_is); (case ki_BadScheme_ValueError => kit_is); (case ki_BadScheme_PressError => kit_is); (case ki_BadSheet_BadRow => kit_is); (case ki_BadSheet_BadScheme => kit_is); (case ki_BadSheet_BadSheet => kit_is); (case ki_BadSheet_BadBook => kit_is); (case ki_BadSheet_TooGreat => kit_is); (case ki_BadSheet_OutOfPlace => kit_is); (case ki_BadSheet_ValueError => kit_is); (case ki_BadSheet_PressError => kit_is); (case ki_BadBook_BadRow => kit_is); (case ki_BadBook_BadScheme => kit_is); (case ki_BadBook_BadSheet => kit_is); (case ki_BadBook_BadBook => kit_is); (case ki_BadBook_TooGreat => kit_is); (case ki_BadBook_OutOfPlace => kit_is); (case ki_BadBook_ValueError => kit_is); (case ki_BadBook_PressError => kit_is); (case ki_TooGreat_BadRow => kit_is); (case ki_TooGreat_BadScheme => kit_is); (case ki_TooGreat_BadSheet => kit_is); (case ki_TooGreat_BadBook => kit_is); (case ki_TooGreat_TooGreat => kit_is); (case ki_TooGreat_OutOfPlace => kit_is); (case ki_TooGreat_ValueError => kit_is); (case ki_TooGreat_PressError => kit_is); (case ki_OutOfPlace_BadRow => kit_is); (case ki_OutOfPlace_BadScheme => kit_is); (case ki_OutOfPlace_BadSheet => kit_is); (case ki_OutOfPlace_BadBook => kit_is); (case ki_OutOfPlace_TooGreat => kit_is); (case ki_OutOfPlace_OutOfPlace => kit_is); (case ki_OutOfPlace_ValueError => kit_is); (case ki_OutOfPlace_PressError => kit_is); (case z0 => k_is); (case z1 => k_is); (case z2 => k_is); (case z3 => k_is); (case z4 => k_is); (case z5 => k_is); (case z6 => k_is); (case z7 => k_is); (case z8 => k_is); (case z9 => k_is); (case z10 => k_is); (case z11 => k_is); (case q0 => k_is); (case w0 => k_is); (case q1 => k_is); (case w1 => k_is); (case q2 => k_is); (case w2 => k_is); (case q3 => k_is); (case q4 => k_is); (case q5 => k_is); (case w5 => k_is)
