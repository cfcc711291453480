import PyProof.Rows.All
import Wide.All
import OpenK.AllK
import Wide.FinOn
import PySem.Challenge.RW_foldpress_k02_schemes_made
import HandS.ForMost
import HandS.ForExc
import HandS.IsInst
import HandS.Flow
import HandS.Wide
import HandS.Style
import KE.KIntText
import HandS.Replace
import HandS.ExcInit
import HandS.ExcValue
import HandS.ExcField
import HandS.ExcIs
import HandS.ExcOwn
import HandS.WordsExc
import HandS.FStr
import KE.KExcIs
import KE.KExcPX
import KE.GoesEnumKw
set_option Elab.async false
set_option linter.all false
set_option maxRecDepth 100000
namespace FP
open PySem PySem.Spec PyProof.Rows L2

/-! ### data: a tree of values; a container bears whether it is owned (changed by its holder alone) -/
/-- an instance: shared, owned, owned and known by its address -/
inductive Fl where
  | sh
  | ow
  | at (a : Addr)
def Fl.isSh : Fl → Bool
  | .sh => true
  | _ => false
inductive D where
  | sc (x : V)
  | lst (o : Bool) (ds : List D)
  | tup (o : Bool) (ds : List D)
  | ins (o : Fl) (C : Addr) (fs : List Str) (ds : List D)
  | dK (o : Bool) (ks : List Key) (ds : List D)
  | dT (o : Bool) (ks : List (List Key)) (ds : List D)
  | exc (C : Addr) (fs : List (Str × V))
namespace D
mutual
def frz : D → D
  | .sc x => .sc x
  | .lst _ ds => .lst false (frzs ds)
  | .tup _ ds => .tup false (frzs ds)
  | .ins _ C fs ds => .ins .sh C fs (frzs ds)
  | .dK _ ks ds => .dK false ks (frzs ds)
  | .dT _ ks ds => .dT false ks (frzs ds)
  | .exc C fs => .exc C fs
def frzs : List D → List D
  | [] => []
  | d :: ds => frz d :: frzs ds
end
/-- nothing that is owned: the outermost tells it, what is shared holds shared things alone -/
def shd : D → Bool
  | .sc _ => true
  | .lst o _ => !o
  | .tup o _ => !o
  | .ins o _ _ _ => o.isSh
  | .dK o _ _ => !o
  | .dT o _ _ => !o
  | .exc _ _ => true
mutual
/-- no container that is shared -/
def closed : D → Bool
  | .sc _ => true
  | .lst o ds => o && closeds ds
  | .tup o ds => o && closeds ds
  | .ins o _ _ ds => !o.isSh && closeds ds
  | .dK o _ ds => o && closeds ds
  | .dT o _ ds => o && closeds ds
  | .exc _ _ => false
def closeds : List D → Bool
  | [] => true
  | d :: ds => closed d && closeds ds
end
@[simp] theorem frz_sc (x : V) : frz (.sc x) = .sc x := by simp [frz]
theorem frzs_map : ∀ ds : List D, frzs ds = ds.map frz
  | [] => by simp [frzs]
  | d :: ds => by simp [frzs, frzs_map ds]
abbrev int (i : Int) : D := .sc (.int i)
abbrev str (s : Str) : D := .sc (.str s)
abbrev bl (b : Bool) : D := .sc (.bl b)
abbrev non : D := .sc .non
end D

/-! ### what stands for what -/
abbrev Own := Addr → Prop
def Own.no : Own := fun _ => False
def Own.and (A : Own) (C : List Addr) : Own := fun a => A a ∨ a ∈ C
theorem Own.and_nil (A : Own) : A.and [] = A := by
  funext a
  simp [Own.and]
/-- a list, a tuple of the written part -/
def KL (K : PySem.W.Frag) (a : Addr) (xs : List V) : Prop :=
  ∃ (o : Obj) (its : Array Value) (n : Nat), K.lookup a = some o ∧ o.cls = .type "list" ∧ o.dict = none ∧ o.data = .seq its n ∧ its.size ≤ sizeLine ∧ Vals xs its.toList
def KT (K : PySem.W.Frag) (a : Addr) (xs : List V) : Prop :=
  ∃ (o : Obj) (its : Array Value) (n : Nat), K.lookup a = some o ∧ o.cls = .type "tuple" ∧ o.data = .seq its n ∧ its.size ≤ sizeLine ∧ Vals xs its.toList
def Sh (A : Own) (H : Hp) (a : Addr) (u : HO) : Prop := Rd H a u ∧ ¬ A a
def Sh1 (A : Own) (H : Hp) (a : Addr) (u : HO) : Prop := H a = some u ∧ ¬ A a
/-- an own exception of the class at C, held as a value: the object at a, its dict at d -/
def EX (a C : Addr) (d : Option Addr) : HO := .ext fun h => ∃ oe vs, h.get? a = some oe ∧ Zc (.ref C) d oe ∧ oe.data = .fields vs

mutual
inductive Rp (K : PySem.W.Frag) (A : Own) (H : Hp) : V → D → List Addr → Prop
  | sc (x : V) : Rp K A H x (.sc x) []
  | lstS {a : Addr} {xs : List V} {ds : List D} : (Sh A H a (.lst xs) ∨ KL K a xs) → RpAll K A H xs ds [] → Rp K A H (.ref a) (.lst false ds) []
  | lstO {a : Addr} {xs : List V} {ds : List D} {B : List Addr} : H a = some (.lst xs) → A a → a ∉ B → RpAll K A H xs ds B → Rp K A H (.ref a) (.lst true ds) (a :: B)
  | tupS {a : Addr} {xs : List V} {ds : List D} : (Sh A H a (.tup xs) ∨ KT K a xs) → RpAll K A H xs ds [] → Rp K A H (.ref a) (.tup false ds) []
  | tupO {a : Addr} {xs : List V} {ds : List D} {B : List Addr} : H a = some (.tup xs) → A a → a ∉ B → RpAll K A H xs ds B → Rp K A H (.ref a) (.tup true ds) (a :: B)
  | insS {a C dx : Addr} {fs : List Str} {xs : List V} {ds : List D} : Sh1 A H a (.ins C dx (fs.zip xs)) → fs.length = xs.length → RpAll K A H xs ds [] → Rp K A H (.ref a) (.ins .sh C fs ds) []
  | insO {a C dx : Addr} {fs : List Str} {xs : List V} {ds : List D} {B : List Addr} : H a = some (.ins C dx (fs.zip xs)) → A a → a ∉ B → fs.length = xs.length → RpAll K A H xs ds B → Rp K A H (.ref a) (.ins .ow C fs ds) (a :: B)
  | insA {a C dx : Addr} {fs : List Str} {xs : List V} {ds : List D} {B : List Addr} : H a = some (.ins C dx (fs.zip xs)) → A a → a ∉ B → fs.length = xs.length → RpAll K A H xs ds B → Rp K A H (.ref a) (.ins (.at a) C fs ds) (a :: B)
  | dKS {a : Addr} {ks : List Key} {xs : List V} {ds : List D} : Sh A H a (.dK (ks.zip xs)) → ks.length = xs.length → RpAll K A H xs ds [] → Rp K A H (.ref a) (.dK false ks ds) []
  | dKO {a : Addr} {ks : List Key} {xs : List V} {ds : List D} {B : List Addr} : H a = some (.dK (ks.zip xs)) → A a → a ∉ B → ks.length = xs.length → RpAll K A H xs ds B → Rp K A H (.ref a) (.dK true ks ds) (a :: B)
  | dTS {a : Addr} {ks : List (List Key)} {xs : List V} {ds : List D} : Sh A H a (.dT (ks.zip xs)) → ks.length = xs.length → RpAll K A H xs ds [] → Rp K A H (.ref a) (.dT false ks ds) []
  | dTO {a : Addr} {ks : List (List Key)} {xs : List V} {ds : List D} {B : List Addr} : H a = some (.dT (ks.zip xs)) → A a → a ∉ B → ks.length = xs.length → RpAll K A H xs ds B → Rp K A H (.ref a) (.dT true ks ds) (a :: B)
  | exc0 {a C : Addr} : Sh1 A H a (EX a C none) → Rp K A H (.ref a) (.exc C []) []
  | exc1 {a C dd : Addr} {fs : List (Str × V)} : Sh1 A H a (EX a C (some dd)) → Sh1 A H dd (.xd fs) → Rp K A H (.ref a) (.exc C fs) []
inductive RpAll (K : PySem.W.Frag) (A : Own) (H : Hp) : List V → List D → List Addr → Prop
  | nil : RpAll K A H [] [] []
  | cons {v : V} {vs : List V} {d : D} {ds : List D} {B C : List Addr} : Rp K A H v d B → RpAll K A H vs ds C → (∀ a ∈ B, a ∉ C) → RpAll K A H (v :: vs) (d :: ds) (B ++ C)
end

/-- what a representation with the owned objects B leans on is there behind too -/
structure Keep (A : Own) (H : Hp) (B : List Addr) (A' : Own) (H' : Hp) : Prop where
  shd : ∀ a o, H a = some o → ¬ A a → H' a = some o ∧ ¬ A' a
  own : ∀ a o, a ∈ B → H a = some o → H' a = some o ∧ A' a
theorem Keep.sub {A A' : Own} {H H' : Hp} {B C : List Addr} (k : Keep A H B A' H') (h : ∀ a ∈ C, a ∈ B) : Keep A H C A' H' := ⟨k.shd, fun a o hc e => k.own a o (h a hc) e⟩
theorem Sh.keep {A A' : Own} {H H' : Hp} {B : List Addr} {a : Addr} {u : HO} (k : Keep A H B A' H') (h : Sh A H a u) : Sh A' H' a u := by
  obtain ⟨h | ⟨o, h⟩, n⟩ := h
  · obtain ⟨h1, h2⟩ := k.shd a _ h n
    exact ⟨.inl h1, h2⟩
  · obtain ⟨h1, h2⟩ := k.shd a _ h n
    exact ⟨.inr ⟨o, h1⟩, h2⟩
theorem Sh1.keep {A A' : Own} {H H' : Hp} {B : List Addr} {a : Addr} {u : HO} (k : Keep A H B A' H') (h : Sh1 A H a u) : Sh1 A' H' a u := k.shd a _ h.1 h.2
section
variable {K : PySem.W.Frag} {A A' : Own} {H H' : Hp}
mutual
theorem Rp.keep : ∀ (d : D) {v : V} {B : List Addr}, Rp K A H v d B → Keep A H B A' H' → Rp K A' H' v d B
  | .sc x, _, _, .sc _, _ => .sc x
  | .lst _ ds, _, _, .lstS h r, k => .lstS (h.imp (fun h => h.keep k) id) (RpAll.keep ds r k)
  | .lst _ ds, _, _, .lstO h a n r, k => let q := k.own _ _ List.mem_cons_self h; .lstO q.1 q.2 n (RpAll.keep ds r (k.sub fun _ m => List.mem_cons_of_mem _ m))
  | .tup _ ds, _, _, .tupS h r, k => .tupS (h.imp (fun h => h.keep k) id) (RpAll.keep ds r k)
  | .tup _ ds, _, _, .tupO h a n r, k => let q := k.own _ _ List.mem_cons_self h; .tupO q.1 q.2 n (RpAll.keep ds r (k.sub fun _ m => List.mem_cons_of_mem _ m))
  | .ins _ _ _ ds, _, _, .insS h l r, k => .insS (h.keep k) l (RpAll.keep ds r k)
  | .ins _ _ _ ds, _, _, .insO h a n l r, k => let q := k.own _ _ List.mem_cons_self h; .insO q.1 q.2 n l (RpAll.keep ds r (k.sub fun _ m => List.mem_cons_of_mem _ m))
  | .ins _ _ _ ds, _, _, .insA h a n l r, k => let q := k.own _ _ List.mem_cons_self h; .insA q.1 q.2 n l (RpAll.keep ds r (k.sub fun _ m => List.mem_cons_of_mem _ m))
  | .dK _ _ ds, _, _, .dKS h l r, k => .dKS (h.keep k) l (RpAll.keep ds r k)
  | .dK _ _ ds, _, _, .dKO h a n l r, k => let q := k.own _ _ List.mem_cons_self h; .dKO q.1 q.2 n l (RpAll.keep ds r (k.sub fun _ m => List.mem_cons_of_mem _ m))
  | .dT _ _ ds, _, _, .dTS h l r, k => .dTS (h.keep k) l (RpAll.keep ds r k)
  | .dT _ _ ds, _, _, .dTO h a n l r, k => let q := k.own _ _ List.mem_cons_self h; .dTO q.1 q.2 n l (RpAll.keep ds r (k.sub fun _ m => List.mem_cons_of_mem _ m))
  | .exc _ _, _, _, .exc0 h, k => .exc0 (h.keep k)
  | .exc _ _, _, _, .exc1 h g, k => .exc1 (h.keep k) (g.keep k)
theorem RpAll.keep : ∀ (ds : List D) {vs : List V} {B : List Addr}, RpAll K A H vs ds B → Keep A H B A' H' → RpAll K A' H' vs ds B
  | [], _, _, .nil, _ => .nil
  | d :: ds, _, _, .cons r t n, k => .cons (Rp.keep d r (k.sub fun _ m => List.mem_append_left _ m)) (RpAll.keep ds t (k.sub fun _ m => List.mem_append_right _ m)) n
end
mutual
/-- the owned are tracked, and owned -/
theorem Rp.tracked : ∀ (d : D) {v : V} {B : List Addr}, Rp K A H v d B → ∀ a ∈ B, H a ≠ none ∧ A a
  | .sc x, _, _, .sc _ => fun _ h => nomatch h
  | .lst _ ds, _, _, .lstS h r => fun _ h => nomatch h
  | .lst _ ds, _, _, .lstO h a n r => fun b hb => (List.mem_cons.mp hb).elim (fun e => e ▸ ⟨by rw [h]; simp, a⟩) (RpAll.tracked ds r b)
  | .tup _ ds, _, _, .tupS h r => fun _ h => nomatch h
  | .tup _ ds, _, _, .tupO h a n r => fun b hb => (List.mem_cons.mp hb).elim (fun e => e ▸ ⟨by rw [h]; simp, a⟩) (RpAll.tracked ds r b)
  | .ins _ _ _ ds, _, _, .insS h l r => fun _ h => nomatch h
  | .ins _ _ _ ds, _, _, .insO h a n l r => fun b hb => (List.mem_cons.mp hb).elim (fun e => e ▸ ⟨by rw [h]; simp, a⟩) (RpAll.tracked ds r b)
  | .ins _ _ _ ds, _, _, .insA h a n l r => fun b hb => (List.mem_cons.mp hb).elim (fun e => e ▸ ⟨by rw [h]; simp, a⟩) (RpAll.tracked ds r b)
  | .dK _ _ ds, _, _, .dKS h l r => fun _ h => nomatch h
  | .dK _ _ ds, _, _, .dKO h a n l r => fun b hb => (List.mem_cons.mp hb).elim (fun e => e ▸ ⟨by rw [h]; simp, a⟩) (RpAll.tracked ds r b)
  | .dT _ _ ds, _, _, .dTS h l r => fun _ h => nomatch h
  | .dT _ _ ds, _, _, .dTO h a n l r => fun b hb => (List.mem_cons.mp hb).elim (fun e => e ▸ ⟨by rw [h]; simp, a⟩) (RpAll.tracked ds r b)
  | .exc _ _, _, _, .exc0 h => fun _ h => nomatch h
  | .exc _ _, _, _, .exc1 h g => fun _ h => nomatch h
theorem RpAll.tracked : ∀ (ds : List D) {vs : List V} {B : List Addr}, RpAll K A H vs ds B → ∀ a ∈ B, H a ≠ none ∧ A a
  | [], _, _, .nil => fun _ h => nomatch h
  | d :: ds, _, _, .cons r t n => fun b hb => (List.mem_append.mp hb).elim (Rp.tracked d r b) (RpAll.tracked ds t b)
end
/-- giving up what is owned: A' owns none of B -/
structure Loose (A : Own) (H : Hp) (B : List Addr) (A' : Own) (H' : Hp) : Prop where
  shd : ∀ a o, H a = some o → ¬ A a → H' a = some o ∧ ¬ A' a
  own : ∀ a o, a ∈ B → H a = some o → H' a = some o ∧ ¬ A' a
theorem Loose.sub {B C : List Addr} (k : Loose A H B A' H') (h : ∀ a ∈ C, a ∈ B) : Loose A H C A' H' := ⟨k.shd, fun a o hc e => k.own a o (h a hc) e⟩
theorem Loose.k0 {B : List Addr} (k : Loose A H B A' H') : Keep A H [] A' H' := ⟨k.shd, fun _ _ h => nomatch h⟩
mutual
theorem Rp.loose : ∀ (d : D) {v : V} {B : List Addr}, Rp K A H v d B → Loose A H B A' H' → Rp K A' H' v d.frz []
  | .sc x, _, _, .sc _, _ => by rw [D.frz]; exact .sc x
  | .lst _ ds, _, _, .lstS h r, k => by rw [D.frz]; exact .lstS (h.imp (fun h => h.keep k.k0) id) (RpAll.loose ds r k)
  | .lst _ ds, _, _, .lstO h a n r, k => by rw [D.frz]; exact let q := k.own _ _ List.mem_cons_self h; .lstS (.inl ⟨.inl q.1, q.2⟩) (RpAll.loose ds r (k.sub fun _ m => List.mem_cons_of_mem _ m))
  | .tup _ ds, _, _, .tupS h r, k => by rw [D.frz]; exact .tupS (h.imp (fun h => h.keep k.k0) id) (RpAll.loose ds r k)
  | .tup _ ds, _, _, .tupO h a n r, k => by rw [D.frz]; exact let q := k.own _ _ List.mem_cons_self h; .tupS (.inl ⟨.inl q.1, q.2⟩) (RpAll.loose ds r (k.sub fun _ m => List.mem_cons_of_mem _ m))
  | .ins _ _ _ ds, _, _, .insS h l r, k => by rw [D.frz]; exact .insS (h.keep k.k0) l (RpAll.loose ds r k)
  | .ins _ _ _ ds, _, _, .insO h a n l r, k => by rw [D.frz]; exact let q := k.own _ _ List.mem_cons_self h; .insS ⟨q.1, q.2⟩ l (RpAll.loose ds r (k.sub fun _ m => List.mem_cons_of_mem _ m))
  | .ins _ _ _ ds, _, _, .insA h a n l r, k => by rw [D.frz]; exact let q := k.own _ _ List.mem_cons_self h; .insS ⟨q.1, q.2⟩ l (RpAll.loose ds r (k.sub fun _ m => List.mem_cons_of_mem _ m))
  | .dK _ _ ds, _, _, .dKS h l r, k => by rw [D.frz]; exact .dKS (h.keep k.k0) l (RpAll.loose ds r k)
  | .dK _ _ ds, _, _, .dKO h a n l r, k => by rw [D.frz]; exact let q := k.own _ _ List.mem_cons_self h; .dKS ⟨.inl q.1, q.2⟩ l (RpAll.loose ds r (k.sub fun _ m => List.mem_cons_of_mem _ m))
  | .dT _ _ ds, _, _, .dTS h l r, k => by rw [D.frz]; exact .dTS (h.keep k.k0) l (RpAll.loose ds r k)
  | .dT _ _ ds, _, _, .dTO h a n l r, k => by rw [D.frz]; exact let q := k.own _ _ List.mem_cons_self h; .dTS ⟨.inl q.1, q.2⟩ l (RpAll.loose ds r (k.sub fun _ m => List.mem_cons_of_mem _ m))
  | .exc _ _, _, _, .exc0 h, k => by rw [D.frz]; exact .exc0 (h.keep k.k0)
  | .exc _ _, _, _, .exc1 h g, k => by rw [D.frz]; exact .exc1 (h.keep k.k0) (g.keep k.k0)
theorem RpAll.loose : ∀ (ds : List D) {vs : List V} {B : List Addr}, RpAll K A H vs ds B → Loose A H B A' H' → RpAll K A' H' vs (D.frzs ds) []
  | [], _, _, .nil, _ => by rw [D.frzs]; exact .nil
  | d :: ds, _, _, .cons r t n, k => by
    rw [D.frzs]
    exact RpAll.cons (B := []) (C := []) (Rp.loose d r (k.sub fun _ m => List.mem_append_left _ m)) (RpAll.loose ds t (k.sub fun _ m => List.mem_append_right _ m)) (fun _ h => nomatch h)
end
mutual
theorem Rp.shd : ∀ (d : D) {v : V} {B : List Addr}, Rp K A H v d B → d.shd = true → B = []
  | .sc x, _, _, .sc _, _ => rfl
  | .lst _ ds, _, _, .lstS _ _, _ => rfl
  | .tup _ ds, _, _, .tupS _ _, _ => rfl
  | .ins _ _ _ ds, _, _, .insS _ _ _, _ => rfl
  | .dK _ _ ds, _, _, .dKS _ _ _, _ => rfl
  | .dT _ _ ds, _, _, .dTS _ _ _, _ => rfl
  | .exc _ _, _, _, .exc0 _, _ => rfl
  | .exc _ _, _, _, .exc1 _ _, _ => rfl
  | .lst _ ds, _, _, .lstO _ _ _ _, e => by simp [D.shd, Fl.isSh] at e
  | .tup _ ds, _, _, .tupO _ _ _ _, e => by simp [D.shd, Fl.isSh] at e
  | .ins _ _ _ ds, _, _, .insO _ _ _ _ _, e => by simp [D.shd, Fl.isSh] at e
  | .ins _ _ _ ds, _, _, .insA _ _ _ _ _, e => by simp [D.shd, Fl.isSh] at e
  | .dK _ _ ds, _, _, .dKO _ _ _ _ _, e => by simp [D.shd, Fl.isSh] at e
  | .dT _ _ ds, _, _, .dTO _ _ _ _ _, e => by simp [D.shd, Fl.isSh] at e
end
theorem RpAll.len : ∀ {ds : List D} {vs : List V} {B : List Addr}, RpAll K A H vs ds B → vs.length = ds.length
  | _, _, _, .nil => rfl
  | _, _, _, .cons _ t _ => by simp [RpAll.len t]
mutual
/-- what is closed leans on its own objects alone -/
theorem Rp.closed : ∀ (d : D) {v : V} {B : List Addr}, Rp K A H v d B → d.closed = true → (∀ a ∈ B, A' a) → Rp K A' H v d B
  | .sc x, _, _, .sc _, _, _ => .sc x
  | .lst _ ds, _, _, .lstS h r, e, _ => by simp [D.closed, Fl.isSh] at e
  | .lst _ ds, _, _, .lstO h a n r, e, k => .lstO h (k _ List.mem_cons_self) n (RpAll.closed ds r (by simpa [D.closed, Fl.isSh] using e) fun b hb => k b (List.mem_cons_of_mem _ hb))
  | .tup _ ds, _, _, .tupS h r, e, _ => by simp [D.closed, Fl.isSh] at e
  | .tup _ ds, _, _, .tupO h a n r, e, k => .tupO h (k _ List.mem_cons_self) n (RpAll.closed ds r (by simpa [D.closed, Fl.isSh] using e) fun b hb => k b (List.mem_cons_of_mem _ hb))
  | .ins _ _ _ ds, _, _, .insS h l r, e, _ => by simp [D.closed, Fl.isSh] at e
  | .ins _ _ _ ds, _, _, .insO h a n l r, e, k => .insO h (k _ List.mem_cons_self) n l (RpAll.closed ds r (by simpa [D.closed, Fl.isSh] using e) fun b hb => k b (List.mem_cons_of_mem _ hb))
  | .ins _ _ _ ds, _, _, .insA h a n l r, e, k => .insA h (k _ List.mem_cons_self) n l (RpAll.closed ds r (by simpa [D.closed, Fl.isSh] using e) fun b hb => k b (List.mem_cons_of_mem _ hb))
  | .dK _ _ ds, _, _, .dKS h l r, e, _ => by simp [D.closed, Fl.isSh] at e
  | .dK _ _ ds, _, _, .dKO h a n l r, e, k => .dKO h (k _ List.mem_cons_self) n l (RpAll.closed ds r (by simpa [D.closed, Fl.isSh] using e) fun b hb => k b (List.mem_cons_of_mem _ hb))
  | .dT _ _ ds, _, _, .dTS h l r, e, _ => by simp [D.closed, Fl.isSh] at e
  | .dT _ _ ds, _, _, .dTO h a n l r, e, k => .dTO h (k _ List.mem_cons_self) n l (RpAll.closed ds r (by simpa [D.closed, Fl.isSh] using e) fun b hb => k b (List.mem_cons_of_mem _ hb))
  | .exc _ _, _, _, .exc0 h, e, _ => by simp [D.closed, Fl.isSh] at e
  | .exc _ _, _, _, .exc1 h g, e, _ => by simp [D.closed, Fl.isSh] at e
theorem RpAll.closed : ∀ (ds : List D) {vs : List V} {B : List Addr}, RpAll K A H vs ds B → D.closeds ds = true → (∀ a ∈ B, A' a) → RpAll K A' H vs ds B
  | [], _, _, .nil, _, _ => .nil
  | d :: ds, _, _, .cons r t n, e, k => by
    have e' : d.closed = true ∧ D.closeds ds = true := by simpa [D.closeds] using e
    exact .cons (Rp.closed d r e'.1 fun b hb => k b (List.mem_append_left _ hb)) (RpAll.closed ds t e'.2 fun b hb => k b (List.mem_append_right _ hb)) n
end
end

/-! ### the names' values -/
abbrev Env := List (Option D)
inductive EnvR (K : PySem.W.Frag) (A : Own) (H : Hp) : L2.St → Env → List Addr → Prop
  | nil : EnvR K A H [] [] []
  | any {x : Option V} {σ : L2.St} {ρ : Env} {B : List Addr} : EnvR K A H σ ρ B → EnvR K A H (x :: σ) (none :: ρ) B
  | val {v : V} {d : D} {σ : L2.St} {ρ : Env} {B C : List Addr} : Rp K A H v d B → EnvR K A H σ ρ C → (∀ a ∈ B, a ∉ C) → EnvR K A H (some v :: σ) (some d :: ρ) (B ++ C)
/-- every owned object is tracked -/
def WA (A : Own) (H : Hp) : Prop := ∀ a, A a → H a ≠ none
def Fresh (H : Hp) (C : List Addr) : Prop := ∀ a ∈ C, H a = none
abbrev Ex (H H' : Hp) : Prop := ∀ a o, H a = some o → H' a = some o
section
variable {K : PySem.W.Frag} {A A' : Own} {H H' H2 : Hp} {σ : L2.St} {ρ : Env} {B C : List Addr} {v : V} {d : D}
theorem Ex.rfl' : Ex H H := fun _ _ h => h
theorem Ex.tr (a : Ex H H') (b : Ex H' H2) : Ex H H2 := fun x o h => b x o (a x o h)
theorem Ex.new {p : Addr} {o : HO} (h : H p = none) : Ex H (upd H p o) := fun a u e => by
  rw [upd_ne (ne_of_none e h)]
  exact e
theorem Ex.back (e : Ex H H') {p : Addr} (h : H' p = none) : H p = none := by
  cases h1 : H p with
  | none => rfl
  | some o => rw [e p o h1] at h; cases h
theorem Ex.ne (e : Ex H H') {p : Addr} (h : H p ≠ none) : H' p ≠ none := fun z => h (e.back z)
theorem Fresh.back (f : Fresh H' C) (e : Ex H H') : Fresh H C := fun a h => e.back (f a h)
theorem EnvR.keep (r : EnvR K A H σ ρ B) : Keep A H B A' H' → EnvR K A' H' σ ρ B := by
  induction r with
  | nil => exact fun _ => .nil
  | any _ ih => exact fun k => .any (ih k)
  | val r _ n ih => exact fun k => .val (r.keep _ (k.sub fun _ m => List.mem_append_left _ m)) (ih (k.sub fun _ m => List.mem_append_right _ m)) n
theorem EnvR.tracked (r : EnvR K A H σ ρ B) : ∀ a ∈ B, H a ≠ none ∧ A a := by
  induction r with
  | nil => exact fun _ h => nomatch h
  | any _ ih => exact ih
  | val r _ n ih => exact fun a h => (List.mem_append.mp h).elim (r.tracked _ a) (ih a)
def frzE (ρ : Env) : Env := ρ.map (·.map D.frz)
theorem EnvR.loose (r : EnvR K A H σ ρ B) : Loose A H B A' H' → EnvR K A' H' σ (frzE ρ) [] := by
  induction r with
  | nil => exact fun _ => .nil
  | any _ ih => exact fun k => .any (ih k)
  | val r _ n ih => exact fun k => .val (B := []) (C := []) (r.loose _ (k.sub fun _ m => List.mem_append_left _ m)) (ih (k.sub fun _ m => List.mem_append_right _ m)) (fun _ h => nomatch h)
theorem EnvR.get (r : EnvR K A H σ ρ B) : ∀ {i : Nat} {d : D}, ρ[i]? = some (some d) → ∃ v C, σ[i]? = some (some v) ∧ Rp K A H v d C ∧ ∀ a ∈ C, a ∈ B := by
  induction r with
  | nil => intro i d h; simp at h
  | any _ ih =>
    intro i d h
    cases i with
    | zero => simp at h
    | succ i => exact ih (i := i) (by simpa using h)
  | @val v d0 σ ρ B C r _ n ih =>
    intro i d h
    cases i with
    | zero =>
      have e : d0 = d := by simpa using h
      subst e
      exact ⟨v, B, by simp, r, fun _ m => List.mem_append_left _ m⟩
    | succ i =>
      obtain ⟨v', C', h1, h2, h3⟩ := ih (i := i) (by simpa using h)
      exact ⟨v', C', by simpa using h1, h2, fun a m => List.mem_append_right _ (h3 a m)⟩
/-- a name is given a new value -/
theorem EnvR.set (r : EnvR K A H σ ρ B) (q : Rp K A H v d C) (n : ∀ a ∈ C, a ∉ B) : ∀ i, ∃ B', EnvR K A H (σ.set i (some v)) (ρ.set i (some d)) B' ∧ ∀ a ∈ B', a ∈ C ∨ a ∈ B := by
  induction r with
  | nil => exact fun i => ⟨[], .nil, fun _ h => nomatch h⟩
  | @any x σ ρ B r ih =>
    intro i
    cases i with
    | zero => exact ⟨C ++ B, .val q r n, fun a h => List.mem_append.mp h⟩
    | succ i =>
      obtain ⟨B', e, s⟩ := ih n i
      exact ⟨B', .any e, s⟩
  | @val v' d' σ ρ B1 B2 r1 r2 n2 ih =>
    intro i
    cases i with
    | zero => exact ⟨C ++ B2, .val q r2 fun a h z => n a h (List.mem_append_right _ z), fun a h => (List.mem_append.mp h).imp id fun z => List.mem_append_right _ z⟩
    | succ i =>
      obtain ⟨B', e, s⟩ := ih (fun a h z => n a h (List.mem_append_right _ z)) i
      refine ⟨B1 ++ B', .val r1 e fun a h z => ?_, fun a h => ?_⟩
      · rcases s a z with z | z
        · exact n a z (List.mem_append_left _ h)
        · exact n2 a h z
      · rcases List.mem_append.mp h with h | h
        · exact .inr (List.mem_append_left _ h)
        · exact (s a h).imp id fun z => List.mem_append_right _ z
theorem EnvR.len (r : EnvR K A H σ ρ B) : σ.length = ρ.length := by
  induction r with
  | nil => rfl
  | any _ ih => simp [ih]
  | val _ _ _ ih => simp [ih]
/-- some names forgotten -/
inductive Weak : Env → Env → Prop
  | nil : Weak [] []
  | drop {x : Option D} {ρ ρ' : Env} : Weak ρ ρ' → Weak (x :: ρ) (none :: ρ')
  | same {x : Option D} {ρ ρ' : Env} : Weak ρ ρ' → Weak (x :: ρ) (x :: ρ')
theorem Weak.refl : ∀ ρ : Env, Weak ρ ρ
  | [] => .nil
  | _ :: ρ => .same (Weak.refl ρ)
theorem EnvR.weak {ρ' : Env} (w : Weak ρ ρ') : ∀ {σ : L2.St} {B : List Addr}, EnvR K A H σ ρ B → ∃ B', EnvR K A H σ ρ' B' ∧ ∀ a ∈ B', a ∈ B := by
  induction w with
  | nil =>
    intro σ B r
    cases r
    exact ⟨[], .nil, fun _ h => h⟩
  | drop _ ih =>
    intro σ B r
    cases r with
    | any r =>
      obtain ⟨B', e, s⟩ := ih r
      exact ⟨B', .any e, s⟩
    | val r1 r2 n =>
      obtain ⟨B', e, s⟩ := ih r2
      exact ⟨B', .any e, fun a h => List.mem_append_right _ (s a h)⟩
  | same _ ih =>
    intro σ B r
    cases r with
    | any r =>
      obtain ⟨B', e, s⟩ := ih r
      exact ⟨B', .any e, s⟩
    | val r1 r2 n =>
      obtain ⟨B', e, s⟩ := ih r2
      refine ⟨_, .val r1 e fun a h z => n a h (s a z), fun a h => ?_⟩
      exact (List.mem_append.mp h).elim (List.mem_append_left _) fun z => List.mem_append_right _ (s a z)

/-! worlds -/
theorem Keep.ex (e : Ex H H') (f : Fresh H C) : Keep A H B (A.and C) H' → Keep A H B (A.and C) H' := id
theorem keep_and (w : WA A H) (e : Ex H H') (f : Fresh H C) (hB : ∀ a ∈ B, A a) : Keep A H B (A.and C) H' :=
  ⟨fun a o h n => ⟨e a o h, fun z => z.elim n fun m => by rw [f a m] at h; cases h⟩, fun a o m h => ⟨e a o h, .inl (hB a m)⟩⟩
theorem WA.and (w : WA A H) (e : Ex H H') (t : ∀ a ∈ C, H' a ≠ none) : WA (A.and C) H' := fun a h => h.elim (fun h => e.ne (w a h)) (t a)
/-- owning less -/
theorem keep_less (h : ∀ a, A' a → A a) (hB : ∀ a ∈ B, A' a) : Keep A H B A' H := ⟨fun _ _ e n => ⟨e, fun z => n (h _ z)⟩, fun a _ m e => ⟨e, hB a m⟩⟩
end

/-! ### what an expression evaluates to -/
def EvS (K : PySem.W.Frag) (te : TE) (ρ : Env) (d : D) : Prop := ∀ (A : Own) (H : Hp) (σ : L2.St) (B : List Addr), WA A H → EnvR K A H σ ρ B → ∀ Q : VK,
  (∀ v H' C, Ex H H' → Fresh H C → Rp K (A.and C) H' v d C → Q v H') → te σ H Q
def EvA (K : PySem.W.Frag) (ta : TA) (ρ : Env) (ds : List D) : Prop := ∀ (A : Own) (H : Hp) (σ : L2.St) (B : List Addr), WA A H → EnvR K A H σ ρ B → ∀ Q : List V → Hp → Prop,
  (∀ vs H' C, Ex H H' → Fresh H C → RpAll K (A.and C) H' vs ds C → Q vs H') → ta σ H Q
def EvT (K : PySem.W.Frag) (tt : TT) (ρ : Env) (b : Bool) : Prop := ∀ (A : Own) (H : Hp) (σ : L2.St) (B : List Addr), WA A H → EnvR K A H σ ρ B → ∀ Q : Bool → Hp → Prop,
  (∀ H', Ex H H' → Q b H') → tt σ H Q
/-- a two-place operation upon data: the answer may take over what the operands own -/
def Op2 (K : PySem.W.Frag) (r : R2) (d e z : D) : Prop := ∀ (A : Own) (H : Hp) (x y : V) (B C : List Addr), WA A H → Rp K A H x d B → Rp K A H y e C → (∀ a ∈ B, a ∉ C) → ∀ Q : VK,
  (∀ v H' E, Ex H H' → (∀ a ∈ E, H a = none ∨ a ∈ B ∨ a ∈ C) → Rp K (A.and E) H' v z E → Q v H') → r x y H Q
def Op1 (K : PySem.W.Frag) (r : V → Hp → VK → Prop) (d z : D) : Prop := ∀ (A : Own) (H : Hp) (x : V) (B : List Addr), WA A H → Rp K A H x d B → ∀ Q : VK,
  (∀ v H' E, Ex H H' → (∀ a ∈ E, H a = none ∨ a ∈ B) → Rp K (A.and E) H' v z E → Q v H') → r x H Q
/-- a call upon data -/
def OpC (K : PySem.W.Frag) (r : List V → Hp → VK → Prop) (ds : List D) (z : D) : Prop := ∀ (A : Own) (H : Hp) (xs : List V) (B : List Addr), WA A H → RpAll K A H xs ds B → ∀ Q : VK,
  (∀ v H' E, Ex H H' → (∀ a ∈ E, H a = none ∨ a ∈ B) → Rp K (A.and E) H' v z E → Q v H') → r xs H Q

section
variable {K : PySem.W.Frag} {ρ : Env} {ta tb te : TE} {t u : TT} {x y z d e : D} {r : R2}
theorem ev_c {v : V} : EvS K (tC v) ρ (.sc v) := fun _ H _ _ _ _ Q q => q v H [] Ex.rfl' (fun _ h => nomatch h) (.sc v)
theorem ev_var {i : Nat} (h : ρ[i]? = some (some d)) (hd : d.shd = true) : EvS K (tVar i) ρ d := fun A H σ B w r Q q => by
  obtain ⟨v, C, h1, h2, h3⟩ := r.get h
  obtain rfl := h2.shd _ hd
  refine ⟨v, h1, q v H [] Ex.rfl' (fun _ h => nomatch h) ?_⟩
  rw [Own.and_nil]
  exact h2
theorem ev_op (ha : EvS K ta ρ x) (hb : EvS K tb ρ y) (hr : Op2 K r x y z) : EvS K (tOp r ta tb) ρ z := fun A H σ B w rr Q q =>
  ha A H σ B w rr _ fun v1 H1 C1 e1 f1 p1 => by
    have w1 : WA (A.and C1) H1 := w.and e1 fun a h => (p1.tracked _ a h).1
    refine hb (A.and C1) H1 σ B w1 (rr.keep (keep_and w e1 f1 fun a h => (rr.tracked a h).2)) _ fun v2 H2 C2 e2 f2 p2 => ?_
    have w2 : WA ((A.and C1).and C2) H2 := w1.and e2 fun a h => (p2.tracked _ a h).1
    refine hr _ H2 v1 v2 C1 C2 w2 (p1.keep _ (keep_and w1 e2 f2 fun a h => (p1.tracked _ a h).2)) p2 (fun a h z => (p1.tracked _ a h).1 (f2 a z)) Q fun v H3 E e3 f3 p3 => ?_
    refine q v H3 E ((e1.tr e2).tr e3) (fun a h => ?_) (p3.keep _ (keep_less (fun a h => h.imp (fun h => .inl (.inl h)) id) fun a h => .inr h))
    rcases f3 a h with h | h | h
    · exact e1.back (e2.back h)
    · exact f1 a h
    · exact e1.back (f2 a h)
theorem ev_un {r : V → Hp → VK → Prop} (ha : EvS K ta ρ x) (hr : Op1 K r x z) : EvS K (tUn r ta) ρ z := fun A H σ B w rr Q q =>
  ha A H σ B w rr _ fun v1 H1 C1 e1 f1 p1 => by
    have w1 : WA (A.and C1) H1 := w.and e1 fun a h => (p1.tracked _ a h).1
    refine hr _ H1 v1 C1 w1 p1 Q fun v H3 E e3 f3 p3 => ?_
    refine q v H3 E (e1.tr e3) (fun a h => (f3 a h).elim e1.back (f1 a)) (p3.keep _ (keep_less (fun a h => h.imp (fun h => .inl h) id) fun a h => .inr h))
theorem ea_nil : EvA K tNil ρ [] := fun _ H _ _ _ _ Q q => q [] H [] Ex.rfl' (fun _ h => nomatch h) .nil
theorem ea_cons {tr : TA} {ds : List D} (ha : EvS K ta ρ x) (hr : EvA K tr ρ ds) : EvA K (tCons ta tr) ρ (x :: ds) := fun A H σ B w rr Q q =>
  ha A H σ B w rr _ fun v1 H1 C1 e1 f1 p1 => by
    have w1 : WA (A.and C1) H1 := w.and e1 fun a h => (p1.tracked _ a h).1
    refine hr (A.and C1) H1 σ B w1 (rr.keep (keep_and w e1 f1 fun a h => (rr.tracked a h).2)) _ fun vs H2 C2 e2 f2 p2 => ?_
    refine q (v1 :: vs) H2 (C1 ++ C2) (e1.tr e2) (fun a h => (List.mem_append.mp h).elim (f1 a) fun h => e1.back (f2 a h)) ?_
    have k : ∀ a, (A.and (C1 ++ C2)) a ↔ ((A.and C1).and C2) a := fun a => by simp [Own.and, or_assoc]
    refine .cons ((p1.keep _ (keep_and w1 e2 f2 fun a h => (p1.tracked _ a h).2)).keep _ ⟨fun a o e n => ⟨e, fun z => n ((k a).mp z)⟩, fun a o h e => ⟨e, .inr (List.mem_append_left _ h)⟩⟩)
      (p2.keep _ ⟨fun a o e n => ⟨e, fun z => n ((k a).mp z)⟩, fun a o h e => ⟨e, .inr (List.mem_append_right _ h)⟩⟩) fun a h z => (p1.tracked _ a h).1 (f2 a z)
theorem ev_call {ds : List D} {t : TA} {r : List V → Hp → VK → Prop} (ha : EvA K t ρ ds) (hr : OpC K r ds z) : EvS K (tCB r t) ρ z := fun A H σ B w rr Q q =>
  ha A H σ B w rr _ fun v1 H1 C1 e1 f1 p1 => by
    have w1 : WA (A.and C1) H1 := w.and e1 fun a h => (p1.tracked _ a h).1
    refine hr _ H1 v1 C1 w1 p1 Q fun v H3 E e3 f3 p3 => ?_
    refine q v H3 E (e1.tr e3) (fun a h => (f3 a h).elim e1.back (f1 a)) (p3.keep _ (keep_less (fun a h => h.imp (fun h => .inl h) id) fun a h => .inr h))
/-- a new object -/
theorem keep_new {A : Own} {H : Hp} {B : List Addr} {p : Addr} {o : HO} (hp : H p = none) (hB : ∀ a ∈ B, A a) (C : List Addr) : Keep A H B (A.and (p :: C)) (upd H p o) → True := fun _ => trivial
theorem ev_tup {ds : List D} {t : TA} (ha : EvA K t ρ ds) (hl : ds.length ≤ 1000000) : EvS K (tTup t) ρ (.tup true ds) := fun A H σ B w rr Q q =>
  ha A H σ B w rr _ fun vs H1 C1 e1 f1 p1 => by
    refine ⟨?_, fun p hp => ?_⟩
    · rw [p1.len]
      exact Nat.le_trans hl (by decide)
    have e2 : Ex H1 (upd H1 p (.tup vs)) := Ex.new hp
    have np : p ∉ C1 := fun z => (p1.tracked _ p z).1 hp
    refine q (.ref p) _ (p :: C1) (e1.tr e2) (fun a h => (List.mem_cons.mp h).elim (fun z => by rw [z]; exact e1.back hp) (f1 a)) ?_
    refine .tupO upd_same (.inr List.mem_cons_self) np (p1.keep _ ⟨fun a o e n => ⟨e2 a o e, fun z => ?_⟩, fun a o h e => ⟨e2 a o e, .inr (List.mem_cons_of_mem _ h)⟩⟩)
    rcases z with z | z
    · exact n (.inl z)
    · rcases List.mem_cons.mp z with z | z
      · rw [z, hp] at e; cases e
      · exact n (.inr z)
theorem ev_lst {ds : List D} {t : TA} (ha : EvA K t ρ ds) (hl : ds.length ≤ 1000000) : EvS K (tLst t) ρ (.lst true ds) := fun A H σ B w rr Q q =>
  ha A H σ B w rr _ fun vs H1 C1 e1 f1 p1 => by
    refine ⟨?_, fun p hp => ?_⟩
    · rw [p1.len]
      exact Nat.le_trans hl (by decide)
    have e2 : Ex H1 (upd H1 p (.lst vs)) := Ex.new hp
    have np : p ∉ C1 := fun z => (p1.tracked _ p z).1 hp
    refine q (.ref p) _ (p :: C1) (e1.tr e2) (fun a h => (List.mem_cons.mp h).elim (fun z => by rw [z]; exact e1.back hp) (f1 a)) ?_
    refine .lstO upd_same (.inr List.mem_cons_self) np (p1.keep _ ⟨fun a o e n => ⟨e2 a o e, fun z => ?_⟩, fun a o h e => ⟨e2 a o e, .inr (List.mem_cons_of_mem _ h)⟩⟩)
    rcases z with z | z
    · exact n (.inl z)
    · rcases List.mem_cons.mp z with z | z
      · rw [z, hp] at e; cases e
      · exact n (.inr z)
/-- the fresh is given up: shared from now on -/
theorem ev_frz (h : EvS K te ρ d) : EvS K te ρ d.frz := fun A H σ B w rr Q q => h A H σ B w rr Q fun v H1 C e f p => by
  refine q v H1 [] e (fun _ h => nomatch h) ?_
  rw [Own.and_nil]
  refine p.loose _ ⟨fun a o e' n => ⟨e', fun z => n (.inl z)⟩, fun a o hc e' => ⟨e', fun z => w a z (f a hc)⟩⟩
/-- what leans on nothing may be reckoned with the names given up -/
theorem ev_of (h : EvS K te (frzE ρ) d) (hd : d.closed = true) : EvS K te ρ d := fun A H σ B w rr Q q =>
  h Own.no H σ [] (fun _ h => h.elim) (rr.loose ⟨fun a o e n => ⟨e, fun z => z⟩, fun a o hb e => ⟨e, fun z => z⟩⟩) Q fun v H1 C e f p =>
    q v H1 C e f (p.closed _ hd fun a h => .inr h)
theorem et_of {b : Bool} (h : EvT K t (frzE ρ) b) : EvT K t ρ b := fun A H σ B w rr Q q =>
  h Own.no H σ [] (fun _ h => h.elim) (rr.loose ⟨fun a o e n => ⟨e, fun z => z⟩, fun a o hb e => ⟨e, fun z => z⟩⟩) Q q

/-! tests -/
theorem et_test {b : Bool} (h : EvS K te ρ (.bl b)) : EvT K (tTest te) ρ b := fun A H σ B w rr Q q => h A H σ B w rr _ fun v H1 C e f p => by
  cases p
  exact ⟨b, rfl, q H1 e⟩
theorem et_B {b : Bool} (h : EvS K te ρ (.bl b)) : EvT K (tB te) ρ b := et_test h
theorem et_step {A : Own} {H H1 : Hp} {σ : L2.St} {B : List Addr} (w : WA A H) (rr : EnvR K A H σ ρ B) (e : Ex H H1) : WA A H1 ∧ EnvR K A H1 σ ρ B :=
  ⟨fun a h => e.ne (w a h), rr.keep ⟨fun a o h n => ⟨e a o h, n⟩, fun a o m h => ⟨e a o h, (rr.tracked a m).2⟩⟩⟩
theorem et_and {a b : Bool} (h1 : EvT K t ρ a) (h2 : a = true → EvT K u ρ b) : EvT K (tAnd t u) ρ (a && b) := fun A H σ B w rr Q q => h1 A H σ B w rr _ fun H1 e => by
  obtain ⟨w1, r1⟩ := et_step w rr e
  cases a with
  | true => exact h2 rfl A H1 σ B w1 r1 Q fun H2 e2 => q H2 (e.tr e2)
  | false => exact q H1 e
theorem et_or {a b : Bool} (h1 : EvT K t ρ a) (h2 : a = false → EvT K u ρ b) : EvT K (tOr t u) ρ (a || b) := fun A H σ B w rr Q q => h1 A H σ B w rr _ fun H1 e => by
  obtain ⟨w1, r1⟩ := et_step w rr e
  cases a with
  | false => exact h2 rfl A H1 σ B w1 r1 Q fun H2 e2 => q H2 (e.tr e2)
  | true => exact q H1 e
theorem et_not {a : Bool} (h1 : EvT K t ρ a) : EvT K (tNot t) ρ (!a) := fun A H σ B w rr Q q => h1 A H σ B w rr _ q
theorem ev_if {b : Bool} (h : EvT K t ρ b) (h1 : b = true → EvS K ta ρ d) (h2 : b = false → EvS K tb ρ d) : EvS K (tIf t ta tb) ρ d := fun A H σ B w rr Q q => h A H σ B w rr _ fun H1 e => by
  obtain ⟨w1, r1⟩ := et_step w rr e
  have go : ∀ {te}, EvS K te ρ d → te σ H1 Q := fun h => h A H1 σ B w1 r1 Q fun v H2 C e2 f2 p => q v H2 C (e.tr e2) (f2.back e) p
  cases b with
  | true => exact go (h1 rfl)
  | false => exact go (h2 rfl)
theorem ev_andV {a : Bool} {b : D} (h1 : EvS K ta ρ (.bl a)) (h2 : a = true → EvS K tb ρ b) (h3 : a = false → b = .bl false) : EvS K (tAndV ta tb) ρ b := fun A H σ B w rr Q q => h1 A H σ B w rr _ fun v H1 C e f p => by
  cases p
  obtain ⟨w1, r1⟩ := et_step w rr e
  refine ⟨a, rfl, ?_⟩
  cases a with
  | true => exact h2 rfl A H1 σ B w1 r1 Q fun v H2 C e2 f2 p => q v H2 C (e.tr e2) (f2.back e) p
  | false =>
    rw [h3 rfl] at q
    exact q _ H1 [] e (fun _ h => nomatch h) (.sc _)
theorem ev_orV {a : Bool} {b : D} (h1 : EvS K ta ρ (.bl a)) (h2 : a = false → EvS K tb ρ b) (h3 : a = true → b = .bl true) : EvS K (tOrV ta tb) ρ b := fun A H σ B w rr Q q => h1 A H σ B w rr _ fun v H1 C e f p => by
  cases p
  obtain ⟨w1, r1⟩ := et_step w rr e
  refine ⟨a, rfl, ?_⟩
  cases a with
  | false => exact h2 rfl A H1 σ B w1 r1 Q fun v H2 C e2 f2 p => q v H2 C (e.tr e2) (f2.back e) p
  | true =>
    rw [h3 rfl] at q
    exact q _ H1 [] e (fun _ h => nomatch h) (.sc _)
theorem ev_notV {a : Bool} (h1 : EvS K ta ρ (.bl a)) : EvS K (tNotV ta) ρ (.bl !a) := fun A H σ B w rr Q q => h1 A H σ B w rr _ fun v H1 C e f p => by
  cases p
  exact ⟨a, rfl, q _ H1 [] e (fun _ h => nomatch h) (.sc _)⟩
theorem ev_chain {r r' : R2} {tc : TE} {a : Bool} (ha : EvS K ta ρ (.sc x')) (hb : EvS K tb ρ (.sc y')) (h1 : ∀ H (Q : VK), Q (.bl a) H → r x' y' H Q) (hc : a = true → EvS K tc ρ (.sc z')) (h2 : a = true → ∀ H (Q : VK), Q (.bl b') H → r' y' z' H Q) :
    EvS K (tChain r r' ta tb tc) ρ (.bl (a && b')) := fun A H σ B w rr Q q => ha A H σ B w rr _ fun v1 H1 C1 e1 f1 p1 => by
  cases p1
  obtain ⟨w1, r1⟩ := et_step w rr e1
  refine hb A H1 σ B w1 r1 _ fun v2 H2 C2 e2 f2 p2 => ?_
  cases p2
  obtain ⟨w2, r2⟩ := et_step w1 r1 e2
  refine h1 H2 _ ⟨a, rfl, ?_⟩
  cases a with
  | false => exact q _ H2 [] (e1.tr e2) (fun _ h => nomatch h) (.sc _)
  | true =>
    refine hc rfl A H2 σ B w2 r2 _ fun v3 H3 C3 e3 f3 p3 => ?_
    cases p3
    exact h2 rfl H3 _ (q _ H3 [] ((e1.tr e2).tr e3) (fun _ h => nomatch h) (.sc _))
end
end FP

namespace FP
open PySem PySem.Spec PyProof.Rows L2

/-! ### operators upon values: rules that serve several kinds -/
theorem CallR.or {X : Cx} {f : Value} {r r' : List V → Hp → VK → Prop} (h : CallR X f r) (h' : CallR X f r') : CallR X f (fun xs H Q => r xs H Q ∨ r' xs H Q) := by
  intro pins s σ H xs us Q I rx q
  rcases q with q | q
  · exact h pins s σ H xs us Q I rx q
  · exact h' pins s σ H xs us Q I rx q
def rAddS : R2 := fun x y H Q => ∃ i j, x = V.str i ∧ y = V.str j ∧ i.length + j.length ≤ sizeLine ∧ Q (V.str (i ++ j)) H
/-- lists -/
def rCatS (K : PySem.W.Frag) : R2 := fun x y H Q => ∃ l b xs zs, x = .ref l ∧ y = .ref b ∧ SqL K H l xs ∧ SqL K H b zs ∧ xs.length + zs.length ≤ sizeLine ∧ ∀ p, H p = none → Q (.ref p) (upd H p (.lst (xs ++ zs)))
section
variable {X : Cx}
theorem op_catS : OpR X (binaryOp .Add) (rCatS X.K) := by
  intro pins s σ H x y v u Q I rx ry h
  obtain ⟨l, b, xs, zs, rfl, rfl, hH, hB, hz, q⟩ := h
  cases rx
  cases ry
  obtain ⟨its, r, ⟨⟨cls, dd, data, sl⟩, n, ho, hc, _, hd⟩, z⟩ := I.list hH
  obtain ⟨its2, r2, ⟨⟨cls2, dd2, data2, sl2⟩, n2, ho2, hc2, _, hd2⟩, z2⟩ := I.list hB
  simp only at hc hd hc2 hd2
  subst hc hd hc2 hd2
  have l1 := r.length
  have l2 := r2.length
  have ea : its.toArray ++ its2.toArray = (its ++ its2).toArray := by simp
  refine concat_meets ⟨_, ho, rfl⟩ ⟨_, ho2, rfl⟩ noFill_list_add seq_list_add PySem.F.slot_list_add PySem.F.entry_list_add (PySem.F.args_list_add_2 _ _) (list_addW l b its.toArray its2.toArray n n2 dd dd2 sl sl2 (by rw [List.size_toArray, List.size_toArray]; omega)) ⟨ho, ho2, ?_⟩
  rw [ea]
  exact ⟨.ref _, _, I.lnew (t' := s.toks) (r.append r2) (by rw [List.length_append]; omega), rfl, q _ I.fresh⟩
def rPlus (K : PySem.W.Frag) : R2 := fun x y H Q => rI0 (fun i j => .int (i + j)) x y H Q ∨ rAddS x y H Q ∨ rCatS K x y H Q ∨ rCatT K x y H Q
theorem op_plus : OpR X (binaryOp .Add) (rPlus X.K) := op_add.or (op_add_str.or (op_catS.or op_catT))
def rTimes : R2 := fun x y H Q => rI CMul (fun i j => .int (i * j)) x y H Q ∨ rI CMulW (fun i j => .int (i * j)) x y H Q ∨ rRep x y H Q
theorem op_times : OpR X (binaryOp .Mult) rTimes := op_mul.or (op_mulW.or op_rep)
def rFd : R2 := fun x y H Q => rI CDiv (fun i j => .int (i / j)) x y H Q ∨ rI CDivW (fun i j => .int (i / j)) x y H Q
theorem op_fd : OpR X (binaryOp .FloorDiv) rFd := op_fdiv.or op_fdivW
def rMd : R2 := rI (fun _ j => 0 < j) fun i j => .int (i % j)
theorem op_md : OpR X (binaryOp .Mod) rMd := op_mod
def rSb : R2 := rI0 fun i j => .int (i - j)
theorem op_sb : OpR X (binaryOp .Sub) rSb := op_sub
def rPw : R2 := rI CPow fun i j => .int (i ^ j.toNat)
theorem op_pw : OpR X (binaryOp .Pow) rPw := op_pow
def rNg : V → Hp → VK → Prop := rU fun i => .int (-i)
theorem un_ng : UnR X (unaryOp .USub) rNg := un_neg
/-! comparisons -/
def rEqq (K : PySem.W.Frag) : R2 := fun x y H Q => rEq x y H Q ∨ rEqD K x y H Q
theorem op_eqq (hu : X.A.units + 64 < cLine) : OpR X (compareOp .Eq) (rEqq X.K) := op_eq.or (op_eqD hu)
def rNee (K : PySem.W.Frag) : R2 := fun x y H Q => rNe x y H Q ∨ rNeD K x y H Q
theorem op_nee (hu : X.A.units + 64 < cLine) : OpR X (compareOp .NotEq) (rNee X.K) := op_ne.or (op_neD hu)
def rLtS : R2 := fun x y H Q => ∃ i j, x = V.str i ∧ y = V.str j ∧ Q (V.bl (decide (i.cps.toList < j.cps.toList))) H
def rLeS : R2 := fun x y H Q => ∃ i j, x = V.str i ∧ y = V.str j ∧ Q (V.bl !decide (j.cps.toList < i.cps.toList)) H
def rGtS : R2 := fun x y H Q => ∃ i j, x = V.str i ∧ y = V.str j ∧ Q (V.bl (decide (j.cps.toList < i.cps.toList))) H
def rGeS : R2 := fun x y H Q => ∃ i j, x = V.str i ∧ y = V.str j ∧ Q (V.bl !decide (i.cps.toList < j.cps.toList)) H
def rLtt (K : PySem.W.Frag) : R2 := fun x y H Q => rI0 (fun i j => .bl (decide (i < j))) x y H Q ∨ rLtS x y H Q ∨ rLtT K x y H Q
theorem op_ltt (hu : X.A.units < cLine) : OpR X (compareOp .Lt) (rLtt X.K) := op_lt.or (op_lt_str.or (op_ltT hu))
def rLee : R2 := fun x y H Q => rI0 (fun i j => .bl (decide (i ≤ j))) x y H Q ∨ rLeS x y H Q
theorem op_lee : OpR X (compareOp .LtE) rLee := op_le.or op_le_str
def rGtt : R2 := fun x y H Q => rI0 (fun i j => .bl (decide (j < i))) x y H Q ∨ rGtS x y H Q
theorem op_gtt : OpR X (compareOp .Gt) rGtt := op_gt.or op_gt_str
def rGee : R2 := fun x y H Q => rI0 (fun i j => .bl (decide (j ≤ i))) x y H Q ∨ rGeS x y H Q
theorem op_gee : OpR X (compareOp .GtE) rGee := op_ge.or op_ge_str
def rInSg : R2 := fun x y H Q => ∃ c z, x = V.str { cps := #[c] } ∧ y = V.str z ∧ Q (V.bl (decide (c ∈ z.cps.toList))) H
def rNiSg : R2 := fun x y H Q => ∃ c z, x = V.str { cps := #[c] } ∧ y = V.str z ∧ Q (V.bl !decide (c ∈ z.cps.toList)) H
def rInn (K : PySem.W.Frag) : R2 := fun x y H Q => rIn K false x y H Q ∨ rInSg x y H Q
theorem op_inn : OpR X (compareOp .In) (rInn X.K) := op_in_seq.or op_in_sign
def rNii (K : PySem.W.Frag) : R2 := fun x y H Q => rIn K true x y H Q ∨ rNiSg x y H Q
theorem op_nii : OpR X (compareOp .NotIn) (rNii X.K) := op_notIn_seq.or op_notIn_sign
def rIsNo : R2 := fun x y H Q => y = .non ∧ Q (.bl (decide (x = .non))) H
def rNotNo : R2 := fun x y H Q => y = .non ∧ Q (.bl (!decide (x = .non))) H
def rIss : R2 := fun x y H Q => rIsNo x y H Q ∨ rIsB x y H Q
theorem op_iss : OpR X (compareOp .Is) rIss := op_isN.or op_isBl
def rIsn : R2 := fun x y H Q => rNotNo x y H Q ∨ rNotB x y H Q
theorem op_isn : OpR X (compareOp .IsNot) rIsn := op_notN.or op_notBl
/-! calls -/
def rInt1 : List V → Hp → VK → Prop := fun xs H Q => (∃ i, xs = [V.int i] ∧ Q (V.int i) H) ∨ ∃ k, xs = [V.bl k] ∧ Q (V.int (if k = true then 1 else 0)) H
def rIntS : List V → Hp → VK → Prop := fun xs H Q => ∃ a n, xs = [V.str a] ∧ intText? a = some n ∧ a.length ≤ 640 ∧ Q (V.int n) H
def rIntt : List V → Hp → VK → Prop := fun xs H Q => rInt1 xs H Q ∨ rIntS xs H Q
theorem call_intt : CallR X (.type "int") rIntt := CallR.or call_int1 call_int_str
def rStrI : List V → Hp → VK → Prop := fun xs H Q => ∃ i, xs = [V.int i] ∧ i.natAbs.log2 < 1920 ∧ Q (V.str (Str.ofString (toString i))) H
theorem call_strI : CallR X (.type "str") rStrI := call_str_int
def rLen (K : PySem.W.Frag) : List V → Hp → VK → Prop := fun xs H Q => ∃ x n, xs = [x] ∧ LenV K x H n ∧ Q (V.int ↑n) H
theorem call_lenn : CallR X (.builtin "len") (rLen X.K) := call_len
def rListOf (K : PySem.W.Frag) : List V → Hp → VK → Prop := fun xs H Q => ∃ p ys, xs = [V.ref p] ∧ (SqL K H p ys ∨ SqT K H p ys) ∧ ∀ (l : Addr), H l = none → Q (V.ref l) (upd H l (HO.lst ys))
theorem call_listOf : CallR X (.type "list") (rListOf X.K) := call_list_of
def rTupOf (K : PySem.W.Frag) : List V → Hp → VK → Prop := fun xs H Q => ∃ p ys, xs = [V.ref p] ∧ ((SqL K H p ys ∧ ∀ (l : Addr), H l = none → Q (V.ref l) (upd H l (HO.tup ys))) ∨ SqT K H p ys ∧ Q (V.ref p) H)
theorem call_tupOf : CallR X (.type "tuple") (rTupOf X.K) := call_tuple_of
def rIsis (K : PySem.W.Frag) : List V → Hp → VK → Prop := fun xs H Q => rIsi K xs H Q ∨ rIsiT K xs H Q
theorem call_isis : CallR X (.builtin "isinstance") (rIsis X.K) := CallR.or call_isi call_isiT
def rMax2 : List V → Hp → VK → Prop := fun xs H Q => ∃ i j, xs = [V.int i, V.int j] ∧ Q (V.int (if j > i then j else i)) H
def rMin2 : List V → Hp → VK → Prop := fun xs H Q => ∃ i j, xs = [V.int i, V.int j] ∧ Q (V.int (if j < i then j else i)) H
def rMaxx (K : PySem.W.Frag) : List V → Hp → VK → Prop := fun xs H Q => rMax2 xs H Q ∨ rMax K xs H Q
theorem call_maxx (hc : X.calm = true) : CallR X (.builtin "max") (rMaxx X.K) := CallR.or (call_max2 hc) (cr_max hc)
def rMinn (K : PySem.W.Frag) : List V → Hp → VK → Prop := fun xs H Q => rMin2 xs H Q ∨ rMin K xs H Q
theorem call_minn (hc : X.calm = true) : CallR X (.builtin "min") (rMinn X.K) := CallR.or (call_min2 hc) (cr_min hc)
def rAbs : List V → Hp → VK → Prop := fun xs H Q => ∃ i, xs = [V.int i] ∧ Q (V.int (if i < 0 then -i else i)) H
theorem call_abss : CallR X (.builtin "abs") rAbs := call_abs
end

/-! ### the same upon data -/
section
variable {K : PySem.W.Frag} {A : Own} {H : Hp} {v : V} {d e z : D} {ds es : List D} {B C : List Addr} {i j : Int} {a b : Str}
theorem nofresh {H : Hp} {B C : List Addr} : ∀ a ∈ ([] : List Addr), H a = none ∨ a ∈ B ∨ a ∈ C := fun _ h => nomatch h
theorem nofresh1 {H : Hp} {B : List Addr} : ∀ a ∈ ([] : List Addr), H a = none ∨ a ∈ B := fun _ h => nomatch h
theorem op2_sc {r : R2} {x y z : V} (h : ∀ H (Q : VK), Q z H → r x y H Q) : Op2 K r (.sc x) (.sc y) (.sc z) := fun A H _ _ B C w p1 p2 n Q q => by
  cases p1
  cases p2
  exact h H Q (q z H [] Ex.rfl' nofresh (.sc z))
theorem op2_bl {r : R2} {k : Bool} (h : ∀ A H x y B C, Rp K A H x d B → Rp K A H y e C → ∀ Q : VK, Q (.bl k) H → r x y H Q) : Op2 K r d e (.bl k) := fun A H x y B C w p1 p2 n Q q =>
  h A H x y B C p1 p2 Q (q (.bl k) H [] Ex.rfl' nofresh (.sc _))
theorem op1_sc {r : V → Hp → VK → Prop} {x z : V} (h : ∀ H (Q : VK), Q z H → r x H Q) : Op1 K r (.sc x) (.sc z) := fun A H _ B w p1 Q q => by
  cases p1
  exact h H Q (q z H [] Ex.rfl' nofresh1 (.sc z))
theorem opc_sc {r : List V → Hp → VK → Prop} {z : V} (h : ∀ A H xs B, RpAll K A H xs ds B → ∀ Q : VK, Q z H → r xs H Q) : OpC K r ds (.sc z) := fun A H xs B w p Q q =>
  h A H xs B p Q (q z H [] Ex.rfl' nofresh1 (.sc z))
theorem RpAll.one {xs : List V} (h : RpAll K A H xs [d] B) : ∃ x, xs = [x] ∧ Rp K A H x d B := by
  cases h with
  | cons r t n =>
    cases t
    rw [List.append_nil]
    exact ⟨_, rfl, r⟩
theorem RpAll.two {xs : List V} (h : RpAll K A H xs [d, e] B) : ∃ x y B1 B2, xs = [x, y] ∧ Rp K A H x d B1 ∧ Rp K A H y e B2 ∧ B = B1 ++ B2 ∧ ∀ a ∈ B1, a ∉ B2 := by
  cases h with
  | cons r t n =>
    obtain ⟨y, rfl, t1⟩ := t.one
    exact ⟨_, _, _, _, rfl, r, t1, rfl, n⟩
theorem plus_int : Op2 K (rPlus K) (.int i) (.int j) (.int (i + j)) := op2_sc fun H Q q => .inl ⟨i, j, rfl, rfl, q⟩
theorem plus_str (h : a.length + b.length ≤ sizeLine) : Op2 K (rPlus K) (.str a) (.str b) (.str (a ++ b)) := op2_sc fun H Q q => .inr (.inl ⟨a, b, rfl, rfl, h, q⟩)
theorem sub_int' : Op2 K rSb (.int i) (.int j) (.int (i - j)) := op2_sc fun H Q q => ⟨i, j, rfl, rfl, q⟩
theorem times_int (h : CMul i j) : Op2 K rTimes (.int i) (.int j) (.int (i * j)) := op2_sc fun H Q q => .inl ⟨i, j, rfl, rfl, h, q⟩
theorem times_wide (h : CMulW i j) : Op2 K rTimes (.int i) (.int j) (.int (i * j)) := op2_sc fun H Q q => .inr (.inl ⟨i, j, rfl, rfl, h, q⟩)
theorem fd_int (h : CDiv i j) : Op2 K rFd (.int i) (.int j) (.int (i / j)) := op2_sc fun H Q q => .inl ⟨i, j, rfl, rfl, h, q⟩
theorem md_int (h : 0 < j) : Op2 K rMd (.int i) (.int j) (.int (i % j)) := op2_sc fun H Q q => ⟨i, j, rfl, rfl, h, q⟩
theorem pw_int (h : CPow i j) : Op2 K rPw (.int i) (.int j) (.int (i ^ j.toNat)) := op2_sc fun H Q q => ⟨i, j, rfl, rfl, h, q⟩
theorem ng_int : Op1 K rNg (.int i) (.int (-i)) := op1_sc fun H Q q => ⟨i, rfl, q⟩
theorem eq_sc {x y : V} (h : scal x y = true) : Op2 K (rEqq K) (.sc x) (.sc y) (.bl (decide (x = y))) := op2_sc fun H Q q => .inl ⟨h, q⟩
theorem ne_sc {x y : V} (h : scal x y = true) : Op2 K (rNee K) (.sc x) (.sc y) (.bl (!decide (x = y))) := op2_sc fun H Q q => .inl ⟨h, q⟩
theorem decV_int : decide (V.int i = V.int j) = decide (i = j) := by simp
theorem decV_str : decide (V.str a = V.str b) = decide (a = b) := by simp
theorem eq_int' : Op2 K (rEqq K) (.int i) (.int j) (.bl (decide (i = j))) := by rw [← decV_int]; exact eq_sc rfl
theorem ne_int' : Op2 K (rNee K) (.int i) (.int j) (.bl (!decide (i = j))) := by rw [← decV_int]; exact ne_sc rfl
theorem eq_str' : Op2 K (rEqq K) (.str a) (.str b) (.bl (decide (a = b))) := by rw [← decV_str]; exact eq_sc rfl
theorem ne_str' : Op2 K (rNee K) (.str a) (.str b) (.bl (!decide (a = b))) := by rw [← decV_str]; exact ne_sc rfl
theorem eq_bl' {p q : Bool} : Op2 K (rEqq K) (.bl p) (.bl q) (.bl (decide (p = q))) := by
  have : decide (V.bl p = V.bl q) = decide (p = q) := by simp
  rw [← this]; exact eq_sc rfl
theorem ne_bl' {p q : Bool} : Op2 K (rNee K) (.bl p) (.bl q) (.bl (!decide (p = q))) := by
  have : decide (V.bl p = V.bl q) = decide (p = q) := by simp
  rw [← this]; exact ne_sc rfl
theorem lt_int' : Op2 K (rLtt K) (.int i) (.int j) (.bl (decide (i < j))) := op2_sc fun H Q q => .inl ⟨i, j, rfl, rfl, q⟩
theorem le_int' : Op2 K rLee (.int i) (.int j) (.bl (decide (i ≤ j))) := op2_sc fun H Q q => .inl ⟨i, j, rfl, rfl, q⟩
theorem gt_int' : Op2 K rGtt (.int i) (.int j) (.bl (decide (j < i))) := op2_sc fun H Q q => .inl ⟨i, j, rfl, rfl, q⟩
theorem ge_int' : Op2 K rGee (.int i) (.int j) (.bl (decide (j ≤ i))) := op2_sc fun H Q q => .inl ⟨i, j, rfl, rfl, q⟩
theorem lt_str' : Op2 K (rLtt K) (.str a) (.str b) (.bl (decide (a.cps.toList < b.cps.toList))) := op2_sc fun H Q q => .inr (.inl ⟨a, b, rfl, rfl, q⟩)
theorem le_str' : Op2 K rLee (.str a) (.str b) (.bl !decide (b.cps.toList < a.cps.toList)) := op2_sc fun H Q q => .inr ⟨a, b, rfl, rfl, q⟩
theorem in_sign' {c : Nat} : Op2 K (rInn K) (.str ⟨#[c]⟩) (.str b) (.bl (decide (c ∈ b.cps.toList))) := op2_sc fun H Q q => .inr ⟨c, b, rfl, rfl, q⟩
theorem ni_sign' {c : Nat} : Op2 K (rNii K) (.str ⟨#[c]⟩) (.str b) (.bl !decide (c ∈ b.cps.toList)) := op2_sc fun H Q q => .inr ⟨c, b, rfl, rfl, q⟩
/-! is None -/
def isNo : D → Bool
  | .sc .non => true
  | _ => false
theorem Rp.isNo (h : Rp K A H v d B) : decide (v = .non) = isNo d := by
  cases h with
  | sc => cases v <;> rfl
  | _ => rfl
theorem is_no : Op2 K rIss d .non (.bl (isNo d)) := op2_bl fun A H x y B C p1 p2 Q q => by
  cases p2
  exact .inl ⟨rfl, by rw [p1.isNo]; exact q⟩
theorem isn_no : Op2 K rIsn d .non (.bl !isNo d) := op2_bl fun A H x y B C p1 p2 Q q => by
  cases p2
  exact .inl ⟨rfl, by rw [p1.isNo]; exact q⟩
theorem is_bl {p q : Bool} : Op2 K rIss (.bl p) (.bl q) (.bl (decide (p = q))) := op2_sc fun H Q h => .inr ⟨p, q, rfl, rfl, h⟩
theorem isn_bl {p q : Bool} : Op2 K rIsn (.bl p) (.bl q) (.bl !decide (p = q)) := op2_sc fun H Q h => .inr ⟨p, q, rfl, rfl, h⟩

/-! lists and tuples -/
theorem RpAll.app : ∀ {ds es : List D} {xs ys : List V} {B C : List Addr}, RpAll K A H xs ds B → RpAll K A H ys es C → (∀ a ∈ B, a ∉ C) → RpAll K A H (xs ++ ys) (ds ++ es) (B ++ C)
  | _, _, _, _, _, _, .nil, t, _ => t
  | _, _, _, _, _, _, .cons r t n, u, m => by
    rw [List.append_assoc]
    refine .cons r (RpAll.app t u fun a h => m a (List.mem_append_right _ h)) fun a h z => ?_
    rcases List.mem_append.mp z with z | z
    · exact n a h z
    · exact m a (List.mem_append_left _ h) z
/-- a list's address, items, what it owns -/
theorem Rp.lst {o : Bool} (h : Rp K A H v (.lst o ds) B) : ∃ a xs C, v = .ref a ∧ SqL K H a xs ∧ RpAll K A H xs ds C ∧ (∀ b ∈ C, b ∈ B) ∧ (o = false → C = []) := by
  cases h with
  | lstS h r => exact ⟨_, _, _, rfl, h.imp (fun h => h.1) id, r, (fun _ h => nomatch h), fun _ => rfl⟩
  | lstO h a n r => exact ⟨_, _, _, rfl, .inl (.inl h), r, fun _ h => List.mem_cons_of_mem _ h, (fun e => nomatch e)⟩
theorem Rp.tup {o : Bool} (h : Rp K A H v (.tup o ds) B) : ∃ a xs C, v = .ref a ∧ SqT K H a xs ∧ RpAll K A H xs ds C ∧ (∀ b ∈ C, b ∈ B) ∧ (o = false → C = []) := by
  cases h with
  | tupS h r => exact ⟨_, _, _, rfl, h.imp (fun h => h.1) id, r, (fun _ h => nomatch h), fun _ => rfl⟩
  | tupO h a n r => exact ⟨_, _, _, rfl, .inl (.inl h), r, fun _ h => List.mem_cons_of_mem _ h, (fun e => nomatch e)⟩
/-- what a new object holds is held behind it too -/
theorem keep_laid {p : Addr} {o : HO} {C : List Addr} (hp : H p = none) (hC : ∀ a ∈ C, A a) : Keep A H C (A.and (p :: C)) (upd H p o) :=
  ⟨fun a u e n => ⟨Ex.new hp a u e, fun z => z.elim n fun z => (List.mem_cons.mp z).elim (fun z => by rw [z, hp] at e; cases e) fun z => n (hC a z)⟩, fun a u h e => ⟨Ex.new hp a u e, .inr (List.mem_cons_of_mem _ h)⟩⟩
theorem Rp.newL {p : Addr} {xs : List V} (hp : H p = none) (r : RpAll K A H xs ds C) : Rp K (A.and (p :: C)) (upd H p (.lst xs)) (.ref p) (.lst true ds) (p :: C) :=
  .lstO upd_same (.inr List.mem_cons_self) (fun z => (r.tracked _ p z).1 hp) (r.keep _ (keep_laid hp fun a h => (r.tracked _ a h).2))
theorem Rp.newT {p : Addr} {xs : List V} (hp : H p = none) (r : RpAll K A H xs ds C) : Rp K (A.and (p :: C)) (upd H p (.tup xs)) (.ref p) (.tup true ds) (p :: C) :=
  .tupO upd_same (.inr List.mem_cons_self) (fun z => (r.tracked _ p z).1 hp) (r.keep _ (keep_laid hp fun a h => (r.tracked _ a h).2))
theorem plus_lst {o o' : Bool} (h : ds.length + es.length ≤ sizeLine) : Op2 K (rPlus K) (.lst o ds) (.lst o' es) (.lst true (ds ++ es)) := fun A H x y B C w p1 p2 n Q q => by
  obtain ⟨a, xs, B1, rfl, h1, r1, s1, _⟩ := p1.lst
  obtain ⟨b, ys, C1, rfl, h2, r2, s2, _⟩ := p2.lst
  refine .inr (.inr (.inl ⟨a, b, xs, ys, rfl, rfl, h1, h2, by rw [r1.len, r2.len]; exact h, fun p hp => ?_⟩))
  refine q _ _ _ (Ex.new hp) (fun c hc => ?_) (Rp.newL hp (r1.app r2 fun c h z => n c (s1 c h) (s2 c z)))
  rcases List.mem_cons.mp hc with rfl | hc
  · exact .inl hp
  · exact .inr ((List.mem_append.mp hc).imp (s1 c) (s2 c))
theorem RpAll.get : ∀ {ds : List D} {xs : List V} {B : List Addr} {j : Nat} {d : D}, RpAll K A H xs ds B → ds[j]? = some d → ∃ v C, xs[j]? = some v ∧ Rp K A H v d C ∧ ∀ a ∈ C, a ∈ B
  | _, _, _, j, _, .nil, e => by simp at e
  | _, _, _, 0, _, .cons r _ _, e => by
    simp at e
    subst e
    exact ⟨_, _, by simp, r, fun _ h => List.mem_append_left _ h⟩
  | _, _, _, j + 1, _, .cons _ t _, e => by
    obtain ⟨v, C, h1, h2, h3⟩ := RpAll.get t (by simpa using e)
    exact ⟨v, C, by simpa using h1, h2, fun a h => List.mem_append_right _ (h3 a h)⟩
theorem RpAll.at {xs : List V} (r : RpAll K A H xs ds B) (h : atI ds i = some d) : ∃ v C, atI xs i = some v ∧ Rp K A H v d C ∧ ∀ a ∈ C, a ∈ B := by
  unfold atI at h ⊢
  rw [r.len]
  cases e : ixN ds.length i with
  | none => rw [e] at h; cases h
  | some j =>
    rw [e] at h
    exact r.get h
theorem Rp.and (r : Rp K A H v d C) (hC : ∀ a ∈ C, A a) : Rp K (A.and C) H v d C :=
  r.keep _ ⟨fun a o e n => ⟨e, fun z => z.elim n fun z => n (hC a z)⟩, fun a o h e => ⟨e, .inr h⟩⟩
theorem ix_lst {o : Bool} (h : atI ds i = some d) : Op2 K (rIx K) (.lst o ds) (.int i) d := fun A H x y B C w p1 p2 n Q q => by
  obtain ⟨a, xs, B1, rfl, h1, r1, s1, _⟩ := p1.lst
  cases p2
  obtain ⟨v, E, e1, e2, e3⟩ := r1.at h
  exact .inl ⟨a, xs, i, v, rfl, rfl, h1, e1, q v H E Ex.rfl' (fun a h => .inr (.inl (s1 a (e3 a h)))) (e2.and fun a h => (e2.tracked _ a h).2)⟩
theorem ix_tp {o : Bool} (h : atI ds i = some d) : Op2 K (rIx K) (.tup o ds) (.int i) d := fun A H x y B C w p1 p2 n Q q => by
  obtain ⟨a, xs, B1, rfl, h1, r1, s1, _⟩ := p1.tup
  cases p2
  obtain ⟨v, E, e1, e2, e3⟩ := r1.at h
  exact .inr (.inl ⟨a, xs, i, v, rfl, rfl, h1, e1, q v H E Ex.rfl' (fun a h => .inr (.inl (s1 a (e3 a h)))) (e2.and fun a h => (e2.tracked _ a h).2)⟩)
theorem ix_st {c : Nat} (hl : a.length ≤ sizeLine) (h : atI a.cps.toList i = some c) : Op2 K (rIx K) (.str a) (.int i) (.str ⟨#[c]⟩) := op2_sc fun H Q q => .inr (.inr ⟨a, i, c, rfl, rfl, hl, h, q⟩)
theorem len_lst {o : Bool} : OpC K (rLen K) [.lst o ds] (.int (ds.length : Int)) := opc_sc fun A H xs B p Q q => by
  obtain ⟨x, rfl, p1⟩ := p.one
  obtain ⟨a, xs, B1, rfl, h1, r1, _⟩ := p1.lst
  exact ⟨.ref a, _, rfl, .inl ⟨xs, h1, rfl⟩, by rw [r1.len]; exact q⟩
theorem len_tp {o : Bool} : OpC K (rLen K) [.tup o ds] (.int (ds.length : Int)) := opc_sc fun A H xs B p Q q => by
  obtain ⟨x, rfl, p1⟩ := p.one
  obtain ⟨a, xs, B1, rfl, h1, r1, _⟩ := p1.tup
  exact ⟨.ref a, _, rfl, .inr ⟨xs, h1, rfl⟩, by rw [r1.len]; exact q⟩
theorem len_st (hl : a.length ≤ sizeLine) : OpC K (rLen K) [.str a] (.int (a.length : Int)) := opc_sc fun A H xs B p Q q => by
  obtain ⟨x, rfl, p1⟩ := p.one
  cases p1
  exact ⟨.str a, _, rfl, ⟨hl, rfl⟩, q⟩
theorem int_int : OpC K rIntt [.int i] (.int i) := opc_sc fun A H xs B p Q q => by
  obtain ⟨x, rfl, p1⟩ := p.one
  cases p1
  exact .inl (.inl ⟨i, rfl, q⟩)
theorem int_bl {k : Bool} : OpC K rIntt [.bl k] (.int (if k = true then 1 else 0)) := opc_sc fun A H xs B p Q q => by
  obtain ⟨x, rfl, p1⟩ := p.one
  cases p1
  exact .inl (.inr ⟨k, rfl, q⟩)
theorem int_st {n : Int} (h : intText? a = some n) (hl : a.length ≤ 640) : OpC K rIntt [.str a] (.int n) := opc_sc fun A H xs B p Q q => by
  obtain ⟨x, rfl, p1⟩ := p.one
  cases p1
  exact .inr ⟨a, n, rfl, h, hl, q⟩
theorem str_int (h : i.natAbs.log2 < 1920) : OpC K rStrI [.int i] (.str (Str.ofString (toString i))) := opc_sc fun A H xs B p Q q => by
  obtain ⟨x, rfl, p1⟩ := p.one
  cases p1
  exact ⟨i, rfl, h, q⟩
theorem max_int : OpC K (rMaxx K) [.int i, .int j] (.int (if j > i then j else i)) := opc_sc fun A H xs B p Q q => by
  obtain ⟨x, y, _, _, rfl, p1, p2, _⟩ := p.two
  cases p1
  cases p2
  exact .inl ⟨i, j, rfl, q⟩
theorem min_int : OpC K (rMinn K) [.int i, .int j] (.int (if j < i then j else i)) := opc_sc fun A H xs B p Q q => by
  obtain ⟨x, y, _, _, rfl, p1, p2, _⟩ := p.two
  cases p1
  cases p2
  exact .inl ⟨i, j, rfl, q⟩
theorem RpAll.ints : ∀ {ns : List Int} {xs : List V} {B : List Addr}, RpAll K A H xs (ns.map D.int) B → xs = ns.map V.int
  | [], _, _, .nil => rfl
  | n :: ns, _, _, .cons r t _ => by
    cases r
    rw [RpAll.ints t]
    rfl
theorem RpAll.bls : ∀ {ns : List Bool} {xs : List V} {B : List Addr}, RpAll K A H xs (ns.map D.bl) B → xs = ns.map V.bl
  | [], _, _, .nil => rfl
  | n :: ns, _, _, .cons r t _ => by
    cases r
    rw [RpAll.bls t]
    rfl
theorem RpAll.strs : ∀ {ns : List Str} {xs : List V} {B : List Addr}, RpAll K A H xs (ns.map D.str) B → xs = ns.map V.str
  | [], _, _, .nil => rfl
  | n :: ns, _, _, .cons r t _ => by
    cases r
    rw [RpAll.strs t]
    rfl
theorem RpAll.ofStrs : ∀ ns : List Str, RpAll K A H (ns.map V.str) (ns.map D.str) []
  | [] => .nil
  | n :: ns => RpAll.cons (B := []) (C := []) (.sc _) (RpAll.ofStrs ns) fun _ h => nomatch h
theorem sum_ints {o : Bool} {ns : List Int} : OpC K (rSum K) [.lst o (ns.map D.int)] (.int ns.sum) := opc_sc fun A H xs B p Q q => by
  obtain ⟨x, rfl, p1⟩ := p.one
  obtain ⟨a, xs, B1, rfl, h1, r1, _⟩ := p1.lst
  rw [r1.ints] at h1
  exact ⟨a, ns, rfl, h1, q⟩
theorem all_bls {o : Bool} {bs : List Bool} : OpC K (rAll K) [.lst o (bs.map D.bl)] (.bl (bs.all id)) := opc_sc fun A H xs B p Q q => by
  obtain ⟨x, rfl, p1⟩ := p.one
  obtain ⟨a, xs, B1, rfl, h1, r1, _⟩ := p1.lst
  rw [r1.bls] at h1
  exact ⟨a, bs, rfl, h1, q⟩
theorem any_bls {o : Bool} {bs : List Bool} : OpC K (rAny K) [.lst o (bs.map D.bl)] (.bl (bs.any id)) := opc_sc fun A H xs B p Q q => by
  obtain ⟨x, rfl, p1⟩ := p.one
  obtain ⟨a, xs, B1, rfl, h1, r1, _⟩ := p1.lst
  rw [r1.bls] at h1
  exact ⟨a, bs, rfl, h1, q⟩
theorem list_lst {o : Bool} : OpC K (rListOf K) [.lst o ds] (.lst true ds) := fun A H xs B w p Q q => by
  obtain ⟨x, rfl, p1⟩ := p.one
  obtain ⟨a, xs, B1, rfl, h1, r1, s1, _⟩ := p1.lst
  refine ⟨a, xs, rfl, .inl h1, fun p hp => q _ _ _ (Ex.new hp) (fun c hc => ?_) (Rp.newL hp r1)⟩
  exact (List.mem_cons.mp hc).imp (fun z => by rw [z]; exact hp) (s1 c)
theorem list_tp {o : Bool} : OpC K (rListOf K) [.tup o ds] (.lst true ds) := fun A H xs B w p Q q => by
  obtain ⟨x, rfl, p1⟩ := p.one
  obtain ⟨a, xs, B1, rfl, h1, r1, s1, _⟩ := p1.tup
  refine ⟨a, xs, rfl, .inr h1, fun p hp => q _ _ _ (Ex.new hp) (fun c hc => ?_) (Rp.newL hp r1)⟩
  exact (List.mem_cons.mp hc).imp (fun z => by rw [z]; exact hp) (s1 c)
theorem tup_lst {o : Bool} : OpC K (rTupOf K) [.lst o ds] (.tup true ds) := fun A H xs B w p Q q => by
  obtain ⟨x, rfl, p1⟩ := p.one
  obtain ⟨a, xs, B1, rfl, h1, r1, s1, _⟩ := p1.lst
  refine ⟨a, xs, rfl, .inl ⟨h1, fun p hp => q _ _ _ (Ex.new hp) (fun c hc => ?_) (Rp.newT hp r1)⟩⟩
  exact (List.mem_cons.mp hc).imp (fun z => by rw [z]; exact hp) (s1 c)

/-! isinstance of a built-in class -/
def tyN : D → String
  | .sc .non => "NoneType"
  | .sc (.bl _) => "bool"
  | .sc (.int _) => "int"
  | .sc (.str _) => "str"
  | .sc (.byt _) => "bytes"
  | .lst _ _ => "list"
  | .tup _ _ => "tuple"
  | .dK _ _ _ => "dict"
  | .dT true _ _ => "dict"
  | _ => ""
theorem Rp.tyX (h : Rp K A H v d B) (hn : tyN d ≠ "") : TyX K H v (.type (tyN d)) := by
  cases h with
  | sc =>
    cases v with
    | non => exact .base .non
    | bl b => exact .base (.bl b)
    | int i => exact .base (.int i)
    | str s => exact .base (.str s)
    | byt b => exact .byt b
    | _ => exact absurd rfl hn
  | lstS h r =>
    rcases h with ⟨h | ⟨o, h⟩, _⟩ | ⟨o, its, n, hk, hc, _⟩
    · exact .base (.lst h)
    · exact .base (.frz h)
    · exact .kList hk hc
  | lstO h a n r => exact .base (.lst h)
  | tupS h r =>
    rcases h with ⟨h | ⟨o, h⟩, _⟩ | ⟨o, its, n, hk, hc, _⟩
    · exact .base (.tup h)
    · exact .fTuple h
    · exact .kTuple hk hc
  | tupO h a n r => exact .base (.tup h)
  | insS => exact absurd rfl hn
  | insO => exact absurd rfl hn
  | insA => exact absurd rfl hn
  | dKS h l r => rcases h with ⟨h | ⟨o, h⟩, _⟩; exact .base (.dK h); exact .fDict h
  | dKO h a n l r => exact .base (.dK h)
  | dTS h l r => exact absurd rfl hn
  | dTO h a n l r => exact .base (.dT h)
  | exc0 => exact absurd rfl hn
  | exc1 => exact absurd rfl hn
end
end FP

namespace FP
open PySem PySem.Spec PyProof.Rows L2

/-! ### statements -/
/-- what a block comes to -/
inductive Out where
  | nx (ρ : Env)
  | rt (d : D)
  | bk (ρ : Env)
  | ct (ρ : Env)
  | er (C : Addr) (fs : List (Str × V)) (ρ : Env)
/-- an exception's dict -/
def XdOk (A : Own) (H : Hp) (d : Option Addr) (fs : List (Str × V)) : Prop := (d = none ∧ fs = []) ∨ ∃ dd, d = some dd ∧ Sh1 A H dd (.xd fs)
/-- between two places of a run: B is owned at first, B' behind -/
structure Step (B : List Addr) (H : Hp) (B' : List Addr) (H' : Hp) : Prop where
  keep : ∀ a o, H a = some o → a ∉ B → H' a = some o
  live : ∀ a, H a ≠ none → H' a ≠ none
  fresh : ∀ a ∈ B', a ∈ B ∨ H a = none
theorem Step.refl {B : List Addr} {H : Hp} : Step B H B H := ⟨fun _ _ h _ => h, fun _ h => h, fun _ h => .inl h⟩
theorem Step.trans {B B1 B2 : List Addr} {H H1 H2 : Hp} (s : Step B H B1 H1) (t : Step B1 H1 B2 H2) : Step B H B2 H2 where
  keep := fun a o h n => t.keep a o (s.keep a o h n) fun z => (s.fresh a z).elim n fun z => by rw [z] at h; cases h
  live := fun a h => t.live a (s.live a h)
  fresh := fun a h => by
    rcases t.fresh a h with h | h
    · exact s.fresh a h
    · refine .inr ?_
      cases e : H a with
      | none => rfl
      | some o => exact absurd h (s.live a (by rw [e]; simp))
theorem Step.ex {B B' : List Addr} {H H' : Hp} (e : Ex H H') (h : ∀ a ∈ B', a ∈ B ∨ H a = none) : Step B H B' H' := ⟨fun a o h _ => e a o h, fun a h => e.ne h, h⟩
/-- A0: what the callers own; B: what is owned here -/
structure W0 (A0 : Own) (B : List Addr) (H : Hp) : Prop where
  live : ∀ a, A0 a → H a ≠ none
  apart : ∀ a, A0 a → a ∉ B
theorem W0.step {A0 : Own} {B B' : List Addr} {H H' : Hp} (w : W0 A0 B H) (s : Step B H B' H') : W0 A0 B' H' :=
  ⟨fun a h => s.live a (w.live a h), fun a h z => (s.fresh a z).elim (w.apart a h) (w.live a h)⟩
theorem W0.wa {K : PySem.W.Frag} {A0 : Own} {B : List Addr} {H : Hp} {σ : L2.St} {ρ : Env} (w : W0 A0 B H) (r : EnvR K (A0.and B) H σ ρ B) : WA (A0.and B) H := fun a h => h.elim (w.live a) fun h => (r.tracked a h).1
def Post (K : PySem.W.Frag) (W : WX) (A0 : Own) (H : Hp) (B : List Addr) (E : Ends) : Out → Prop
  | .nx ρ => ∀ H' σ' B', Step B H B' H' → EnvR K (A0.and B') H' σ' ρ B' → E.nx σ' H'
  | .bk ρ => ∀ H' σ' B', Step B H B' H' → EnvR K (A0.and B') H' σ' ρ B' → E.bk σ' H'
  | .ct ρ => ∀ H' σ' B', Step B H B' H' → EnvR K (A0.and B') H' σ' ρ B' → E.ct σ' H'
  | .rt d => ∀ v H' B', Step B H B' H' → Rp K (A0.and B') H' v d B' → E.rt v H'
  | .er C fs ρ => ∀ d H' σ' B', Step B H B' H' → EnvR K (A0.and B') H' σ' ρ B' → XdOk (A0.and B') H' d fs → W (.ref C) d σ' H'
def Run (K : PySem.W.Frag) (W : WX) (t : TS) (ρ : Env) (o : Out) : Prop := ∀ (A0 : Own) (H : Hp) (σ : L2.St) (B : List Addr) (E : Ends), W0 A0 B H → EnvR K (A0.and B) H σ ρ B → Post K W A0 H B E o → t E σ H
theorem Post.step {K : PySem.W.Frag} {W : WX} {A0 : Own} {H H' : Hp} {B B' : List Addr} {E : Ends} {o : Out} (s : Step B H B' H') (p : Post K W A0 H B E o) : Post K W A0 H' B' E o := by
  cases o with
  | nx ρ => exact fun H2 σ2 B2 s2 r => p H2 σ2 B2 (s.trans s2) r
  | bk ρ => exact fun H2 σ2 B2 s2 r => p H2 σ2 B2 (s.trans s2) r
  | ct ρ => exact fun H2 σ2 B2 s2 r => p H2 σ2 B2 (s.trans s2) r
  | rt d => exact fun v H2 B2 s2 r => p v H2 B2 (s.trans s2) r
  | er C fs ρ => exact fun d H2 σ2 B2 s2 r => p d H2 σ2 B2 (s.trans s2) r

section
variable {K : PySem.W.Frag} {W : WX} {ρ ρ' ρ2 : Env} {t u ts : TS} {o : Out} {te : TE} {tt : TT} {d x : D} {i : Nat}
theorem run_next : Run K W tNext ρ (.nx ρ) := fun A0 H σ B E w r p => p H σ B .refl r
theorem run_brk : Run K W tBreak ρ (.bk ρ) := fun A0 H σ B E w r p => p H σ B .refl r
theorem run_cont : Run K W tCont ρ (.ct ρ) := fun A0 H σ B E w r p => p H σ B .refl r
theorem run_seq (h1 : Run K W t ρ (.nx ρ')) (h2 : Run K W u ρ' o) : Run K W (tSeq t u) ρ o := fun A0 H σ B E w r p =>
  h1 A0 H σ B { E with nx := u E } w r fun H1 σ1 B1 s1 r1 => h2 A0 H1 σ1 B1 E (w.step s1) r1 (p.step s1)
/-- the first one leaves -/
theorem run_seq_rt (h1 : Run K W t ρ (.rt d)) : Run K W (tSeq t u) ρ (.rt d) := fun A0 H σ B E w r p => h1 A0 H σ B { E with nx := u E } w r p
theorem run_seq_bk (h1 : Run K W t ρ (.bk ρ')) : Run K W (tSeq t u) ρ (.bk ρ') := fun A0 H σ B E w r p => h1 A0 H σ B { E with nx := u E } w r p
theorem run_seq_er {C : Addr} {fs : List (Str × V)} (h1 : Run K W t ρ (.er C fs ρ')) : Run K W (tSeq t u) ρ (.er C fs ρ') := fun A0 H σ B E w r p => h1 A0 H σ B { E with nx := u E } w r p
theorem run_seq_ct (h1 : Run K W t ρ (.ct ρ')) : Run K W (tSeq t u) ρ (.ct ρ') := fun A0 H σ B E w r p => h1 A0 H σ B { E with nx := u E } w r p
/-- the whole world behind an expression -/
theorem and_and {A : Own} {B C : List Addr} {a : Addr} : ((A.and B).and C) a ↔ (A.and (C ++ B)) a := by
  simp only [Own.and, List.mem_append]
  constructor
  · rintro ((h | h) | h)
    · exact .inl h
    · exact .inr (.inr h)
    · exact .inr (.inl h)
  · rintro (h | h | h)
    · exact .inl (.inl h)
    · exact .inr h
    · exact .inl (.inr h)
/-- an expression within a run -/
theorem EvS.run (h : EvS K te ρ d) {A0 : Own} {H : Hp} {σ : L2.St} {B : List Addr} (w : W0 A0 B H) (r : EnvR K (A0.and B) H σ ρ B) {Q : VK}
    (q : ∀ v H' C, Ex H H' → Fresh H C → EnvR K (A0.and (C ++ B)) H' σ ρ B → Rp K (A0.and (C ++ B)) H' v d C → (∀ a ∈ C, a ∉ B) → Q v H') : te σ H Q :=
  h (A0.and B) H σ B (w.wa r) r Q fun v H1 C e f p => by
    refine q v H1 C e f ?_ ?_ fun a h z => (r.tracked a z).1 (f a h)
    · exact (r.keep (keep_and (w.wa r) e f fun a h => .inr h)).keep ⟨fun a o h n => ⟨h, fun z => n (and_and.mpr z)⟩, fun a o m h => ⟨h, .inr (List.mem_append_right _ m)⟩⟩
    · exact p.keep _ ⟨fun a o h n => ⟨h, fun z => n (and_and.mpr z)⟩, fun a o m h => ⟨h, .inr (List.mem_append_left _ m)⟩⟩
theorem run_asg (h : EvS K te ρ d) : Run K W (tAsg te (gName i)) ρ (.nx (ρ.set i (some d))) := fun A0 H σ B E w r p =>
  h.run w r fun v H1 C e f r1 p1 n => by
    obtain ⟨B', r2, s⟩ := r1.set p1 n i
    refine p H1 _ B' (.ex e fun a h => (s a h).elim (fun z => .inr (f a z)) .inl) (r2.keep (keep_less (fun a z => z.imp id fun z => ?_) fun a h => .inr h))
    exact List.mem_append.mpr (s a z)
theorem run_drop (h : EvS K te ρ d) : Run K W (tDrop te) ρ (.nx ρ) := fun A0 H σ B E w r p =>
  h.run w r fun v H1 C e f r1 p1 n => p H1 σ B (.ex e fun a h => .inl h) (r1.keep (keep_less (fun a z => z.imp id fun z => List.mem_append_right _ z) fun a h => .inr h))
theorem run_ret (h : EvS K te ρ d) : Run K W (tRet te) ρ (.rt d) := fun A0 H σ B E w r p =>
  h.run w r fun v H1 C e f r1 p1 n => p v H1 C (.ex e fun a h => .inr (f a h)) (p1.keep _ (keep_less (fun a z => z.imp id fun z => List.mem_append_left _ z) fun a h => .inr h))
theorem run_retN : Run K W tRetN ρ (.rt .non) := fun A0 H σ B E w r p => p .non H [] (.ex Ex.rfl' fun _ h => nomatch h) (.sc _)
/-- what a name owns is handed back -/
theorem run_ret_own {d : D} (h : ρ[i]? = some (some d)) : Run K W (tRet (tVar i)) ρ (.rt d) := fun A0 H σ B E w r p => by
  obtain ⟨v, C, h1, h2, h3⟩ := r.get h
  refine ⟨v, h1, p v H C (.ex Ex.rfl' fun a h => .inl (h3 a h)) (h2.keep _ (keep_less (fun a z => z.imp id (h3 a)) fun a h => .inr h))⟩
theorem EvT.run {b : Bool} (h : EvT K tt ρ b) {A0 : Own} {H : Hp} {σ : L2.St} {B : List Addr} (w : W0 A0 B H) (r : EnvR K (A0.and B) H σ ρ B) {Q : Bool → Hp → Prop}
    (q : ∀ H', Step B H B H' → EnvR K (A0.and B) H' σ ρ B → Q b H') : tt σ H Q :=
  h (A0.and B) H σ B (w.wa r) r Q fun H1 e => q H1 (.ex e fun _ h => .inl h) (et_step (w.wa r) r e).2
theorem run_if {b : Bool} (h : EvT K tt ρ b) (h1 : b = true → Run K W t ρ o) (h2 : b = false → Run K W u ρ o) : Run K W (tIfS tt t u) ρ o := fun A0 H σ B E w r p =>
  h.run w r fun H1 s r1 => by
    cases b with
    | true => exact h1 rfl A0 H1 σ B E (w.step s) r1 (p.step s)
    | false => exact h2 rfl A0 H1 σ B E (w.step s) r1 (p.step s)
theorem run_seq_if {v : TS} {b : Bool} (h : EvT K tt ρ b) (h1 : b = true → Run K W (tSeq t v) ρ o) (h2 : b = false → Run K W (tSeq u v) ρ o) : Run K W (tSeq (tIfS tt t u) v) ρ o := fun A0 H σ B E w r p =>
  h.run w r fun H1 s r1 => by
    cases b with
    | true => exact h1 rfl A0 H1 σ B E (w.step s) r1 (p.step s)
    | false => exact h2 rfl A0 H1 σ B E (w.step s) r1 (p.step s)
theorem run_skip (h : Run K W t ρ o) : Run K W (tSeq tNext t) ρ o := run_seq run_next h
theorem run_weak (h : Run K W t ρ (.nx ρ')) (k : Weak ρ' ρ2) : Run K W t ρ (.nx ρ2) := fun A0 H σ B E w r p =>
  h A0 H σ B E w r fun H1 σ1 B1 s r1 => by
    obtain ⟨B2, r2, s2⟩ := r1.weak k
    refine p H1 σ1 B2 (s.trans (.ex Ex.rfl' fun a h => .inl (s2 a h))) (r2.keep (keep_less (fun a z => z.imp id (s2 a)) fun a h => .inr h))
theorem run_weak_ct (h : Run K W t ρ (.ct ρ')) (k : Weak ρ' ρ2) : Run K W t ρ (.ct ρ2) := fun A0 H σ B E w r p =>
  h A0 H σ B E w r fun H1 σ1 B1 s r1 => by
    obtain ⟨B2, r2, s2⟩ := r1.weak k
    refine p H1 σ1 B2 (s.trans (.ex Ex.rfl' fun a h => .inl (s2 a h))) (r2.keep (keep_less (fun a z => z.imp id (s2 a)) fun a h => .inr h))
theorem run_pre (k : Weak ρ ρ') (h : Run K W t ρ' o) : Run K W t ρ o := fun A0 H σ B E w r p => by
  obtain ⟨B2, r2, s2⟩ := r.weak k
  have s : Step B H B2 H := .ex Ex.rfl' fun a h => .inl (s2 a h)
  exact h A0 H σ B2 E (w.step s) (r2.keep (keep_less (fun a z => z.imp id (s2 a)) fun a h => .inr h)) (p.step s)
/-- a name's value is given up: shared from now on -/
theorem EnvR.frzAt {A : Own} {H : Hp} {σ : L2.St} {ρ : Env} {B : List Addr} (r : EnvR K A H σ ρ B) : ∀ {i : Nat} {d : D}, ρ[i]? = some (some d) → ∃ B', (∀ a ∈ B', a ∈ B) ∧ ∀ A' : Own, (∀ a, A' a → A a) → (∀ a ∈ B', A' a) → (∀ a ∈ B, a ∉ B' → ¬ A' a) →
    EnvR K A' H σ (ρ.set i (some d.frz)) B' := by
  induction r with
  | nil => intro i d h; simp at h
  | any r ih =>
    intro i d h
    cases i with
    | zero => simp at h
    | succ i =>
      obtain ⟨B', s, k⟩ := ih (i := i) (by simpa using h)
      exact ⟨B', s, fun A' h1 h2 h3 => .any (k A' h1 h2 h3)⟩
  | @val v d0 σ ρ B1 B2 r1 r2 n ih =>
    intro i d h
    cases i with
    | zero =>
      have e : d0 = d := by simpa using h
      subst e
      refine ⟨B2, fun a h => List.mem_append_right _ h, fun A' h1 h2 h3 => .val (B := []) ?_ (r2.keep (keep_less h1 h2)) (fun _ h => nomatch h)⟩
      refine r1.loose _ ⟨fun a o e n => ⟨e, fun z => n (h1 a z)⟩, fun a o hb e => ⟨e, h3 a (List.mem_append_left _ hb) (n a hb)⟩⟩
    | succ i =>
      obtain ⟨B', s, k⟩ := ih (i := i) (by simpa using h)
      refine ⟨B1 ++ B', fun a h => (List.mem_append.mp h).elim (List.mem_append_left _) fun h => List.mem_append_right _ (s a h), fun A' h1 h2 h3 => .val (r1.keep _ (keep_less h1 fun a h => h2 a (List.mem_append_left _ h))) (k A' h1 (fun a h => h2 a (List.mem_append_right _ h)) fun a h m => h3 a (List.mem_append_right _ h) fun z => ?_) fun a h z => n a h (s a z)⟩
      rcases List.mem_append.mp z with z | z
      · exact n a z h
      · exact m z
theorem run_frz {d : D} (i : Nat) (h : ρ[i]? = some (some d)) (k : Run K W t (ρ.set i (some d.frz)) o) : Run K W t ρ o := fun A0 H σ B E w r p => by
  obtain ⟨B', s, f⟩ := r.frzAt h
  have st : Step B H B' H := .ex Ex.rfl' fun a h => .inl (s a h)
  refine k A0 H σ B' E (w.step st) (f (A0.and B') (fun a z => z.imp id (s a)) (fun a h => .inr h) fun a h m z => z.elim (fun z => w.apart a z h) m) (p.step st)
/-- xs.append(e) of a name's own list -/
theorem RpAll.snoc {A : Own} {H : Hp} {xs : List V} {ds : List D} {B C : List Addr} {v : V} {d : D} (r : RpAll K A H xs ds B) (q : Rp K A H v d C) (n : ∀ a ∈ B, a ∉ C) : RpAll K A H (xs ++ [v]) (ds ++ [d]) (B ++ C) := by
  have := r.app (.cons q .nil fun _ _ h => nomatch h) (C := C ++ []) (by simpa using n)
  rwa [List.append_nil] at this
/-- an owned object's content is changed: what the others lean on stays -/
theorem keep_upd {A : Own} {H : Hp} {B : List Addr} {a : Addr} {o : HO} (ha : A a) (n : a ∉ B) (hB : ∀ b ∈ B, A b) : Keep A H B A (upd H a o) :=
  ⟨fun b u e m => ⟨by rw [upd_ne fun z => m (by rw [z]; exact ha)]; exact e, m⟩, fun b u m e => ⟨by rw [upd_ne fun z => n (by rw [← z]; exact m)]; exact e, hB b m⟩⟩
/-- a name's own object turns: all else that is leant on is kept -/
theorem EnvR.mut {A : Own} {H : Hp} {σ : L2.St} {ρ : Env} {B : List Addr} (r : EnvR K A H σ ρ B) : ∀ {i : Nat} {d : D}, ρ[i]? = some (some d) → ∃ v Bi, σ[i]? = some (some v) ∧ Rp K A H v d Bi ∧ (∀ a ∈ Bi, a ∈ B) ∧
    ∀ (A' : Own) (H' : Hp) (d' : D) (B' : List Addr), (∀ B0, (∀ a ∈ B0, a ∈ B ∧ a ∉ Bi) → Keep A H B0 A' H') → Rp K A' H' v d' B' → (∀ a ∈ B', a ∈ Bi ∨ a ∉ B) →
      ∃ B2, EnvR K A' H' σ (ρ.set i (some d')) B2 ∧ ∀ a ∈ B2, a ∈ B' ∨ a ∈ B := by
  induction r with
  | nil => intro i d h; simp at h
  | any r ih =>
    intro i d h
    cases i with
    | zero => simp at h
    | succ i =>
      obtain ⟨v, Bi, h1, h2, h3, k⟩ := ih (i := i) (by simpa using h)
      refine ⟨v, Bi, by simpa using h1, h2, h3, fun A' H' d' B' kp p s => ?_⟩
      obtain ⟨B2, e, s2⟩ := k A' H' d' B' kp p s
      exact ⟨B2, .any e, s2⟩
  | @val v0 d0 σ ρ B1 B2 r1 r2 n ih =>
    intro i d h
    cases i with
    | zero =>
      have e : d0 = d := by simpa using h
      subst e
      refine ⟨v0, B1, by simp, r1, fun a h => List.mem_append_left _ h, fun A' H' d' B' kp p s => ⟨B' ++ B2, .val p (r2.keep (kp B2 fun a h => ⟨List.mem_append_right _ h, fun z => n a z h⟩)) fun a h z => ?_, fun a h => ?_⟩⟩
      · rcases s a h with q | q
        · exact n a q z
        · exact q (List.mem_append_right _ z)
      · exact (List.mem_append.mp h).imp id fun z => List.mem_append_right _ z
    | succ i =>
      obtain ⟨v, Bi, h1, h2, h3, k⟩ := ih (i := i) (by simpa using h)
      refine ⟨v, Bi, by simpa using h1, h2, fun a h => List.mem_append_right _ (h3 a h), fun A' H' d' B' kp p s => ?_⟩
      obtain ⟨B3, e, s3⟩ := k A' H' d' B' (fun B0 h0 => kp B0 fun a h => ⟨List.mem_append_right _ (h0 a h).1, (h0 a h).2⟩) p (fun a h => (s a h).imp id fun z q => z (List.mem_append_right _ q))
      refine ⟨B1 ++ B3, .val (r1.keep _ (kp B1 fun a h => ⟨List.mem_append_left _ h, fun z => n a h (h3 a z)⟩)) e fun a h z => ?_, fun a h => ?_⟩
      · rcases s3 a z with q | q
        · rcases s a q with q | q
          · exact n a h (h3 a q)
          · exact q (List.mem_append_left _ h)
        · exact n a h q
      · rcases List.mem_append.mp h with h | h
        · exact .inr (List.mem_append_left _ h)
        · exact (s3 a h).imp id fun z => List.mem_append_right _ z
theorem run_append {ds : List D} (hi : ρ[i]? = some (some (.lst true ds))) (he : EvS K te ρ d) (hl : ds.length < sizeLine) :
    Run K W (tDrop (tBM K "list" rAppend (tVar i) (tCons te tNil))) ρ (.nx (ρ.set i (some (.lst true (ds ++ [d]))))) := fun A0 H σ B E w r p => by
  obtain ⟨v, Bi, h1, h2, h3, _⟩ := r.mut hi
  cases h2 with
  | @lstO a xs _ B1 ha hA hn r1 =>
  refine ⟨.ref a, h1, .inl ⟨rfl, _, .inl (.inl ha)⟩, ?_⟩
  refine he.run w r fun v1 H1 C e f r2 q2 n2 => ?_
  obtain ⟨v', Bi', h1', h2', h3', k⟩ := r2.mut hi
  rw [h1] at h1'
  cases h1'
  have ha' := e _ _ ha
  cases h2' with
  | @lstO _ xs' _ B1' ha2 hA' hn' r1' =>
  rw [ha'] at ha2
  cases ha2
  refine ⟨a, xs, v1, rfl, rfl, ha', by rw [r1.len]; exact hl, ?_⟩
  have na : a ∉ C := fun z => n2 a z (h3' a List.mem_cons_self)
  have n1 : ∀ b ∈ B1', b ∉ C := fun b hb z => n2 b z (h3' b (List.mem_cons_of_mem _ hb))
  have q := r1'.snoc q2 n1
  have kk : ∀ B0, a ∉ B0 → (∀ b ∈ B0, (A0.and (C ++ B)) b) → Keep (A0.and (C ++ B)) H1 B0 (A0.and (C ++ B)) (upd H1 a (.lst (xs ++ [v1]))) := fun B0 z hB => keep_upd hA' z hB
  obtain ⟨B2, e2, s2⟩ := k (A0.and (C ++ B)) (upd H1 a (.lst (xs ++ [v1]))) (.lst true (ds ++ [d])) (a :: (B1' ++ C))
    (fun B0 h0 => kk B0 (fun z => (h0 a z).2 List.mem_cons_self) fun b hb => .inr (List.mem_append_right _ (h0 b hb).1))
    (.lstO upd_same hA' (fun z => (List.mem_append.mp z).elim hn' na) (q.keep _ (kk _ (fun z => (List.mem_append.mp z).elim hn' na) fun b hb => (q.tracked _ b hb).2)))
    (fun b hb => (List.mem_cons.mp hb).elim (fun z => .inl (z ▸ List.mem_cons_self)) fun hb => (List.mem_append.mp hb).elim (fun z => .inl (List.mem_cons_of_mem _ z)) fun z => .inr (n2 b z))
  have s2' : ∀ b ∈ B2, b ∈ C ∨ b ∈ B := fun b hb => by
    rcases s2 b hb with z | z
    · rcases List.mem_cons.mp z with z | z
      · rw [z]; exact .inr (h3' a List.mem_cons_self)
      · rcases List.mem_append.mp z with z | z
        · exact .inr (h3' b (List.mem_cons_of_mem _ z))
        · exact .inl z
    · exact .inr z
  refine p _ σ B2 ⟨fun b o hb nb => ?_, fun b hb => ?_, fun b hb => ?_⟩ (e2.keep (keep_less (fun b z => z.imp id fun z => List.mem_append.mpr (s2' b z)) fun b hb => .inr hb))
  · rw [upd_ne fun z => nb (by rw [z]; exact h3 a List.mem_cons_self)]
    exact e _ _ hb
  · by_cases z : b = a
    · rw [z, upd_same]; simp
    · rw [upd_ne z]; exact e.ne hb
  · exact (s2' b hb).elim (fun z => .inr (f b z)) .inl
end

/-! ### loops -/
/-- a target takes an item; of a comprehension's own names vs nothing is left behind -/
def Takes (K : PySem.W.Frag) (g : TG) (own : Option (List Nat)) (x : D) (ρ ρ' : Env) : Prop := ∀ (A : Own) (H : Hp) (σ : L2.St) (B : List Addr) (v : V), WA A H → EnvR K A H σ ρ B → Rp K A H v x [] → ∀ Q : L2.St → Hp → Prop,
  (∀ σ' B', (∀ vs, own = some vs → wipe σ' vs = wipe σ vs) → (∀ a ∈ B', a ∈ B) → EnvR K A H σ' ρ' B' → Q σ' H) → g v σ H Q
theorem wipe_comm (σ : L2.St) (j : Nat) : ∀ vs, wipe (σ.set j none) vs = (wipe σ vs).set j none
  | [] => rfl
  | v :: vs => by
    unfold wipe
    rw [wipe_comm σ j vs]
    by_cases h : j = v
    · rw [h]
    · exact (List.set_comm _ _ h)
theorem wipe_set {j : Nat} {y : Option V} : ∀ {vs : List Nat} {σ : L2.St}, j ∈ vs → wipe (σ.set j y) vs = wipe σ vs
  | v :: vs, σ, h => by
    unfold wipe
    rcases List.mem_cons.mp h with h | h
    · subst h
      rw [← wipe_comm, ← wipe_comm, List.set_set]
    · rw [wipe_set h]
theorem wipe_wipe {σ : L2.St} : ∀ vs, wipe (wipe σ vs) vs = wipe σ vs
  | [] => rfl
  | v :: vs => by
    show (wipe ((wipe σ vs).set v none) vs).set v none = _
    rw [wipe_comm, wipe_wipe vs, List.set_set]
    rfl
def wipeE (ρ : Env) : List Nat → Env
  | [] => ρ
  | v :: vs => (wipeE ρ vs).set v none
section
variable {K : PySem.W.Frag} {W : WX} {A : Own} {H : Hp} {σ : L2.St} {ρ ρ' ρ2 : Env} {B : List Addr} {t u ts tb : TS} {o : Out} {te : TE} {tt : TT} {d x : D} {i : Nat} {g : TG} {ds : List D} {wi : TI} {vs : List Nat}
theorem EnvR.drop (r : EnvR K A H σ ρ B) : ∀ i, ∃ B', EnvR K A H (σ.set i none) (ρ.set i none) B' ∧ ∀ a ∈ B', a ∈ B := by
  induction r with
  | nil => exact fun i => ⟨[], .nil, fun _ h => h⟩
  | any r ih =>
    intro i
    cases i with
    | zero => exact ⟨_, .any r, fun _ h => h⟩
    | succ i =>
      obtain ⟨B', e, s⟩ := ih i
      exact ⟨B', .any e, s⟩
  | val r1 r2 n ih =>
    intro i
    cases i with
    | zero => exact ⟨_, .any r2, fun _ h => List.mem_append_right _ h⟩
    | succ i =>
      obtain ⟨B', e, s⟩ := ih i
      exact ⟨_, .val r1 e fun a h z => n a h (s a z), fun a h => (List.mem_append.mp h).elim (List.mem_append_left _) fun z => List.mem_append_right _ (s a z)⟩
theorem EnvR.wipe (r : EnvR K A H σ ρ B) : ∀ vs, ∃ B', EnvR K A H (L2.wipe σ vs) (wipeE ρ vs) B' ∧ ∀ a ∈ B', a ∈ B
  | [] => ⟨B, r, fun _ h => h⟩
  | v :: vs => by
    obtain ⟨B1, r1, s1⟩ := r.wipe vs
    obtain ⟨B2, r2, s2⟩ := r1.drop v
    exact ⟨B2, r2, fun a h => s1 a (s2 a h)⟩
theorem takes_name {own : Option (List Nat)} {j : Nat} (h : ∀ vs, own = some vs → j ∈ vs) : Takes K (gName j) own x ρ (ρ.set j (some x)) := fun A H σ B v w r q Q k => by
  obtain ⟨B', r', s⟩ := r.set q (fun _ h => nomatch h) j
  exact k _ B' (fun vs e => wipe_set (h vs e)) (fun a h => (s a h).elim (fun z => nomatch z) id) r'
/-- a source of items -/
def Walks (K : PySem.W.Frag) (wi : TI) (ρ : Env) (ds : List D) : Prop := ∀ (A : Own) (H : Hp) (σ : L2.St) (B : List Addr), WA A H → EnvR K A H σ ρ B → ∀ R : It → Hp → Prop,
  (∀ J H1, Ex H H1 → (∀ i A' H', Keep A H1 [] A' H' → WA A' H' → (ds.length ≤ i → J.stop i H') ∧
    (∀ d, ds[i]? = some d → J.go i H' ∧ ∀ x H'', J.yld i H' x H'' → Ex H' H'' ∧ Rp K A' H'' x d [])) → R J H1) → wi σ H R
theorem RpAll.get0 {xs : List V} (r : RpAll K A H xs ds []) {i : Nat} {x : V} {d : D} (h : xs[i]? = some x) (h' : ds[i]? = some d) : Rp K A H x d [] := by
  obtain ⟨x', C, hx, rx, cs⟩ := r.get h'
  rw [h] at hx
  cases hx
  have : C = [] := by
    cases C with
    | nil => rfl
    | cons c _ => exact nomatch cs c List.mem_cons_self
  subst this
  exact rx
theorem RpAll.at0 {xs : List V} (r : RpAll K A H xs ds []) {i : Nat} {d : D} (h' : ds[i]? = some d) : ∃ x, xs[i]? = some x ∧ Rp K A H x d [] := by
  obtain ⟨x, _, hx, _⟩ := r.get h'
  exact ⟨x, hx, r.get0 hx h'⟩
/-- a list, a tuple that nobody changes -/
theorem walks_list (h : EvS K te ρ (.lst false ds)) : Walks K (iList K te) ρ ds := fun A H σ B w r R k =>
  h A H σ B w r _ fun v H1 C e f p1 => by
    obtain rfl := p1.shd _ rfl
    rw [Own.and_nil] at p1
    cases p1 with
    | @lstS a xs _ hs ra =>
    have hq0 : ∀ {A' H'}, Keep A H1 [] A' H' → SqL K H' a xs := fun kp => hs.elim (fun hs => .inl (hs.keep kp).1) .inr
    refine ⟨a, rfl, ⟨xs, hs.imp (fun h => h.1) id⟩, k _ H1 e fun i A' H' kp w' => ?_⟩
    have hq : SqL K H' a xs := hq0 kp
    refine ⟨fun hi => ⟨xs, hq, by rw [ra.len]; exact hi⟩, fun d hd => ?_⟩
    obtain ⟨x, hx, rx⟩ := ra.at0 hd
    refine ⟨⟨xs, x, hq, hx⟩, fun y H'' hy => ?_⟩
    obtain ⟨rfl, fy⟩ := hy
    have ey := fy xs hq
    rw [hx] at ey
    cases ey
    exact ⟨Ex.rfl', rx.keep _ kp⟩
theorem walks_tup (h : EvS K te ρ (.tup false ds)) : Walks K (iTup K te) ρ ds := fun A H σ B w r R k =>
  h A H σ B w r _ fun v H1 C e f p1 => by
    obtain rfl := p1.shd _ rfl
    rw [Own.and_nil] at p1
    cases p1 with
    | @tupS a xs _ hs ra =>
    have hq0 : ∀ {A' H'}, Keep A H1 [] A' H' → SqT K H' a xs := fun kp => hs.elim (fun hs => .inl (hs.keep kp).1) .inr
    refine ⟨a, rfl, ⟨xs, hs.elim (fun h => .inl h.1) .inr⟩, k _ H1 e fun i A' H' kp w' => ?_⟩
    have hq : SqT K H' a xs := hq0 kp
    refine ⟨fun hi => ⟨xs, hq, by rw [ra.len]; exact hi⟩, fun d hd => ?_⟩
    obtain ⟨x, hx, rx⟩ := ra.at0 hd
    refine ⟨⟨xs, x, hq, hx⟩, fun y H'' hy => ?_⟩
    obtain ⟨rfl, fy⟩ := hy
    have ey := fy xs hq
    rw [hx] at ey
    cases ey
    exact ⟨Ex.rfl', rx.keep _ kp⟩
/-- the ints of a range -/
def rng (lo : Int) (n : Nat) : List D := (List.range n).map fun k => .int (lo + (k : Nat))
theorem rng_len (lo : Int) (n : Nat) : (rng lo n).length = n := by simp [rng]
theorem rng_get {lo : Int} {n i : Nat} {d : D} (h : (rng lo n)[i]? = some d) : i < n ∧ d = .int (lo + (i : Nat)) := by
  unfold rng at h
  rw [List.getElem?_map] at h
  by_cases hi : i < n
  · rw [List.getElem?_range hi] at h
    exact ⟨hi, (Option.some.inj h).symm⟩
  · rw [List.getElem?_eq_none (by simpa using hi)] at h
    cases h
theorem walks_itr {lo : Int} {n i : Nat} {A' : Own} {H' : Hp} : ((rng lo n).length ≤ i → (Itr lo n).stop i H') ∧ (∀ d, (rng lo n)[i]? = some d → (Itr lo n).go i H' ∧ ∀ x H'', (Itr lo n).yld i H' x H'' → Ex H' H'' ∧ Rp K A' H'' x d []) := by
  refine ⟨fun h => by rw [rng_len] at h; exact h, fun d hd => ?_⟩
  obtain ⟨h1, rfl⟩ := rng_get hd
  refine ⟨h1, fun x H'' hy => ?_⟩
  obtain ⟨rfl, rfl⟩ := hy
  exact ⟨Ex.rfl', .sc _⟩
theorem walks_rng1 {ta : TA} {j : Int} (h : EvA K ta ρ [.int j]) (h1 : -2 ^ 62 ≤ j) (h2 : j < 2 ^ 62) : Walks K (iRng1 ta) ρ (rng 0 j.toNat) := fun A H σ B w r R k =>
  h A H σ B w r _ fun vs H1 C e f p1 => by
    obtain ⟨x, rfl, p2⟩ := p1.one
    cases p2
    exact ⟨j, rfl, h1, h2, k _ H1 e fun i A' H' kp w' => walks_itr⟩
theorem walks_rng2 {ta : TA} {i j : Int} (h : EvA K ta ρ [.int i, .int j]) (h1 : -2 ^ 62 ≤ i ∧ i < 2 ^ 62 ∧ -2 ^ 62 ≤ j ∧ j < 2 ^ 62) : Walks K (iRng2 ta) ρ (rng i (j - i).toNat) := fun A H σ B w r R k =>
  h A H σ B w r _ fun vs H1 C e f p1 => by
    obtain ⟨x, y, _, _, rfl, p2, p3, _⟩ := p1.two
    cases p2
    cases p3
    exact ⟨i, j, rfl, h1, k _ H1 e fun i A' H' kp w' => walks_itr⟩
/-- a text's sgns -/
def sgns (a : Str) : List D := a.cps.toList.map fun c => .str ⟨#[c]⟩
theorem walks_str {a : Str} (h : EvS K te ρ (.str a)) : Walks K (iStr te) ρ (sgns a) := fun A H σ B w r R k =>
  h A H σ B w r _ fun v H1 C e f p1 => by
    cases p1
    refine ⟨a, rfl, k _ H1 e fun i A' H' kp w' => ⟨fun hi => ?_, fun d hd => ?_⟩⟩
    · show a.cps.size ≤ i
      simpa [sgns] using hi
    · unfold sgns at hd
      rw [List.getElem?_map] at hd
      cases hc : a.cps.toList[i]? with
      | none => rw [hc] at hd; cases hd
      | some c =>
        rw [hc] at hd
        have hd' : D.str ⟨#[c]⟩ = d := Option.some.inj hd
        subst hd'
        refine ⟨?_, fun x H'' hy => ?_⟩
        · show i < a.cps.size
          have := (List.getElem?_eq_some_iff.mp hc).1
          simpa using this
        · obtain ⟨rfl, c', hc', rfl⟩ := hy
          have : c' = c := by
            have h2 : a.cps.toList[i]? = some c' := by simpa using hc'
            rw [hc] at h2
            exact (Option.some.inj h2).symm
          subst this
          exact ⟨Ex.rfl', .sc _⟩
/-- enumerate of a list -/
def enumd (ds : List D) : List D := ds.mapIdx fun i d => .tup false [.int (i : Nat), d]
theorem walks_enum {ta : TA} (h : EvA K ta ρ [.lst false ds]) : Walks K (iEnum K ta) ρ (enumd ds) := fun A H σ B w r R k =>
  h A H σ B w r _ fun vs H1 C e f p1 => by
    obtain ⟨x, rfl, p2⟩ := p1.one
    obtain rfl := p2.shd _ rfl
    rw [Own.and_nil] at p2
    cases p2 with
    | @lstS a xs _ hs ra =>
    have hq0 : ∀ {A' H'}, Keep A H1 [] A' H' → SqL K H' a xs := fun kp => hs.elim (fun hs => .inl (hs.keep kp).1) .inr
    refine ⟨a, xs, rfl, hs.imp (fun h => h.1) id, k _ H1 e fun i A' H' kp w' => ?_⟩
    have hq : SqL K H' a xs := hq0 kp
    refine ⟨fun hi => ⟨xs, hq, by rw [ra.len]; simpa [enumd] using hi⟩, fun d hd => ?_⟩
    unfold enumd at hd
    rw [List.getElem?_mapIdx] at hd
    cases hd0 : ds[i]? with
    | none => rw [hd0] at hd; cases hd
    | some d0 =>
      rw [hd0] at hd
      have hd' : D.tup false [.int (i : Nat), d0] = d := Option.some.inj hd
      subst hd'
      obtain ⟨x, hx, rx⟩ := ra.at0 hd0
      refine ⟨⟨xs, x, hq, hx⟩, fun y H'' hy => ?_⟩
      obtain ⟨T, x', rfl, hT, rfl, fy⟩ := hy
      have ey := fy xs hq
      rw [hx] at ey
      cases ey
      have nT : ¬ A' T := fun z => w' T z hT
      refine ⟨Ex.new hT, .tupS (.inl ⟨.inl upd_same, nT⟩) (RpAll.cons (B := []) (C := []) (.sc _) (RpAll.cons (B := []) (C := []) ((rx.keep _ kp).keep _ ⟨fun b o hb nb => ⟨Ex.new hT b o hb, nb⟩, fun _ _ h => nomatch h⟩) .nil fun _ h => nomatch h) fun _ h => nomatch h)⟩
/-- zip of two lists -/
def zipd (ds es : List D) : List D := List.zipWith (fun d e => .tup false [d, e]) ds es
theorem walks_zip {ta : TA} {es : List D} (h : EvA K ta ρ [.lst false ds, .lst false es]) : Walks K (iZip K ta) ρ (zipd ds es) := fun A H σ B w r R k =>
  h A H σ B w r _ fun vs H1 C e f p1 => by
    obtain ⟨x, y, _, _, rfl, p2, p3, rfl, _⟩ := p1.two
    obtain rfl := p2.shd _ rfl
    obtain rfl := p3.shd _ rfl
    rw [List.append_nil, Own.and_nil] at p2 p3
    cases p2 with
    | @lstS a xs _ hs ra =>
    cases p3 with
    | @lstS b ys _ hs' rb =>
    have hq0 : ∀ {A' H'}, Keep A H1 [] A' H' → SqL K H' a xs := fun kp => hs.elim (fun hs => .inl (hs.keep kp).1) .inr
    have hq1 : ∀ {A' H'}, Keep A H1 [] A' H' → SqL K H' b ys := fun kp => hs'.elim (fun hs => .inl (hs.keep kp).1) .inr
    refine ⟨a, b, xs, ys, rfl, hs.imp (fun h => h.1) id, hs'.imp (fun h => h.1) id, k _ H1 e fun i A' H' kp w' => ?_⟩
    have hq : SqL K H' a xs := hq0 kp
    have hq' : SqL K H' b ys := hq1 kp
    refine ⟨fun hi => ⟨xs, ys, hq, hq', ?_⟩, fun d hd => ?_⟩
    · rw [ra.len, rb.len]
      simp only [zipd, List.length_zipWith] at hi
      omega
    · unfold zipd at hd
      rw [List.getElem?_zipWith] at hd
      cases h1 : ds[i]? with
      | none => simp [h1] at hd
      | some d0 =>
        cases h2 : es[i]? with
        | none => simp [h1, h2] at hd
        | some e0 =>
          simp only [h1, h2] at hd
          have hd' : D.tup false [d0, e0] = d := Option.some.inj hd
          subst hd'
          obtain ⟨x, hx, rx⟩ := ra.at0 h1
          obtain ⟨y, hy, ry⟩ := rb.at0 h2
          refine ⟨⟨xs, ys, x, y, hq, hq', hx, hy⟩, fun z H'' hz => ?_⟩
          obtain ⟨T, x', y', rfl, hT, rfl, fx, fy⟩ := hz
          have ex := fx xs hq
          have ey := fy ys hq'
          rw [hx] at ex
          rw [hy] at ey
          cases ex
          cases ey
          have nT : ¬ A' T := fun z => w' T z hT
          have kT : Keep A' H' [] A' (upd H' T (.tup [x, y])) := ⟨fun b o hb nb => ⟨Ex.new hT b o hb, nb⟩, fun _ _ h => nomatch h⟩
          exact ⟨Ex.new hT, .tupS (.inl ⟨.inl upd_same, nT⟩) (RpAll.cons (B := []) (C := []) ((rx.keep _ kp).keep _ kT) (RpAll.cons (B := []) (C := []) ((ry.keep _ kp).keep _ kT) .nil fun _ h => nomatch h) fun _ h => nomatch h)⟩
/-- reversed of a list -/
theorem walks_rev {ta : TA} (h : EvA K ta ρ [.lst false ds]) : Walks K (iRev K ta) ρ ds.reverse := fun A H σ B w r R k =>
  h A H σ B w r _ fun vs H1 C e f p1 => by
    obtain ⟨x, rfl, p2⟩ := p1.one
    obtain rfl := p2.shd _ rfl
    rw [Own.and_nil] at p2
    cases p2 with
    | @lstS a xs _ hs ra =>
    have hq0 : ∀ {A' H'}, Keep A H1 [] A' H' → SqL K H' a xs := fun kp => hs.elim (fun hs => .inl (hs.keep kp).1) .inr
    refine ⟨a, xs, rfl, hs.imp (fun h => h.1) id, k _ H1 e fun i A' H' kp w' => ?_⟩
    have hq : SqL K H' a xs := hq0 kp
    refine ⟨fun hi => by show xs.length ≤ i; rw [ra.len]; simpa using hi, fun d hd => ?_⟩
    have hi : i < ds.length := by
      have := (List.getElem?_eq_some_iff.mp hd).1
      simpa using this
    have hd0 : ds[xs.length - 1 - i]? = some d := by
      rw [ra.len, ← List.getElem?_reverse hi]
      exact hd
    obtain ⟨x, hx, rx⟩ := ra.at0 hd0
    refine ⟨⟨by rw [ra.len]; exact hi, xs, x, hq, hx⟩, fun y H'' hy => ?_⟩
    obtain ⟨rfl, fy⟩ := hy
    have ey := fy xs hq
    rw [hx] at ey
    cases ey
    exact ⟨Ex.rfl', rx.keep _ kp⟩
theorem keep_step {A0 : Own} {H H' : Hp} {B B' : List Addr} (w : W0 A0 B H) (s : Step B H B' H') : Keep (A0.and B) H [] (A0.and B') H' :=
  ⟨fun a o e n => ⟨s.keep a o e fun z => n (.inr z), fun z => z.elim (fun z => n (.inl z)) fun z => (s.fresh a z).elim (fun z => n (.inr z)) fun z => by rw [z] at e; cases e⟩, fun _ _ h => nomatch h⟩
/-- what follows the turns -/
inductive After (K : PySem.W.Frag) (W : WX) (g : TG) (tb : TS) (ds : List D) (R : Env) (m : Nat) : Out → Prop
  | all : m = ds.length → After K W g tb ds R m (.nx R)
  | ret {x : D} {ρ1 : Env} {d : D} : ds[m]? = some x → Takes K g none x R ρ1 → Run K W tb ρ1 (.rt d) → After K W g tb ds R m (.rt d)
  | err {x : D} {ρ1 ρ2 : Env} {C : Addr} {fs : List (Str × V)} : ds[m]? = some x → Takes K g none x R ρ1 → Run K W tb ρ1 (.er C fs ρ2) → After K W g tb ds R m (.er C fs ρ2)
  | brk {x : D} {ρ1 ρ2 : Env} : ds[m]? = some x → Takes K g none x R ρ1 → Run K W tb ρ1 (.bk ρ2) → After K W g tb ds R m (.nx ρ2)
theorem run_for (hw : Walks K wi ρ ds) (R : Nat → Env) (m : Nat) (hm : m ≤ ds.length) (h0 : Weak ρ (R 0))
    (hs : ∀ k x, k < m → ds[k]? = some x → ∃ ρ1, Takes K g none x (R k) ρ1 ∧ (Run K W tb ρ1 (.nx (R (k + 1))) ∨ Run K W tb ρ1 (.ct (R (k + 1)))))
    (he : After K W g tb ds (R m) m o) : Run K W (tFor wi g tb) ρ o := fun A0 H σ B E w r p => by
  refine hw (A0.and B) H σ B (w.wa r) r _ fun J H1 e1 hJ => ?_
  have s1 : Step B H B H1 := .ex e1 fun a h => .inl h
  have w1 := w.step s1
  have r1 : EnvR K (A0.and B) H1 σ ρ B := (et_step (w.wa r) r e1).2
  refine ⟨fun i c σ' H' => i ≤ m ∧ c = m - i ∧ ∃ B', Step B H1 B' H' ∧ EnvR K (A0.and B') H' σ' (R i) B', ⟨m, Nat.zero_le _, rfl, ?_⟩, ?_⟩
  · obtain ⟨B2, r2, s2⟩ := r1.weak h0
    exact ⟨B2, .ex Ex.rfl' fun a h => .inl (s2 a h), r2.keep (keep_less (fun a z => z.imp id (s2 a)) fun a h => .inr h)⟩
  · rintro i c σ' H' ⟨hi, rfl, B', s', r'⟩
    have w' := w1.step s'
    obtain ⟨hstop, hgo⟩ := hJ i (A0.and B') H' (keep_step w1 s') (w'.wa r')
    -- one item of the source: the target takes it
    have turn : ∀ x ρ1, ds[i]? = some x → Takes K g none x (R i) ρ1 → ∀ (E' : Ends) (o' : Out), Run K W tb ρ1 o' → (∀ H2, Ex H' H2 → Post K W A0 H2 B' E' o') →
        J.go i H' ∧ ∀ y H'', J.yld i H' y H'' → g y σ' H'' fun σ2 H2 => tb E' σ2 H2 := fun x ρ1 hx tk E' o' run post => by
      obtain ⟨h1, h2⟩ := hgo x hx
      refine ⟨h1, fun y H'' hy => ?_⟩
      obtain ⟨e2, ry⟩ := h2 y H'' hy
      obtain ⟨w2, r2⟩ := et_step (w'.wa r') r' e2
      refine tk (A0.and B') H'' σ' B' y w2 r2 ry _ fun σ2 B2 _ sb r3 => ?_
      have s2 : Step B' H'' B2 H'' := .ex Ex.rfl' fun a h => .inl (sb a h)
      have w3 : W0 A0 B' H'' := w'.step (.ex e2 fun a h => .inl h)
      exact run A0 H'' σ2 B2 E' (w3.step s2) (r3.keep (keep_less (fun a z => z.imp id (sb a)) fun a h => .inr h)) ((post H'' e2).step s2)
    by_cases hlt : i < m
    · refine .inr ?_
      obtain ⟨x, hx⟩ : ∃ x, ds[i]? = some x := ⟨ds[i], by simp [Nat.lt_of_lt_of_le hlt hm]⟩
      obtain ⟨ρ1, tk, run⟩ := hs i x hlt hx
      let N : L2.St → Hp → Prop := fun σ2 H2 => ∃ B2, Step B H1 B2 H2 ∧ EnvR K (A0.and B2) H2 σ2 (R (i + 1)) B2
      have hN : ∀ σ2 H2, N σ2 H2 → ∃ c', c' < m - i ∧ i + 1 ≤ m ∧ c' = m - (i + 1) ∧ ∃ B', Step B H1 B' H2 ∧ EnvR K (A0.and B') H2 σ2 (R (i + 1)) B' := fun σ2 H2 hn => ⟨m - (i + 1), by omega, hlt, rfl, hn⟩
      have pn : ∀ H2, Ex H' H2 → ∀ H3 σ3 B3, Step B' H2 B3 H3 → EnvR K (A0.and B3) H3 σ3 (R (i + 1)) B3 → N σ3 H3 := fun H2 e2 H3 σ3 B3 s3 r3 => ⟨B3, s'.trans ((Step.ex e2 fun a h => .inl h).trans s3), r3⟩
      rcases run with run | run
      · obtain ⟨h1, h2⟩ := turn x ρ1 hx tk { E with nx := N, ct := N, bk := E.nx } _ run fun H2 e2 => pn H2 e2
        exact ⟨h1, N, hN, h2⟩
      · obtain ⟨h1, h2⟩ := turn x ρ1 hx tk { E with nx := N, ct := N, bk := E.nx } _ run fun H2 e2 => pn H2 e2
        exact ⟨h1, N, hN, h2⟩
    · have : i = m := by omega
      subst this
      cases he with
      | all hl => exact .inl ⟨hstop (by omega), p H' σ' B' (s1.trans s') r'⟩
      | @ret x ρ1 d hx tk run =>
        refine .inr ?_
        obtain ⟨h1, h2⟩ := turn x ρ1 hx tk { E with nx := fun _ _ => False, ct := fun _ _ => False, bk := E.nx } _ run fun H2 e2 => (p.step (s1.trans (s'.trans (Step.ex e2 fun a h => .inl h))) : Post K W A0 H2 B' E (.rt d))
        exact ⟨h1, _, fun _ _ h => h.elim, h2⟩
      | @err x ρ1 ρ2 C fs hx tk run =>
        refine .inr ?_
        obtain ⟨h1, h2⟩ := turn x ρ1 hx tk { E with nx := fun _ _ => False, ct := fun _ _ => False, bk := E.nx } _ run fun H2 e2 => (p.step (s1.trans (s'.trans (Step.ex e2 fun a h => .inl h))) : Post K W A0 H2 B' E (.er C fs ρ2))
        exact ⟨h1, _, fun _ _ h => h.elim, h2⟩
      | @brk x ρ1 ρ2 hx tk run =>
        refine .inr ?_
        obtain ⟨h1, h2⟩ := turn x ρ1 hx tk { E with nx := fun _ _ => False, ct := fun _ _ => False, bk := E.nx } _ run fun H2 e2 H3 σ3 B3 s3 r3 => p H3 σ3 B3 (s1.trans (s'.trans ((Step.ex e2 fun a h => .inl h).trans s3))) r3
        exact ⟨h1, _, fun _ _ h => h.elim, h2⟩
/-- no turn leaves -/
theorem run_forA {α : Type} {xs : List α} {inj : α → D} (hw : Walks K wi ρ (xs.map inj)) (R : Nat → Env) (h0 : Weak ρ (R 0)) (hR : R xs.length = ρ')
    (hs : ∀ k x, xs[k]? = some x → ∃ ρ1, Takes K g none (inj x) (R k) ρ1 ∧ (Run K W tb ρ1 (.nx (R (k + 1))) ∨ Run K W tb ρ1 (.ct (R (k + 1))))) : Run K W (tFor wi g tb) ρ (.nx ρ') := by
  refine run_for hw R xs.length (by rw [List.length_map]; exact Nat.le_refl _) h0 (fun k x hk hx => ?_) ?_
  · rw [List.getElem?_map] at hx
    cases hc : xs[k]? with
    | none => rw [hc] at hx; cases hx
    | some a =>
      rw [hc] at hx
      cases Option.some.inj hx
      exact hs k a hc
  · rw [← hR]
    exact .all (by rw [List.length_map])
theorem run_forN {α : Type} {xs : List α} {inj : α → D} {j : Nat} (hw : Walks K wi ρ (xs.map inj)) (R : Nat → Env) (h0 : Weak ρ (R 0)) (hR : R xs.length = ρ')
    (hs : ∀ k x, xs[k]? = some x → Run K W tb ((R k).set j (some (inj x))) (.nx (R (k + 1)))) : Run K W (tFor wi (gName j) tb) ρ (.nx ρ') :=
  run_forA hw R h0 hR fun k x hx => ⟨_, takes_name (fun _ h => nomatch h), .inl (hs k x hx)⟩
end
end FP

namespace FP
open PySem PySem.Spec PyProof.Rows L2

/-! ### comprehensions -/
section
variable {K : PySem.W.Frag} {A : Own} {H : Hp} {σ : L2.St} {ρ ρ' ρ2 : Env} {B : List Addr} {t u ts tb : TS} {o : Out} {te : TE} {tt : TT} {d x : D} {i : Nat} {g : TG} {ds : List D} {wi : TI} {vs : List Nat}
theorem et_yes : EvT K tYes ρ true := fun _ H _ _ _ _ Q q => q H Ex.rfl'
theorem filter_take_snoc {α : Type} {ds : List α} {p : α → Bool} {f : α → D} {i : Nat} {x : α} (h : ds[i]? = some x) :
    ((ds.take (i + 1)).filter p).map f = ((ds.take i).filter p).map f ++ (if p x = true then [f x] else []) := by
  rw [List.take_add_one, h, List.filter_append, List.map_append]
  congr 1
  show (List.filter p [x]).map f = _
  cases hp : p x <;> simp [hp]
theorem ev_lc {α : Type} {ds : List α} {inj : α → D} (hw : Walks K wi ρ (ds.map inj)) (ρ1 : α → Env) (p : α → Bool) (f : α → D) (hl : ds.length ≤ 1000000)
    (ht : ∀ x ∈ ds, Takes K g (some vs) (inj x) (wipeE ρ vs) (ρ1 x)) (hb : ∀ x ∈ ds, EvT K tt (ρ1 x) (p x)) (he : ∀ x ∈ ds, p x = true → EvS K te (ρ1 x) (f x)) :
    EvS K (tLc wi g tt te vs) ρ (.lst true ((ds.filter p).map f)) := fun A H σ B w r Q q => by
  refine hw A H σ B w r _ fun J H1 e1 hJ Dl hD => ?_
  obtain ⟨w1, r1⟩ := et_step w r e1
  obtain ⟨Bw, rw1, sw⟩ := r1.wipe vs
  have rw2 : EnvR K A H1 (L2.wipe σ vs) (wipeE ρ vs) Bw := rw1
  refine ⟨fun i c H' => i ≤ ds.length ∧ c = ds.length - i ∧ ∃ acc Cs, Ex H1 H' ∧ H' Dl = some (.lst acc) ∧ RpAll K (A.and (Dl :: Cs)) H' acc (((ds.take i).filter p).map f) Cs ∧ Dl ∉ Cs ∧ (∀ a ∈ Cs, H1 a = none), ⟨ds.length, Nat.zero_le _, rfl, [], [], Ex.new hD, upd_same, .nil, (fun h => nomatch h), (fun _ h => nomatch h)⟩, ?_⟩
  rintro i c H' ⟨hi, rfl, acc, Cs, e2, hacc, racc, nD, fr⟩
  have wI : WA (A.and (Dl :: Cs)) H' := w1.and e2 fun a h => (List.mem_cons.mp h).elim (fun z => by rw [z, hacc]; simp) fun z => (racc.tracked _ a z).1
  have fr' : ∀ a ∈ Dl :: Cs, H1 a = none := fun a h => (List.mem_cons.mp h).elim (fun z => by rw [z]; exact hD) (fr a)
  have kI : ∀ B0, (∀ a ∈ B0, A a) → Keep A H1 B0 (A.and (Dl :: Cs)) H' := fun B0 hB => keep_and w1 e2 fr' hB
  obtain ⟨hstop, hgo⟩ := hJ i (A.and (Dl :: Cs)) H' (kI [] fun _ h => nomatch h) wI
  by_cases hlt : i < ds.length
  · refine .inr ?_
    obtain ⟨x, hx⟩ : ∃ x, ds[i]? = some x := ⟨ds[i], by simp [hlt]⟩
    have mx : x ∈ ds := List.mem_of_getElem? hx
    obtain ⟨h1, h2⟩ := hgo (inj x) (by rw [List.getElem?_map, hx]; rfl)
    refine ⟨h1, fun H'' => i + 1 ≤ ds.length ∧ ∃ acc Cs, Ex H1 H'' ∧ H'' Dl = some (.lst acc) ∧ RpAll K (A.and (Dl :: Cs)) H'' acc (((ds.take (i + 1)).filter p).map f) Cs ∧ Dl ∉ Cs ∧ (∀ a ∈ Cs, H1 a = none),
      fun H'' h => ⟨ds.length - (i + 1), by omega, h.1, rfl, h.2⟩, fun y H'' hy => ?_⟩
    obtain ⟨e3, ry⟩ := h2 y H'' hy
    have rI : EnvR K (A.and (Dl :: Cs)) H' (L2.wipe σ vs) (wipeE ρ vs) Bw := rw2.keep (kI Bw fun a h => (rw2.tracked a h).2)
    obtain ⟨w3, r3⟩ := et_step wI rI e3
    refine ht x mx (A.and (Dl :: Cs)) H'' (L2.wipe σ vs) Bw y w3 r3 ry _ fun σ2 B2 hwp sb r4 => ⟨?_, ?_⟩
    · rw [hwp vs rfl, wipe_wipe]
    refine hb x mx (A.and (Dl :: Cs)) H'' σ2 B2 w3 r4 _ fun H3 e4 => ?_
    have racc3 : RpAll K (A.and (Dl :: Cs)) H3 acc (((ds.take i).filter p).map f) Cs := racc.keep _ ⟨fun a o h n => ⟨e4 a o (e3 a o h), n⟩, fun a o m h => ⟨e4 a o (e3 a o h), .inr (List.mem_cons_of_mem _ m)⟩⟩
    have hacc3 : H3 Dl = some (.lst acc) := e4 _ _ (e3 _ _ hacc)
    have e13 : Ex H1 H3 := (e2.tr e3).tr e4
    cases hp : p x with
    | false =>
      refine ⟨hlt, acc, Cs, e13, hacc3, ?_, nD, fr⟩
      rw [filter_take_snoc hx, hp]
      simpa using racc3
    | true =>
      obtain ⟨w5, r5⟩ := et_step w3 r4 e4
      refine he x mx hp (A.and (Dl :: Cs)) H3 σ2 B2 w5 r5 _ fun z H4 C e5 f5 p5 => ?_
      have hacc4 : H4 Dl = some (.lst acc) := e5 _ _ hacc3
      have nC : ∀ a ∈ C, H3 a = none := f5
      have DC : Dl ∉ C := fun z => by rw [f5 Dl z] at hacc3; cases hacc3
      refine ⟨acc, hacc4, ?_, hlt, acc ++ [z], Cs ++ C, ?_, upd_same, ?_, ?_, ?_⟩
      · rw [racc.len, List.length_map]
        refine Nat.lt_of_le_of_lt (List.length_filter_le _ _) ?_
        rw [List.length_take]
        exact Nat.lt_of_le_of_lt (Nat.min_le_right _ _) (Nat.lt_of_le_of_lt hl (by decide))
      · intro a o h
        rw [upd_ne fun z => by rw [z, hD] at h; cases h]
        exact e5 a o (e13 a o h)
      · rw [filter_take_snoc hx, hp]
        have a4 : RpAll K ((A.and (Dl :: Cs)).and C) H4 acc (((ds.take i).filter p).map f) Cs := racc3.keep _ (keep_and w5 e5 f5 fun a h => .inr (List.mem_cons_of_mem _ h))
        have sn := a4.snoc p5 fun a h m => (racc3.tracked _ a h).1 (f5 a m)
        have sn2 := sn.keep _ (keep_upd (A := (A.and (Dl :: Cs)).and C) (a := Dl) (o := .lst (acc ++ [z])) (.inl (.inr List.mem_cons_self)) (fun h => (List.mem_append.mp h).elim nD DC) fun b hb => (sn.tracked _ b hb).2)
        have eqv : ∀ a, ((A.and (Dl :: Cs)).and C) a ↔ (A.and (Dl :: (Cs ++ C))) a := fun a => by simp [Own.and, or_assoc]
        exact sn2.keep _ ⟨fun a o e n => ⟨e, fun z => n ((eqv a).mpr z)⟩, fun a o m e => ⟨e, .inr (List.mem_cons_of_mem _ m)⟩⟩
      · exact fun h => (List.mem_append.mp h).elim nD DC
      · exact fun a h => (List.mem_append.mp h).elim (fr a) fun h => e13.back (f5 a h)
  · have : i = ds.length := by omega
    subst this
    refine .inl ⟨hstop (by rw [List.length_map]; exact Nat.le_refl _), ?_⟩
    rw [List.take_length] at racc
    refine q (.ref Dl) H' (Dl :: Cs) (e1.tr e2) (fun a h => e1.back (fr' a h)) (.lstO hacc (.inr List.mem_cons_self) nD racc)
theorem ev_lc0 {α : Type} {ds : List α} {inj : α → D} (hw : Walks K wi ρ (ds.map inj)) (ρ1 : α → Env) (f : α → D) (hl : ds.length ≤ 1000000)
    (ht : ∀ x ∈ ds, Takes K g (some vs) (inj x) (wipeE ρ vs) (ρ1 x)) (he : ∀ x ∈ ds, EvS K te (ρ1 x) (f x)) : EvS K (tLc wi g tYes te vs) ρ (.lst true (ds.map f)) := by
  have h := ev_lc (tt := tYes) hw ρ1 (fun _ => true) f hl ht (fun _ _ => et_yes) fun x hx _ => he x hx
  rw [List.filter_eq_self.mpr fun _ _ => rfl] at h
  exact h
/-- .. over a range by one name -/
theorem ev_lcR {lo : Int} {n j : Nat} (hw : Walks K wi ρ (rng lo n)) (f : Nat → D) (hl : n ≤ 1000000) (hj : j ∈ vs) (he : ∀ k, k < n → EvS K te ((wipeE ρ vs).set j (some (.int (lo + (k : Nat))))) (f k)) :
    EvS K (tLc wi (gName j) tYes te vs) ρ (.lst true ((List.range n).map f)) :=
  ev_lc0 (inj := fun k : Nat => .int (lo + k)) hw (fun k => (wipeE ρ vs).set j (some (.int (lo + k)))) f (by simpa using hl) (fun x _ => takes_name fun vs e => by cases e; exact hj) fun x hx => he x (by simpa using hx)
/-- .. over anything by one name -/
theorem ev_lcN {α : Type} {ds : List α} {inj : α → D} {j : Nat} (hw : Walks K wi ρ (ds.map inj)) (p : α → Bool) (f : α → D) (hl : ds.length ≤ 1000000) (hj : j ∈ vs) (hb : ∀ x ∈ ds, EvT K tt ((wipeE ρ vs).set j (some (inj x))) (p x))
    (he : ∀ x ∈ ds, p x = true → EvS K te ((wipeE ρ vs).set j (some (inj x))) (f x)) : EvS K (tLc wi (gName j) tt te vs) ρ (.lst true ((ds.filter p).map f)) :=
  ev_lc hw (fun x => (wipeE ρ vs).set j (some (inj x))) p f hl (fun x _ => takes_name fun vs e => by cases e; exact hj) hb he
theorem ev_lcM {α : Type} {ds : List α} {inj : α → D} {j : Nat} (hw : Walks K wi ρ (ds.map inj)) (f : α → D) (hl : ds.length ≤ 1000000) (hj : j ∈ vs)
    (he : ∀ x ∈ ds, EvS K te ((wipeE ρ vs).set j (some (inj x))) (f x)) : EvS K (tLc wi (gName j) tYes te vs) ρ (.lst true (ds.map f)) :=
  ev_lc0 hw (fun x => (wipeE ρ vs).set j (some (inj x))) f hl (fun x _ => takes_name fun vs e => by cases e; exact hj) he
end

/-! ### defs -/
/-- a def that changes nothing: what it gives for what -/
def spF (K : PySem.W.Frag) (R : List D → D → Prop) : Sp := fun vs H Q _ => ∃ (A : Own) (ds : List D) (z : D), WA A H ∧ RpAll K A H vs ds [] ∧ R ds z ∧ ∀ v H' C, Ex H H' → Fresh H C → Rp K (A.and C) H' v z C → Q v H'
section
variable {P : Program} {w : World} {K : PySem.W.Frag} {mg : Str → Option Value} {base : Heap}
theorem envR_of {A : Own} {H : Hp} (k : Nat) : ∀ {ds : List D} {vs : List V} {B : List Addr}, RpAll K A H vs ds B → EnvR K A H (vs.map some ++ List.replicate k none) (ds.map some ++ List.replicate k none) B
  | _, _, _, .nil => by
    induction k with
    | zero => exact .nil
    | succ k ih => exact .any ih
  | _, _, _, .cons r t n => .val r (envR_of k t) n
/-- the names' values at a def's entry -/
def env0 (N : List Str) (ds : List D) : Env := ds.map some ++ List.replicate (N.length - ds.length) none
/-- how a body may end -/
def Ends' (z : D) : Out → Prop
  | .rt d => d = z
  | .nx _ => z = .non
  | _ => False
theorem spF_len {R : List D → D → Prop} {n : Nat} (h : ∀ ds z, R ds z → ds.length = n) : ∀ vs H Q E, spF K R vs H Q E → vs.length = n := fun vs H Q E ⟨A, ds, z, _, r, hr, _⟩ => by rw [r.len]; exact h ds z hr
theorem ok_of {x qual : Str} {st : Stmt} {f : Addr} {fd : FuncData} {N ps : List Str} {k : Nat} {R : List D → D → Prop} (F : Fun K x qual st f fd) (S : FnScope N ps (defScope st)) (hlen : ∀ ds z, R ds z → ds.length = ps.length)
    (body : ∀ (cdv : Value) (A : Around) (outer : List PySem.Env) (s : Shared) (H : Hp) (E : XK), Room k (A.deeper (envOfC qual (defScope st) s.heap.objs.size f cdv)) →
      ∃ t, PSs (cxOf CX0 P w K mg base N qual (defScope st) f cdv A outer s H E).nox (defBody st) t ∧ ∀ ds z, R ds z → ∃ o, Run K (fun _ _ _ _ => False) t (env0 N ds) o ∧ Ends' z o) : FnOk P w K mg base CX0 (k + 1) f fd ps (spF K R) := by
  refine F.ok S (spF_len hlen) fun cdv A outer s H vs Q E hr h => ?_
  obtain ⟨t, ht, hrun⟩ := body cdv A outer s H E hr
  refine ⟨t, ht, ?_⟩
  obtain ⟨A0, ds, z, wa, ra, hR, q⟩ := h
  obtain ⟨o, run, he⟩ := hrun ds z hR
  have e0 : EnvR K (A0.and []) H (start N vs) (env0 N ds) [] := by
    rw [Own.and_nil]
    unfold L2.start env0
    rw [ra.len]
    exact envR_of _ ra
  refine run A0 H (start N vs) [] _ ⟨wa, fun _ _ h => nomatch h⟩ e0 ?_
  have st : ∀ {B' H'}, Step [] H B' H' → Ex H H' ∧ Fresh H B' := fun s => ⟨fun a o h => s.keep a o h fun z => (nomatch z), fun a h => (s.fresh a h).elim (fun z => nomatch z) id⟩
  cases o with
  | rt d =>
    intro v H' B' s r
    cases he
    exact q v H' B' (st s).1 (st s).2 r
  | nx ρ =>
    intro H' σ' B' s r
    cases he
    exact q .non H' [] (st s).1 (fun _ h => nomatch h) (.sc _)
  | bk ρ => exact he.elim
  | ct ρ => exact he.elim
  | er C fs ρ => exact he.elim
theorem cxK {CX : CXT} {N : List Str} {qual : Str} {scope : Scope} {f : Addr} {cd : Value} {A : Around} {outer : List PySem.Env} {s : Shared} {H : Hp} {E : XK} : (cxOf CX P w K mg base N qual scope f cd A outer s H E).K = K := rfl
/-- a call -/
theorem ev_fn {ρ : Env} {ta : TA} {ds : List D} {z : D} {R : List D → D → Prop} {E : XK} (ha : EvA K ta ρ ds) (hz : R (D.frzs ds) z) : EvS K (tCall (spF K R) [] E ta) ρ z := fun A H σ B w r Q q =>
  ha A H σ B w r _ fun vs H1 C e f p => by
    refine ⟨A, D.frzs ds, z, fun a h => e.ne (w a h), ?_, hz, fun v H2 C2 e2 f2 p2 => q v H2 C2 (e.tr e2) (f2.back e) p2⟩
    rw [List.append_nil]
    exact p.loose _ ⟨fun a o h n => ⟨h, fun z => n (.inl z)⟩, fun a o m h => ⟨h, fun z => w a z (f a m)⟩⟩
/-- a call without arguments -/
theorem ev_fn0 {ρ : Env} {z : D} {R : List D → D → Prop} {E : XK} (hz : R [] z) : EvS K (tCall (spF K R) [] E tNil) ρ z := ev_fn ea_nil hz
end
end FP

namespace FP
open PySem PySem.Spec PyProof.Rows L2

/-! ### given up is given up -/
mutual
theorem D.frz_frz : ∀ d : D, d.frz.frz = d.frz
  | .sc x => rfl
  | .lst o ds => by rw [D.frz, D.frz, D.frzs_frzs ds]
  | .tup o ds => by rw [D.frz, D.frz, D.frzs_frzs ds]
  | .ins o C fs ds => by rw [D.frz, D.frz, D.frzs_frzs ds]
  | .dK o ks ds => by rw [D.frz, D.frz, D.frzs_frzs ds]
  | .dT o ks ds => by rw [D.frz, D.frz, D.frzs_frzs ds]
  | .exc _ _ => by rw [D.frz]; rfl
theorem D.frzs_frzs : ∀ ds : List D, D.frzs (D.frzs ds) = D.frzs ds
  | [] => by rw [D.frzs, D.frzs]
  | d :: ds => by rw [D.frzs, D.frzs, D.frz_frz d, D.frzs_frzs ds]
end
theorem D.shd_frz : ∀ d : D, d.frz.shd = true
  | .sc x => rfl
  | .lst o ds => by rw [D.frz]; rfl
  | .tup o ds => by rw [D.frz]; rfl
  | .ins o C fs ds => by rw [D.frz]; rfl
  | .dK o ks ds => by rw [D.frz]; rfl
  | .dT o ks ds => by rw [D.frz]; rfl
  | .exc _ _ => rfl
theorem D.shd_of {d : D} (h : d.frz = d) : d.shd = true := by
  rw [← h]
  exact D.shd_frz d
theorem D.frzs1 {d : D} (h : d.frz = d) : D.frzs [d] = [d] := by rw [D.frzs, D.frzs, h]
theorem D.frzs_cons {d : D} {ds : List D} : D.frzs (d :: ds) = d.frz :: D.frzs ds := by rw [D.frzs]
theorem D.frzs_nil : D.frzs [] = [] := by rw [D.frzs]
theorem D.frzs_ints (ns : List Int) : D.frzs (ns.map D.int) = ns.map D.int := by
  induction ns with
  | nil => rw [List.map_nil, D.frzs]
  | cons n ns ih => rw [List.map_cons, D.frzs, ih]; rfl
theorem D.frzs_strs (ns : List Str) : D.frzs (ns.map D.str) = ns.map D.str := by
  induction ns with
  | nil => rw [List.map_nil, D.frzs]
  | cons n ns ih => rw [List.map_cons, D.frzs, ih]; rfl
theorem D.frzs_of {α : Type} {f : α → D} (xs : List α) (h : ∀ x ∈ xs, (f x).frz = f x) : D.frzs (xs.map f) = xs.map f := by
  induction xs with
  | nil => rw [List.map_nil, D.frzs]
  | cons n ns ih => rw [List.map_cons, D.frzs, ih fun x hx => h x (List.mem_cons_of_mem _ hx), h n List.mem_cons_self]

/-! ### slices, texts, truth -/
def rSl (K : PySem.W.Frag) : V → Option Int → Option Int → Hp → VK → Prop := fun x lo hi H Q => rSlL K x lo hi H Q ∨ rSlT K x lo hi H Q ∨ rSlS x lo hi H Q
theorem sl_any {X : Cx} : SlR X (rSl X.K) := SlR.or sl_list (SlR.or sl_tup sl_str)
def EvO (K : PySem.W.Frag) (to : TO) (ρ : Env) (o : Option Int) : Prop := ∀ (A : Own) (H : Hp) (σ : L2.St) (B : List Addr), WA A H → EnvR K A H σ ρ B → ∀ Q : Option Int → Hp → Prop, (∀ H', Ex H H' → Q o H') → to σ H Q
def cutX {α : Type} (ds : List α) (lo hi : Option Int) : List α := List.take (HT.sIx ds.length ds.length hi - HT.sIx ds.length 0 lo) (List.drop (HT.sIx ds.length 0 lo) ds)
section
variable {K : PySem.W.Frag} {A : Own} {H : Hp} {σ : L2.St} {ρ ρ' ρ2 : Env} {B : List Addr} {t u ts tb : TS} {o : Out} {te ta to tb : TE} {tt : TT} {d x z : D} {i : Nat} {g : TG} {ds : List D} {wi : TI} {vs : List Nat} {a b : Str}
theorem eo_some {i : Int} (h : EvS K te ρ (.int i)) : EvO K (tPart te) ρ (some i) := fun A H σ B w r Q q => h A H σ B w r _ fun v H1 C e f p => by
  cases p
  exact ⟨i, rfl, q H1 e⟩
theorem eo_none : EvO K (fun _ H Q => Q none H) ρ none := fun A H σ B w r Q q => q H Ex.rfl'
theorem RpAll.take : ∀ {ds : List D} {xs : List V} {B : List Addr} (n : Nat), RpAll K A H xs ds B → ∃ C, RpAll K A H (xs.take n) (ds.take n) C ∧ ∀ a ∈ C, a ∈ B
  | _, _, _, 0, r => ⟨[], .nil, fun _ h => nomatch h⟩
  | _, _, _, _ + 1, .nil => ⟨[], .nil, fun _ h => nomatch h⟩
  | _, _, _, n + 1, .cons r t m => by
    obtain ⟨C, h, s⟩ := RpAll.take n t
    exact ⟨_, .cons r h fun a h z => m a h (s a z), fun a h => (List.mem_append.mp h).elim (List.mem_append_left _) fun z => List.mem_append_right _ (s a z)⟩
theorem RpAll.drop : ∀ {ds : List D} {xs : List V} {B : List Addr} (n : Nat), RpAll K A H xs ds B → ∃ C, RpAll K A H (xs.drop n) (ds.drop n) C ∧ ∀ a ∈ C, a ∈ B
  | _, _, _, 0, r => ⟨_, r, fun _ h => h⟩
  | _, _, _, _ + 1, .nil => ⟨[], .nil, fun _ h => nomatch h⟩
  | _, _, _, n + 1, .cons r t m => by
    obtain ⟨C, h, s⟩ := RpAll.drop n t
    exact ⟨C, h, fun a h => List.mem_append_right _ (s a h)⟩
theorem RpAll.cut {xs : List V} (r : RpAll K A H xs ds B) (lo hi : Option Int) : ∃ C, RpAll K A H (cutV xs lo hi) (cutX ds lo hi) C ∧ ∀ a ∈ C, a ∈ B := by
  unfold cutV cutX
  rw [r.len]
  obtain ⟨C, h, s⟩ := r.drop (HT.sIx ds.length 0 lo)
  obtain ⟨C2, h2, s2⟩ := h.take (HT.sIx ds.length ds.length hi - HT.sIx ds.length 0 lo)
  exact ⟨C2, h2, fun a h => s a (s2 a h)⟩
theorem eo_step {A : Own} {H H1 : Hp} {σ : L2.St} {B C : List Addr} {v : V} (w : WA A H) (rr : EnvR K A H σ ρ B) (e : Ex H H1) (f : Fresh H C) (p : Rp K (A.and C) H1 v d C) : WA (A.and C) H1 ∧ EnvR K (A.and C) H1 σ ρ B :=
  ⟨w.and e fun a h => (p.tracked _ a h).1, rr.keep (keep_and w e f fun a h => (rr.tracked a h).2)⟩
theorem ev_sl {tl th : TO} {lo hi : Option Int} {r : V → Option Int → Option Int → Hp → VK → Prop} (h : EvS K te ρ d) (hl : EvO K tl ρ lo) (hh : EvO K th ρ hi) (hr : Op1 K (fun x H Q => r x lo hi H Q) d z) : EvS K (tSl r te tl th) ρ z := fun A H σ B w rr Q q =>
  h A H σ B w rr _ fun v1 H1 C1 e1 f1 p1 => by
    obtain ⟨w1, r1⟩ := eo_step w rr e1 f1 p1
    refine hl (A.and C1) H1 σ B w1 r1 _ fun H2 e2 => ?_
    obtain ⟨w2, r2⟩ := et_step w1 r1 e2
    refine hh (A.and C1) H2 σ B w2 r2 _ fun H3 e3 => ?_
    obtain ⟨w3, r3⟩ := et_step w2 r2 e3
    refine hr (A.and C1) H3 v1 C1 w3 (p1.keep _ ⟨fun a o h n => ⟨e3 a o (e2 a o h), n⟩, fun a o m h => ⟨e3 a o (e2 a o h), (p1.tracked _ a m).2⟩⟩) Q fun v H4 E e4 f4 p4 => ?_
    refine q v H4 E (((e1.tr e2).tr e3).tr e4) (fun a h => (f4 a h).elim (fun z => e1.back (e2.back (e3.back z))) (f1 a)) (p4.keep _ (keep_less (fun a h => h.imp .inl id) fun a h => .inr h))
theorem sl_lst {o : Bool} {lo hi : Option Int} : Op1 K (fun x H Q => rSl K x lo hi H Q) (.lst o ds) (.lst true (cutX ds lo hi)) := fun A H x B w p Q q => by
  obtain ⟨a, xs, B1, rfl, h1, r1, s1, _⟩ := p.lst
  obtain ⟨C, r2, s2⟩ := r1.cut lo hi
  refine .inl ⟨a, xs, rfl, h1, fun p hp => q _ _ _ (Ex.new hp) (fun c hc => ?_) (Rp.newL hp r2)⟩
  exact (List.mem_cons.mp hc).imp (fun z => by rw [z]; exact hp) fun z => s1 c (s2 c z)
theorem sl_st {lo hi : Option Int} (hl : a.length ≤ sizeLine) : Op1 K (fun x H Q => rSl K x lo hi H Q) (.str a) (.str (cutS a lo hi)) := op1_sc fun H Q q => .inr (.inr ⟨a, rfl, hl, q⟩)
/-- join, split -/
theorem ev_m1 {r : V → List V → Hp → VK → Prop} (h1 : EvS K to ρ (.str a)) (h2 : EvS K te ρ d) (hr : Op1 K (fun y H Q => r (.str a) [y] H Q) d z) : EvS K (tM1 r to te) ρ z := fun A H σ B w rr Q q =>
  h1 A H σ B w rr _ fun v1 H1 C1 e1 f1 p1 => by
    cases p1
    obtain ⟨w1, r1⟩ := et_step w rr e1
    refine ⟨⟨a, rfl⟩, h2 A H1 σ B w1 r1 _ fun v2 H2 C2 e2 f2 p2 => ?_⟩
    have w2 : WA (A.and C2) H2 := w1.and e2 fun a h => (p2.tracked _ a h).1
    refine hr (A.and C2) H2 v2 C2 w2 p2 Q fun v H4 E e4 f4 p4 => ?_
    exact q v H4 E ((e1.tr e2).tr e4) (fun a h => (f4 a h).elim (fun z => e1.back (e2.back z)) fun z => e1.back (f2 a z)) (p4.keep _ (keep_less (fun a h => h.imp .inl id) fun a h => .inr h))
theorem join_strs {o : Bool} {ys : List Str} (h : (ys.map fun x => x.length).sum + ys.length * a.length ≤ 16777216) :
    Op1 K (fun y H Q => ∃ a' p ys, V.str a = V.str a' ∧ [y] = [V.ref p] ∧ (SqL K H p (ys.map V.str) ∨ SqT K H p (ys.map V.str)) ∧ (ys.map fun x => x.length).sum + ys.length * a'.length ≤ 16777216 ∧ Q (V.str (Txt.join a' ys)) H) (.lst o (ys.map D.str)) (.str (Txt.join a ys)) := fun A H x B w p Q q => by
  obtain ⟨l, xs, B1, rfl, h1, r1, s1, _⟩ := p.lst
  rw [r1.strs] at h1
  exact ⟨a, l, ys, rfl, rfl, .inl h1, h, q _ H [] Ex.rfl' nofresh1 (.sc _)⟩
theorem split_str (hb : (b.length == 0) = false) (hl : a.length + 2 ≤ sizeLine) :
    Op1 K (fun y H Q => ∃ a' b, V.str a = V.str a' ∧ [y] = [V.str b] ∧ (b.length == 0) = false ∧ a'.length + 2 ≤ sizeLine ∧ rNewStrs (Txt.split a' b) H Q) (.str b) (.lst true ((Txt.split a b).map D.str)) := fun A H x B w p Q q => by
  cases p
  refine ⟨a, b, rfl, rfl, hb, hl, fun p hp => q _ _ _ (Ex.new hp) (fun c hc => ?_) (Rp.newL hp (RpAll.ofStrs _))⟩
  exact (List.mem_cons.mp hc).imp (fun z => by rw [z]; exact hp) fun z => nomatch z
/-! truth -/
def tru : D → Bool
  | .sc .non => false
  | .sc (.bl b) => b
  | .sc (.int i) => i != 0
  | .sc (.str s) => (s.length : Int) != 0
  | .lst _ ds => !ds.isEmpty
  | .tup _ ds => !ds.isEmpty
  | .dK _ _ ds => !ds.isEmpty
  | _ => true
def truOk : D → Prop
  | .sc .non => True
  | .sc (.bl _) => True
  | .sc (.int _) => True
  | .sc (.str s) => s.length ≤ sizeLine
  | .lst _ _ => True
  | .tup _ _ => True
  | _ => False
theorem isEmpty_len {α β : Type} {xs : List α} {ys : List β} (h : xs.length = ys.length) : xs.isEmpty = ys.isEmpty := by
  cases xs <;> cases ys <;> simp_all
theorem Rp.tru {v : V} (h : Rp K A H v d B) (ho : truOk d) : TruV K v H (tru d) := by
  cases h with
  | sc =>
    cases v with
    | non => rfl
    | bl b => rfl
    | int i => rfl
    | str s => exact ⟨ho, rfl⟩
    | _ => exact ho.elim
  | lstS h r => exact .inl ⟨_, h.imp (fun h => h.1) id, by rw [FP.tru, isEmpty_len r.len]⟩
  | lstO h a n r => exact .inl ⟨_, .inl (.inl h), by rw [FP.tru, isEmpty_len r.len]⟩
  | tupS h r => exact .inr (.inl ⟨_, h.imp (fun h => h.1) id, by rw [FP.tru, isEmpty_len r.len]⟩)
  | tupO h a n r => exact .inr (.inl ⟨_, .inl (.inl h), by rw [FP.tru, isEmpty_len r.len]⟩)
  | _ => exact ho.elim
theorem et_tru (h : EvS K ta ρ d) (ho : truOk d) : EvT K (fun σ H Q => ta σ H fun x H' => ∃ k, TruV K x H' k ∧ Q k H') ρ (tru d) := fun A H σ B w rr Q q => h A H σ B w rr _ fun v H1 C e f p =>
  ⟨_, p.tru ho, q H1 e⟩
theorem ev_notT (h : EvS K ta ρ d) (ho : truOk d) : EvS K (tNotT K ta) ρ (.bl !tru d) := fun A H σ B w rr Q q => h A H σ B w rr _ fun v H1 C e f p =>
  ⟨_, p.tru ho, q _ H1 [] e (fun _ h => nomatch h) (.sc _)⟩
/-- and, or of values: told by the first one's truth -/
theorem ev_andT (h1 : EvS K ta ρ d) (ho : truOk d) (h2 : tru d = true → EvS K tb ρ z) (h3 : tru d = false → z = d) : EvS K (tAndT K ta tb) ρ z := fun A H σ B w rr Q q => h1 A H σ B w rr _ fun v H1 C e f p => by
  refine ⟨_, p.tru ho, ?_⟩
  obtain ⟨w1, r1⟩ := et_step w rr e
  cases ht : FP.tru d with
  | true => exact h2 ht A H1 σ B w1 r1 Q fun v H2 C e2 f2 p => q v H2 C (e.tr e2) (f2.back e) p
  | false =>
    have := h3 ht
    subst this
    exact q v H1 C e f p
theorem ev_orT (h1 : EvS K ta ρ d) (ho : truOk d) (h2 : tru d = false → EvS K tb ρ z) (h3 : tru d = true → z = d) : EvS K (tOrT K ta tb) ρ z := fun A H σ B w rr Q q => h1 A H σ B w rr _ fun v H1 C e f p => by
  refine ⟨_, p.tru ho, ?_⟩
  obtain ⟨w1, r1⟩ := et_step w rr e
  cases ht : FP.tru d with
  | false => exact h2 ht A H1 σ B w1 r1 Q fun v H2 C e2 f2 p => q v H2 C (e.tr e2) (f2.back e) p
  | true =>
    have := h3 ht
    subst this
    exact q v H1 C e f p
/-- isinstance of a built-in class -/
theorem isi_ty {b : String} {r : Bool} (hn : tyN d ≠ "") (h : kitB (tyN d) b = some r) : OpC K (rIsis K) [d, .sc (.ty b)] (.bl r) := opc_sc fun A H xs B p Q q => by
  obtain ⟨x, y, _, _, rfl, p1, p2, _⟩ := p.two
  cases p2
  exact .inl ⟨x, .ty b, _, _, r, rfl, .ty b, p1.tyX hn, kit_ty h, q⟩
end
end FP

namespace FP
open PySem PySem.Spec PyProof.Rows L2

/-! ### == of data -/
mutual
def py : D → PyData
  | .sc .non => .none
  | .sc (.bl b) => .bool b
  | .sc (.int i) => .int i
  | .sc (.str s) => .str s
  | .sc _ => .none
  | .lst _ ds => .list (pys ds)
  | .tup _ ds => .tuple (pys ds)
  | .ins _ _ _ _ => .none
  | .dK _ _ _ => .none
  | .dT _ _ _ => .none
  | .exc _ _ => .none
def pys : List D → List PyData
  | [] => []
  | d :: ds => py d :: pys ds
end
theorem pys_map : ∀ ds : List D, pys ds = ds.map py
  | [] => by rw [pys]; rfl
  | d :: ds => by rw [pys, pys_map ds]; rfl
mutual
theorem py_frz : ∀ d : D, py d.frz = py d
  | .sc x => rfl
  | .lst o ds => by rw [D.frz, py, py, pys_frz ds]
  | .tup o ds => by rw [D.frz, py, py, pys_frz ds]
  | .ins o C fs ds => by rw [D.frz, py, py]
  | .dK o ks ds => by rw [D.frz, py, py]
  | .dT o ks ds => by rw [D.frz, py, py]
  | .exc _ _ => by rw [D.frz]
theorem pys_frz : ∀ ds : List D, pys (D.frzs ds) = pys ds
  | [] => by rw [D.frzs]
  | d :: ds => by rw [D.frzs, pys, pys, py_frz d, pys_frz ds]
end
/-- data that == may be asked of, at most n deep -/
def fit : Nat → D → Prop
  | _, .sc .non => True
  | _, .sc (.bl _) => True
  | _, .sc (.int _) => True
  | _, .sc (.str s) => (PyData.str s).canLay0 = true
  | n + 1, .lst _ ds => ∀ d ∈ ds, fit n d
  | n + 1, .tup _ ds => ∀ d ∈ ds, fit n d
  | _, _ => False
theorem canLayAll_of {ds : List PyData} (h : ∀ d ∈ ds, d.canLay0 = true) : PyData.canLayAll0 ds = true := by
  induction ds with
  | nil => rfl
  | cons d ds ih =>
    rw [PyData.canLayAll0, h d List.mem_cons_self, ih fun x hx => h x (List.mem_cons_of_mem _ hx)]
    rfl
theorem depthAll_of {n : Nat} {ds : List PyData} (h : ∀ d ∈ ds, d.depth ≤ n) : PyData.depthAll ds ≤ n := by
  induction ds with
  | nil => exact Nat.zero_le _
  | cons d ds ih =>
    rw [PyData.depthAll]
    exact Nat.max_le.mpr ⟨h d List.mem_cons_self, ih fun x hx => h x (List.mem_cons_of_mem _ hx)⟩
theorem fit_sc {n : Nat} {x : V} (h : fit n (.sc x)) : (py (.sc x)).canLay0 = true ∧ (py (.sc x)).depth = 0 ∧ ∀ K H, Dp K H x (py (.sc x)) := by
  cases x with
  | non => exact ⟨rfl, rfl, fun _ _ => .non⟩
  | bl b => exact ⟨rfl, rfl, fun _ _ => .bl b⟩
  | int i => exact ⟨rfl, rfl, fun _ _ => .int i⟩
  | str s =>
    refine ⟨?_, rfl, fun _ _ => .str s⟩
    cases n <;> exact h
  | _ => cases n <;> exact h.elim
theorem fit_lay : ∀ {n : Nat} {d : D}, fit n d → (py d).canLay0 = true ∧ (py d).depth ≤ n
  | 0, .sc x, h => ⟨(fit_sc h).1, Nat.le_of_eq (fit_sc h).2.1⟩
  | n + 1, .sc x, h => ⟨(fit_sc h).1, by rw [(fit_sc h).2.1]; exact Nat.zero_le _⟩
  | n + 1, .lst o ds, h => by
    have hh : ∀ d ∈ ds, fit n d := h
    rw [py, pys_map]
    refine ⟨?_, ?_⟩
    · rw [PyData.canLay0]
      exact canLayAll_of fun d hd => by
        obtain ⟨x, hx, rfl⟩ := List.mem_map.mp hd
        exact (fit_lay (hh x hx)).1
    · rw [PyData.depth]
      exact Nat.succ_le_succ (depthAll_of fun d hd => by
        obtain ⟨x, hx, rfl⟩ := List.mem_map.mp hd
        exact (fit_lay (hh x hx)).2)
  | n + 1, .tup o ds, h => by
    have hh : ∀ d ∈ ds, fit n d := h
    rw [py, pys_map]
    refine ⟨?_, ?_⟩
    · rw [PyData.canLay0]
      exact canLayAll_of fun d hd => by
        obtain ⟨x, hx, rfl⟩ := List.mem_map.mp hd
        exact (fit_lay (hh x hx)).1
    · rw [PyData.depth]
      exact Nat.succ_le_succ (depthAll_of fun d hd => by
        obtain ⟨x, hx, rfl⟩ := List.mem_map.mp hd
        exact (fit_lay (hh x hx)).2)
  | 0, .lst _ _, h => h.elim
  | 0, .tup _ _, h => h.elim
  | 0, .ins _ _ _ _, h => h.elim
  | _ + 1, .ins _ _ _ _, h => h.elim
  | 0, .dK _ _ _, h => h.elim
  | _ + 1, .dK _ _ _, h => h.elim
  | 0, .dT _ _ _, h => h.elim
  | _ + 1, .dT _ _ _, h => h.elim
  | 0, .exc _ _, h => h.elim
  | _ + 1, .exc _ _, h => h.elim
theorem fit_shaped {n : Nat} {d : D} (h : fit n d) (hn : n ≤ 64) : SeqAt.shaped (py d) = true := by
  unfold SeqAt.shaped
  rw [(fit_lay h).1, decide_eq_true (Nat.le_trans (fit_lay h).2 hn)]
  rfl
section
variable {K : PySem.W.Frag} {A : Own} {H : Hp}
theorem dpAll_of {n : Nat} (ih : ∀ {d : D} {v : V} {B : List Addr}, fit n d → Rp K A H v d B → Dp K H v (py d)) : ∀ {ds : List D} {vs : List V} {B : List Addr}, (∀ d ∈ ds, fit n d) → RpAll K A H vs ds B → DpAll K H vs (pys ds)
  | _, _, _, _, .nil => by rw [pys]; exact .nil
  | _, _, _, h, .cons r t _ => by rw [pys]; exact .cons (ih (h _ List.mem_cons_self) r) (dpAll_of ih (fun x hx => h x (List.mem_cons_of_mem _ hx)) t)
theorem Rp.dp : ∀ {n : Nat} {d : D} {v : V} {B : List Addr}, fit n d → Rp K A H v d B → Dp K H v (py d)
  | 0, .sc x, _, _, h, .sc _ => (fit_sc h).2.2 K H
  | n + 1, .sc x, _, _, h, .sc _ => (fit_sc h).2.2 K H
  | n + 1, .lst o ds, _, _, h, r => by
    obtain ⟨a, xs, C, rfl, h1, r1, _⟩ := r.lst
    rw [py]
    exact .lst h1 (dpAll_of (fun h r => Rp.dp h r) h r1)
  | n + 1, .tup o ds, _, _, h, r => by
    obtain ⟨a, xs, C, rfl, h1, r1, _⟩ := r.tup
    rw [py]
    exact .tup h1 (dpAll_of (fun h r => Rp.dp h r) h r1)
  | 0, .lst _ _, _, _, h, _ => h.elim
  | 0, .tup _ _, _, _, h, _ => h.elim
  | 0, .ins _ _ _ _, _, _, h, _ => h.elim
  | _ + 1, .ins _ _ _ _, _, _, h, _ => h.elim
  | 0, .dK _ _ _, _, _, h, _ => h.elim
  | _ + 1, .dK _ _ _, _, _, h, _ => h.elim
  | 0, .dT _ _ _, _, _, h, _ => h.elim
  | _ + 1, .dT _ _ _, _, _, h, _ => h.elim
  | 0, .exc _ _, _, _, h, _ => h.elim
  | _ + 1, .exc _ _, _, _, h, _ => h.elim
variable {d e z : D} {ds : List D} {ρ : Env} {a : Str} {to te : TE} {ta : TA}
def eqD (d e : D) : Bool := PyData.eqv (py d) (py e)
theorem eqD_rfl {n : Nat} (h : fit n d) (e1 : py d = py e) : eqD d e = true := by
  unfold eqD
  rw [← e1]
  exact SeqAt.eqv_refl _ (fit_lay h).1
theorem eq_data {n m : Nat} (h1 : fit n d) (h2 : fit m e) (hn : n ≤ 64) (hm : m ≤ 64) : Op2 K (rEqq K) d e (.bl (eqD d e)) := op2_bl fun A H x y B C p1 p2 Q q =>
  .inr ⟨_, _, p1.dp h1, p2.dp h2, fit_shaped h1 hn, fit_shaped h2 hm, q⟩
theorem ne_data {n m : Nat} (h1 : fit n d) (h2 : fit m e) (hn : n ≤ 64) (hm : m ≤ 64) : Op2 K (rNee K) d e (.bl (!eqD d e)) := op2_bl fun A H x y B C p1 p2 Q q =>
  .inr ⟨_, _, p1.dp h1, p2.dp h2, fit_shaped h1 hn, fit_shaped h2 hm, q⟩
/-! in -/
theorem RpAll.scs {A : Own} {H : Hp} : ∀ {ns : List V} {xs : List V} {B : List Addr}, RpAll K A H xs (ns.map D.sc) B → xs = ns
  | [], _, _, .nil => rfl
  | n :: ns, _, _, .cons r t _ => by
    cases r
    rw [RpAll.scs t]
theorem in_lst {o : Bool} {x : V} {xs : List V} (hx : flatV x = true) (ha : xs.all flatV = true) : Op2 K (rInn K) (.sc x) (.lst o (xs.map D.sc)) (.bl (inV x xs)) := op2_bl fun A H y z B C p1 p2 Q q => by
  cases p1
  obtain ⟨a, ys, _, rfl, h1, r1, _⟩ := p2.lst
  obtain rfl := r1.scs
  exact .inl ⟨a, _, rfl, .inl h1, hx, ha, q⟩
theorem in_tp {o : Bool} {x : V} {xs : List V} (hx : flatV x = true) (ha : xs.all flatV = true) : Op2 K (rInn K) (.sc x) (.tup o (xs.map D.sc)) (.bl (inV x xs)) := op2_bl fun A H y z B C p1 p2 Q q => by
  cases p1
  obtain ⟨a, ys, _, rfl, h1, r1, _⟩ := p2.tup
  obtain rfl := r1.scs
  exact .inl ⟨a, _, rfl, .inr h1, hx, ha, q⟩
theorem ni_lst {o : Bool} {x : V} {xs : List V} (hx : flatV x = true) (ha : xs.all flatV = true) : Op2 K (rNii K) (.sc x) (.lst o (xs.map D.sc)) (.bl (!inV x xs)) := op2_bl fun A H y z B C p1 p2 Q q => by
  cases p1
  obtain ⟨a, ys, _, rfl, h1, r1, _⟩ := p2.lst
  obtain rfl := r1.scs
  exact .inl ⟨a, _, rfl, .inl h1, hx, ha, q⟩
theorem ni_tp {o : Bool} {x : V} {xs : List V} (hx : flatV x = true) (ha : xs.all flatV = true) : Op2 K (rNii K) (.sc x) (.tup o (xs.map D.sc)) (.bl (!inV x xs)) := op2_bl fun A H y z B C p1 p2 Q q => by
  cases p1
  obtain ⟨a, ys, _, rfl, h1, r1, _⟩ := p2.tup
  obtain rfl := r1.scs
  exact .inl ⟨a, _, rfl, .inr h1, hx, ha, q⟩
theorem inV_strs {ys : List Str} : inV (.str a) (ys.map V.str) = decide (a ∈ ys) := by
  unfold inV
  rw [List.any_map]
  induction ys with
  | nil => rfl
  | cons y ys ih =>
    rw [List.any_cons, ih]
    show ((y == a) || _) = _
    by_cases hy : y = a
    · subst hy
      simp
    · have : (y == a) = false := by simp [hy]
      rw [this, Bool.false_or]
      simp [Ne.symm hy]
theorem flat_strs (ys : List Str) : (ys.map V.str).all flatV = true := by
  rw [List.all_map]
  exact List.all_eq_true.mpr fun _ _ => rfl
theorem flat_ints (ys : List Int) : (ys.map V.int).all flatV = true := by
  rw [List.all_map]
  exact List.all_eq_true.mpr fun _ _ => rfl
/-- in a list of texts -/
theorem in_strs {o : Bool} {ys : List Str} : Op2 K (rInn K) (.str a) (.lst o (ys.map D.str)) (.bl (decide (a ∈ ys))) := by
  have h := in_lst (K := K) (o := o) (x := .str a) (xs := ys.map V.str) rfl (flat_strs ys)
  rw [List.map_map, inV_strs] at h
  exact h
/-- a method of a text -/
theorem ev_bmS {r : V → List V → Hp → VK → Prop} (h1 : EvS K to ρ (.str a)) (h2 : EvA K ta ρ ds) (hr : OpC K (fun xs H Q => r (.str a) xs H Q) ds z) : EvS K (tBM K "str" r to ta) ρ z := fun A H σ B w rr Q q =>
  h1 A H σ B w rr _ fun v1 H1 C1 e1 f1 p1 => by
    cases p1
    obtain ⟨w1, r1⟩ := et_step w rr e1
    refine ⟨rfl, h2 A H1 σ B w1 r1 _ fun vs H2 C2 e2 f2 p2 => ?_⟩
    have w2 : WA (A.and C2) H2 := w1.and e2 fun a h => (p2.tracked _ a h).1
    refine hr (A.and C2) H2 vs C2 w2 p2 Q fun v H4 E e4 f4 p4 => ?_
    exact q v H4 E ((e1.tr e2).tr e4) (fun a h => (f4 a h).elim (fun z => e1.back (e2.back z)) fun z => e1.back (f2 a z)) (p4.keep _ (keep_less (fun a h => h.imp .inl id) fun a h => .inr h))
theorem sindex {b : Str} {i : Nat} {rest : List Nat} (h : Builtin.Str.occurrences a b 0 a.length 1 = i :: rest) :
    OpC K (fun xs H Q => ∃ a' b i rest, V.str a = .str a' ∧ xs = [.str b] ∧ Builtin.Str.occurrences a' b 0 a'.length 1 = i :: rest ∧ Q (.int (i : Nat)) H) [.str b] (.int (i : Nat)) := opc_sc fun A H xs B p Q q => by
  obtain ⟨x, rfl, p1⟩ := p.one
  cases p1
  exact ⟨a, b, i, rest, rfl, rfl, h, q⟩
theorem ev_dnew : EvS K tDNewK ρ (.dK true [] []) := fun A H σ B w rr Q q p hp => by
  refine q (.ref p) _ [p] (Ex.new hp) (fun a h => by rw [List.mem_singleton.mp h]; exact hp) ?_
  exact .dKO (ks := []) (xs := []) upd_same (.inr (List.mem_singleton.mpr rfl)) (fun h => nomatch h) rfl .nil
end
end FP

namespace FP
open PySem PySem.Spec PyProof.Rows L2

/-! ### the rules by a written part that is named (within a comprehension's block too) -/
section
variable {X : Cx} {K : PySem.W.Frag}
theorem op_plusK (e : X.K = K) : OpR X (binaryOp .Add) (rPlus K) := e ▸ op_plus
theorem op_eqqK (e : X.K = K) (hu : X.A.units + 64 < cLine) : OpR X (compareOp .Eq) (rEqq K) := e ▸ op_eqq hu
theorem op_neeK (e : X.K = K) (hu : X.A.units + 64 < cLine) : OpR X (compareOp .NotEq) (rNee K) := e ▸ op_nee hu
theorem op_lttK (e : X.K = K) (hu : X.A.units < cLine) : OpR X (compareOp .Lt) (rLtt K) := e ▸ op_ltt hu
theorem op_innK (e : X.K = K) : OpR X (compareOp .In) (rInn K) := e ▸ op_inn
theorem op_niiK (e : X.K = K) : OpR X (compareOp .NotIn) (rNii K) := e ▸ op_nii
theorem call_lennK (e : X.K = K) : CallR X (.builtin "len") (rLen K) := e ▸ call_lenn
theorem call_listOfK (e : X.K = K) : CallR X (.type "list") (rListOf K) := e ▸ call_listOf
theorem call_tupOfK (e : X.K = K) : CallR X (.type "tuple") (rTupOf K) := e ▸ call_tupOf
theorem call_isisK (e : X.K = K) : CallR X (.builtin "isinstance") (rIsis K) := e ▸ call_isis
theorem call_maxxK (e : X.K = K) (hc : X.calm = true) : CallR X (.builtin "max") (rMaxx K) := e ▸ call_maxx hc
theorem call_minnK (e : X.K = K) (hc : X.calm = true) : CallR X (.builtin "min") (rMinn K) := e ▸ call_minn hc
theorem cr_sumK (e : X.K = K) (hc : X.calm = true) : CallR X (.builtin "sum") (rSum K) := e ▸ cr_sum hc
theorem cr_allK (e : X.K = K) (hc : X.calm = true) : CallR X (.builtin "all") (rAll K) := e ▸ cr_all hc
theorem cr_anyK (e : X.K = K) (hc : X.calm = true) : CallR X (.builtin "any") (rAny K) := e ▸ cr_any hc
theorem ix_seqK (e : X.K = K) : IxR X (rIx K) := e ▸ ix_seq
theorem sl_anyK (e : X.K = K) : SlR X (rSl K) := e ▸ sl_any
theorem pi_listK {tg l : Expr} {tl : TE} (e : X.K = K) (hl : PE X l tl) : PI X tg l (iList K tl) := e ▸ pi_list hl
theorem pi_tupK {tg l : Expr} {tl : TE} (e : X.K = K) (hl : PE X l tl) : PI X tg l (iTup K tl) := e ▸ pi_tup hl
def tTruK (K : PySem.W.Frag) (ta : TE) : TT := fun σ H Q => ta σ H fun x H' => ∃ k, TruV K x H' k ∧ Q k H'
theorem pt_truthK {a : Expr} {ta : TE} (e : X.K = K) (h : PE X a ta) (hw : ∀ (whole : Sem Value), PySem.isTrue a X.env whole = do
          let v ← whole
          standAt a.pos
          holding [v] (truthy v)) : PT X a (tTruK K ta) := by
  have := pt_truth h hw
  rw [e] at this
  exact this
theorem pe_notTK {a : Expr} {ta : TE} {pos : Pos} (e : X.K = K) (h : PE X a ta) : PE X (Expr.UnaryOp UnaryOp.Not a pos) (tNotT K ta) := e ▸ pe_notT h
theorem pe_andTK {a b : Expr} {ta tb : TE} {rest : List Expr} {pos : Pos} (e : X.K = K) (h : PE X a ta) (h2 : PE X (Expr.BoolOp BoolOp.And (b :: rest) pos) tb) : PE X (Expr.BoolOp BoolOp.And (a :: b :: rest) pos) (tAndT K ta tb) := e ▸ pe_andT h h2
theorem pe_orTK {a b : Expr} {ta tb : TE} {rest : List Expr} {pos : Pos} (e : X.K = K) (h : PE X a ta) (h2 : PE X (Expr.BoolOp BoolOp.Or (b :: rest) pos) tb) : PE X (Expr.BoolOp BoolOp.Or (a :: b :: rest) pos) (tOrT K ta tb) := e ▸ pe_orT h h2
theorem pe_bmK {o e : Expr} {es : List Expr} {to : TE} {t : TA} {name : Str} {apos cpos : Pos} {T id : String} {r : V → List V → Hp → VK → Prop} (eK : X.K = K) (h1 : PlainAttrs T) (h2 : Slot T name id) (h3 : typeOf (Value.builtin id) = pure (Value.type "method_descriptor"))
    (h4 : MtR X id r) (h5 : PE X o to) (h6 : PA X (e :: es) t) (a1 : attributeBase o name X.env (eval o X.env) = eval o X.env := by rfl)
    (a2 : (((backTo cpos (starEach (e :: es) X.env)).all fun x => !x.fst) && (backToKw cpos (keywordEach [] X.env)).all (fun x => x.fst.isSome) && decide (((e :: es).length + ([] : List Keyword).length + if ([] : List Keyword).isEmpty = true then 0 else 1) < 30)) = true := by rfl)
    (a3 : (apos.endLine == cpos.line) = true := by rfl) (a4 : starEach (e :: es) X.env = (false, eval e X.env) :: starEach es X.env := by rfl) (a5 : ((backTo cpos (starEach es X.env)).any fun x => x.fst) = false := by rfl) :
    PE X ((o.Attribute name apos).Call (e :: es) [] cpos) (tBM K T r to t) := eK ▸ pe_bm h1 h2 h3 h4 h5 h6 a1 a2 a3 a4 a5
theorem pg_tupK {pos : Pos} {es : List Expr} {k : Nat} {t : TGs} {n : Nat} (e : X.K = K) (hc : X.calm = true) (h : PGs X es t) (h1 : (assignEach es X.env).length = n := by rfl) (h2 : List.findIdx? (fun x => x.fst) (assignEach es X.env) = none := by rfl) :
    PG X (Expr.Tuple es k pos) (gTup K n t) := e ▸ pg_tup hc h h1 h2
end
section
variable {K : PySem.W.Frag} {ρ : Env} {ta : TE} {d : D}
theorem et_truK (h : EvS K ta ρ d) (ho : truOk d) : EvT K (tTruK K ta) ρ (tru d) := et_tru h ho
theorem et_bl {b : Bool} (h : EvS K ta ρ (.bl b)) : EvT K (tTruK K ta) ρ b := et_tru (d := .bl b) h True.intro
end
end FP

namespace FP
open PySem PySem.Spec PyProof.Rows L2

/-! ### exceptions that a name keeps -/
theorem ex_ok {P : Program} {w : World} {H : Hp} {h : Heap} {a C : Addr} {d : Option Addr} {oe : Obj} {vs : Array Value} (e : h.get? a = some oe) (z : Zc (.ref C) d oe) (dd : oe.data = .fields vs) : ObjOk P w H h a (EX a C d) :=
  ⟨⟨oe, vs, e, z, dd⟩, ⟨oe, e⟩, fun _ _ ⟨o, v, q, r⟩ k => ⟨o, v, k o q, r⟩⟩
theorem ex_at {P : Program} {w : World} {H : Hp} {h : Heap} {a C : Addr} {d : Option Addr} (hok : HOk P w H h) (he : H a = some (EX a C d)) : ∃ oe vs, h.get? a = some oe ∧ Zc (.ref C) d oe ∧ oe.data = .fields vs := by
  have x : ObjOk P w H h a (.ext fun h => ∃ oe vs, h.get? a = some oe ∧ Zc (.ref C) d oe ∧ oe.data = .fields vs) := hok a _ he
  exact x.1
section
variable {X : Cx} {pins : List (Addr × Obj)} {σ : L2.St} {H : Hp} {s : Shared}
/-- a thing that nobody tracked is tracked -/
theorem track {a : Addr} {o : HO} (I : Inv X pins σ H s) (hn : H a = none) (n0 : X.s_0.heap.get? a = none) (nL : X.env.locals ≠ a) (nC : ∀ x c, X.env.cells.lookup x = some c → c ≠ a) (np : ∀ p ∈ X.pn ++ pins, p.1 ≠ a)
    (new : ObjOk X.prog X.w (upd H a o) s.heap a o) : Inv X pins σ (upd H a o) s where
  ok := I.ok
  os := I.os
  bare := I.bare
  base := {
    keep := I.base.keep
    slot := I.base.slot
    free := fun b u q n hx => (upd_ne fun z => by rw [z, n0] at q; cases q).trans (I.base.free b u q n hx)
    there := I.base.there
    tups := fun b xs q => (upd_ne (ne_of_none (I.base.tups b xs q) hn)).trans (I.base.tups b xs q)
    frzs := fun b u xs q => (upd_ne (ne_of_none (I.base.frzs b u xs q) hn)).trans (I.base.frzs b u xs q)
    tbls := fun b ps q => by
      obtain ⟨m, z⟩ := I.base.tbls b ps q
      exact ⟨m, (upd_ne (ne_of_none z hn)).trans z⟩ }
  loc := I.loc
  cell := I.cell
  free := (upd_ne nL).trans I.free
  freeC := fun x c e => (upd_ne (nC x c e)).trans (I.freeC x c e)
  pin := fun p hp => by
    obtain ⟨e1, e2, e3⟩ := I.pin p hp
    exact ⟨e1, (upd_ne (np p hp)).trans e2, e3⟩
  hok := I.hok.laidN (fun _ _ q => q) hn new
  len := I.len
theorem keepExc {a C : Addr} {oe : Obj} {vs : Array Value} {d : Option Addr} (I : Inv X ((a, oe) :: pins) σ H s) (hz : Zc (.ref C) d oe) (hd : oe.data = .fields vs) (n0 : X.s_0.heap.get? a = none) (np : ∀ p ∈ X.pn ++ pins, p.1 ≠ a) :
    Inv X pins σ (upd H a (EX a C d)) s := by
  obtain ⟨e1, e2, e3, _, _⟩ := I.pin (a, oe) (List.mem_append_right _ List.mem_cons_self)
  have J : Inv X pins σ H s := { I with pin := fun p hp => I.pin p ((List.mem_append.mp hp).elim (List.mem_append_left _) fun z => List.mem_append_right _ (List.mem_cons_of_mem _ z)) }
  refine track J e2 n0 (fun z => e3 z.symm) (fun x c e z => ?_) np (ex_ok e1 hz hd)
  obtain ⟨v, o, ho, hc⟩ := I.cell x c e
  rw [z, e1] at ho
  cases ho
  rw [hd] at hc
  cases hc
/-- what is wished of an exception that the clause's suite gives a name -/
def wKeep (K : PySem.W.Frag) (c : Value) (i j : Nat) (D : Ends) : WX := fun cls d σ H => PySem.W.exmOne K cls c = some true ∧ ∃ C, cls = .ref C ∧ ∀ a, H a = none → D.nx (((σ.set i (some (.ref a))).set j (some (.ref a))).set i none) (upd H a (EX a C d))
theorem sp_ofTry {xe : Value → Shared → Prop} {D : Ends} {f : Flow} (ok : X.Ok) (h : SP (X.tr (X.pn ++ pins) xe) [] D f s) : SP X pins D f s := by
  cases f with
  | ret u =>
    obtain ⟨v, σ1, H1, J, r⟩ := h
    exact ⟨v, σ1, H1, J.ofTry ok, r⟩
  | _ =>
    obtain ⟨σ1, H1, J, r⟩ := h
    exact ⟨σ1, H1, J.ofTry ok, r⟩
variable {x n : Str} {c : Value} {i j : Nat} {np pos pos' : Pos} {b₀ : Stmt} {suite body : List Stmt} {tb : WX → TS}
theorem keep_catch {xe : Value → Shared → Prop} {D : Ends} {u : Value} (ok : X.Ok) (hs : X.stack = X.env :: X.outer) (hf : X.env.frame = some X.env.locals) (hex : X.ex = []) (hN : X.N.Nodup) (hi : X.N[i]? = some n) (hln : X.env.kindOf n = some .local) (hc : Names X x c)
    (hsu : ∀ (a : Addr) (oe : Obj) (pn : List (Addr × Obj)), PSs (X.suite a ((a, oe) :: pn)) (b₀ :: suite) (tAsg (tVar i) (gName j)))
    (xx : XE (X.tr (X.pn ++ pins) xe) (wKeep X.K c i j D) u s) :
    wpAny (model X.prog X.w) X.A (noteFrame u X.env) (fun _ s₂ => wpAny (model X.prog X.w) X.A (setFlight u none) (fun _ s₃ => wpAny (model X.prog X.w) X.A (handleBy u X.env [.ExceptHandler (some (.Name x np)) (some n) (b₀ :: suite) pos']) (SP X pins D) X.xe s₃) X.xe s₂) X.xe s := by
  obtain ⟨a, B, sI, qs, σ1, H1, cls, d, rfl, J0, nb, up, sky, na, os, ag, hm, C, rfl, q⟩ := xx
  have J : Inv X pins σ1 H1 sI := J0.ofTry ok
  refine Sky.land Zc.steady (env := X.env) (outer := X.outer) (by rw [ok.frames, hs]) hf (hs ▸ sky) fun h3 fl3 up3 => ?_
  have J3 : Inv X pins σ1 H1 { s with heap := h3 } := J.landed nb fl3.1 (up.trans up3) os ag
  obtain ⟨oe3, vs3, he3, hz3, hd3⟩ := fl3.there
  have nfr : a ∉ frs (X.env :: X.outer) := fun hmem => by
    obtain ⟨_, o, e, hnf⟩ := fl3.2.2.1.mem hmem
    rw [he3] at e
    cases e
    exact hnf _ hd3
  have nL : a ≠ X.env.locals := fun z => nfr (List.mem_filterMap.mpr ⟨X.env, List.mem_cons_self, by rw [hf, z]⟩)
  have nF : a ∉ X.fs := fun hmem => nfr (by
    obtain ⟨e, h1, h2⟩ := List.mem_filterMap.mp hmem
    exact List.mem_filterMap.mpr ⟨e, List.mem_cons_of_mem _ h1, h2⟩)
  have nI : ∀ o, sI.heap.get? a ≠ some o := fun o e => by
    have z := nb a o e (by show a ∉ frs X.stack; rw [hs]; exact nfr)
    rw [fl3.2.1] at z
    cases z
  have n0 : X.s_0.heap.get? a = none := by
    cases e : X.s_0.heap.get? a with
    | none => rfl
    | some o =>
      obtain ⟨o', e'⟩ := J.base.there a o e (by rw [hex]; exact fun z => nomatch z)
      exact absurd e' (nI o')
  have hpn : ∀ p ∈ X.pn ++ pins, p.1 ≠ a := fun p hp z => nI _ (z ▸ (J.pin p hp).1)
  have S3 := J3.suite he3 hd3 na nL nF
  refine PX.clause_asZ (B := B) (Z := Zc (.ref C) d) (outer := X.outer) J3.kIn (fun _ z => z.1) fl3 hm (fun {Q E} qq => ?_) fun h4 fl4 up4 => ?_
  · obtain ⟨hg, hdb, hm | ⟨hm, hv, hnn⟩⟩ := hc
    · exact ld_glob (X := X.suite a ((a, oe3) :: (X.pn ++ pins))) S3 hg hm qq hdb
    · exact ld_blt (X := X.suite a ((a, oe3) :: (X.pn ++ pins))) S3 hg hm hv qq hnn hdb
  have J4 : Inv X pins σ1 H1 { s with heap := h4 } := J.landed nb fl4.1 ((up.trans up3).trans up4) os ag
  obtain ⟨_, _, _, oe4, vs4, _, _, _, he4, hz4, hd4, _⟩ := id fl4
  have S4 := J4.suite he4 hd4 na nL nF
  refine store_ok (X := X.suite a ((a, oe4) :: (X.pn ++ pins))) (v := .ref a) S4 hN hi (.inl hln) rfl (fun s5 S5 => ?_) (.inr hln)
  have hlt : i < σ1.length := by
    rw [J.len]
    exact (List.getElem?_eq_some_iff.mp hi).1
  refine wpAny_mono ((hsu a oe4 (X.pn ++ pins)).run [] s5 _ H1 { nx := fun σ6 H6 => σ6 = (σ1.set i (some (.ref a))).set j (some (.ref a)) ∧ H6 = H1, rt := fun _ _ => False, bk := fun _ _ => False, ct := fun _ _ => False } S5 ⟨.ref a, by rw [List.getElem?_set_self hlt], rfl, rfl⟩) (fun f s6 hsp => ?_) fun _ _ z => z.elim
  cases f with
  | next =>
    obtain ⟨σ6, H6, S6, rfl, rfl⟩ := hsp
    have J6 : Inv X ((a, oe4) :: pins) ((σ1.set i (some (.ref a))).set j (some (.ref a))) H6 s6 :=
      ⟨ok, S6.os, S6.bare, S6.base, S6.loc, S6.cell, S6.free, S6.freeC, fun p hp => S6.pin p (by
        rw [List.append_nil]
        rcases List.mem_append.mp hp with z | z
        · exact List.mem_cons_of_mem _ (List.mem_append_left _ z)
        · rcases List.mem_cons.mp z with z | z
          · rw [z]; exact List.mem_cons_self
          · exact List.mem_cons_of_mem _ (List.mem_append_right _ z)), S6.hok, S6.len⟩
    exact gone_ok J6 hN hi hln fun s7 J7 => ⟨_, _, keepExc J7 hz4 hd4 n0 hpn, q a na⟩
  | ret u =>
    obtain ⟨_, _, _, _, _, z⟩ := hsp
    exact z.elim
  | brk =>
    obtain ⟨_, _, _, z⟩ := hsp
    exact z.elim
  | cont =>
    obtain ⟨_, _, _, z⟩ := hsp
    exact z.elim
def tKeep (K : PySem.W.Frag) (c : Value) (i j : Nat) (tb : WX → TS) : TS := fun D σ H => tb (wKeep K c i j D) D σ H
/-- try: body / except x as n: y = n -/
theorem ps_keep (hs : X.stack = X.env :: X.outer) (hf : X.env.frame = some X.env.locals) (hex : X.ex = []) (hN : X.N.Nodup) (hi : X.N[i]? = some n) (hln : X.env.kindOf n = some .local) (hc : Names X x c)
    (hb : ∀ (W : WX) (pn : List (Addr × Obj)) (xe : Value → Shared → Prop), L2.Takes (X.tr pn xe) W → PassesOwn (model X.prog X.w) X.A X.env xe → PSs (X.tr pn xe) body (tb W))
    (hsu : ∀ (a : Addr) (oe : Obj) (pn : List (Addr × Obj)), PSs (X.suite a ((a, oe) :: pn)) (b₀ :: suite) (tAsg (tVar i) (gName j))) :
    PS X (.Try body [.ExceptHandler (some (.Name x np)) (some n) (b₀ :: suite) pos'] [] [] pos) (tKeep X.K c i j tb) := by
  refine ⟨fun pins s σ H D I h => ?_⟩
  have ok := I.ok
  refine wpAny_Try_except (wpAny_mono ((hb (wKeep X.K c i j D) (X.pn ++ pins) (fun u s₁ => wpAny (model X.prog X.w) X.A (noteFrame u X.env) (fun _ s₂ => wpAny (model X.prog X.w) X.A (setFlight u none) (fun _ s₃ => wpAny (model X.prog X.w) X.A (handleBy u X.env [.ExceptHandler (some (.Name x np)) (some n) (b₀ :: suite) pos']) (SP X pins D) X.xe s₃) X.xe s₂) X.xe s₁)
    (fun u s1 xx => keep_catch ok hs hf hex hN hi hln hc hsu xx) PassesOwn.looking).run [] s σ H D (I.toTry _) h) (fun f s1 hsp => ?_) fun _ _ z => z)
  have q := sp_ofTry ok hsp
  cases f with
  | next =>
    obtain ⟨σ1, H1, J1, r⟩ := q
    exact wpAny_execs_nil ⟨σ1, H1, J1, r⟩
  | ret u => exact q
  | brk => exact q
  | cont => exact q
end
end FP

namespace FP
open PySem PySem.Spec PyProof.Rows L2

section
variable {X : Cx} {pins : List (Addr × Obj)} {σ : L2.St} {H : Hp} {s : Shared}
/-! ### an exception that is made and kept as a value -/
def tMkV (t : L2.St → Hp → XK → Prop) : TE := fun σ H Q => t σ H fun cls d H1 => ∃ C, cls = .ref C ∧ ∀ a, H1 a = none → Q (.ref a) (upd H1 a (EX a C d))
theorem pe_mkV {e : Expr} {t : L2.St → Hp → XK → Prop} (h : PMk X e t) : PE X e (tMkV t) := by
  refine ⟨fun pins s σ H Q I hq => ?_⟩
  refine wpAny_mono (h pins s σ H _ I hq) (fun u s1 hu => ?_) fun _ _ z => z
  obtain ⟨a, oe, vs, sI, H1, cls, d, rfl, J, k, hne, ha, hz, hd, h1, na, os, ag, r, C, rfl, q⟩ := hu
  have J1 := J.laidN (h' := s1.heap) (t' := s1.toks) k hne na (ex_ok ha hz hd)
  exact ⟨.ref a, _, { ok := J1.ok, os := os.trans J.os, bare := ag, base := J1.base, loc := J1.loc, cell := J1.cell, free := J1.free, freeC := J1.freeC, pin := J1.pin, hok := J1.hok, len := J1.len }, rfl, q a na⟩
theorem ex_inst {P : Program} {w : World} {a C : Addr} {oe : Obj} {vs : Array Value} {d : Option Addr} {h : Heap} (hok : HOk P w H h) (h1 : h.get? a = some oe) (hz : Zc (.ref C) d oe) (hf : oe.data = .fields vs) (hd : d = none ∨ ∃ dd fs, d = some dd ∧ H dd = some (.xd fs)) :
    ∃ od, PySem.W.InstAt h a oe C od ∧ ((d = none ∧ od = none) ∨ ∃ dd fs mA o, d = some dd ∧ H dd = some (.xd fs) ∧ h.Ns1 dd mA ∧ (∀ f, RelO (fs.lookup f) (mA f)) ∧ od = some o ∧ ∀ f, PySem.W.lookIn f o = some (mA f)) := by
  have hno : PySem.W.notCls oe = true := by
    unfold PySem.W.notCls
    rw [hf] <;> rfl
  rcases hd with rfl | ⟨dd, fs, rfl, ed⟩
  · exact ⟨none, ⟨h1, hz.1, hno, by rw [hz.2]; exact True.intro⟩, .inl ⟨rfl, rfl⟩⟩
  · have x : ObjOk P w H h dd (.xd fs) := hok dd _ ed
    obtain ⟨mA, hns, rel⟩ := x
    obtain ⟨o, ho, hl⟩ := lookIn_ns hns
    exact ⟨some o, ⟨h1, hz.1, hno, by rw [hz.2]; exact ho⟩, .inr ⟨dd, fs, mA, o, rfl, ed, hns, rel, rfl, hl⟩⟩
/-- isinstance of such a value -/
def rIsE (K : PySem.W.Frag) : List V → Hp → VK → Prop := fun xs H Q => ∃ (a C : Addr) (d : Option Addr) (c : V) (u : Value) (b : Bool), xs = [.ref a, c] ∧ ClsV c u ∧ H a = some (EX a C d) ∧ (d = none ∨ ∃ dd fs, d = some dd ∧ H dd = some (.xd fs)) ∧ ExcC K C ∧ PySem.W.kitOne K (.ref C) u = some b ∧ Q (.bl b) H
theorem call_isEx : CallR X (.builtin "isinstance") (rIsE X.K) := by
  intro pins s σ H xs us Q I r h
  obtain ⟨a, C, d, c, u, b, rfl, kc, ha, hd, T, e, q⟩ := h
  obtain ⟨u1, u2, rfl, r1, r2⟩ := vals2 r
  have e2 := kc.eq r2
  subst e2
  cases (show u1 = Value.ref a from r1)
  obtain ⟨oe, vs, h1, hz, hf⟩ := ex_at I.hok ha
  obtain ⟨od, J, _⟩ := ex_inst I.hok h1 hz hf hd
  have hcl : (PySem.W.clsIn X.K C).isSome = true := by
    obtain ⟨cd, hc, _⟩ := PySem.W.any_some T.hd
    rw [hc]
    rfl
  exact PySem.W.kia_one (PySem.W.kitx_exc hcl T.hg T.hk T.hs T.ha T.hn T.ht T.hm) I.kIn J e (fun z => nomatch z) fun tk => ⟨.bl b, H, I.tok tk, rfl, q⟩
def rIsy (K : PySem.W.Frag) : List V → Hp → VK → Prop := fun xs H Q => rIsis K xs H Q ∨ rIsE K xs H Q
theorem call_isyK {K : PySem.W.Frag} (e : X.K = K) : CallR X (.builtin "isinstance") (rIsy K) := e ▸ CallR.or call_isis call_isEx
/-! ### fields -/
def tFldA (K : PySem.W.Frag) (ta : TE) (f : Str) : TE := fun σ H Q => ta σ H fun x H1 =>
  (∃ a C dx fs v, x = .ref a ∧ H1 a = some (.ins C dx fs) ∧ Cls K C ∧ NoAttr K C f ∧ fs.lookup f = some v ∧ Q v H1) ∨
  ∃ a C dd fs v, x = .ref a ∧ H1 a = some (EX a C (some dd)) ∧ H1 dd = some (.xd fs) ∧ XfC K C ∧ PySem.W.findIn K (.ref C) f = some none ∧ fs.lookup f = some v ∧ Q v H1
theorem pe_fldA {K : PySem.W.Frag} {e : Expr} {ta : TE} {f : Str} {pos : Pos} (eK : X.K = K) (he : PE X e ta) (hb : attributeBase e f X.env (eval e X.env) = eval e X.env := by rfl) : PE X (.Attribute e f pos) (tFldA K ta f) := by
  subst eK
  refine ⟨fun pins s σ H Q I h => ?_⟩
  refine attr_of hb (thn (he.run pins s σ H _ I h) fun u s1 hh => ?_)
  obtain ⟨x, H1, I1, rx, ⟨a, C, dx, fs, v, ex, ea, c, n, l, q⟩ | ⟨a, C, dd, fs, v, ex, ea, ed, T, n, l, q⟩⟩ := hh
  · subst ex
    obtain rfl : u = Value.ref a := rx
    exact getattr_ok I1 ea c n l fun u' s2 I2 ru => ⟨v, H1, I2, ru, q⟩
  · subst ex
    obtain rfl : u = Value.ref a := rx
    obtain ⟨oe, vs, h1, hz, hf⟩ := ex_at I1.hok ea
    obtain ⟨od, J, ⟨z, _⟩ | ⟨dd', fs', mA, o, e1, e2, _, rel, rfl, hl⟩⟩ := ex_inst I1.hok h1 hz hf (.inr ⟨dd, fs, rfl, ed⟩)
    · cases z
    · cases e1
      rw [ed] at e2
      cases e2
      obtain ⟨u', hu, ru⟩ := RelO.some_of (v := v) (o := mA f) (by rw [← l]; exact rel f)
      exact HandSPX.exc_get I1.kIn J T.ga T.gg T.exC (PySem.W.findObj_own T.hdC n rfl (by rw [hl, hu])) (handed_of ru) ⟨v, H1, I1.tok _, ru, q⟩
/-! ### B.__init__(self, ..), B an own class above, its __init__ that of ValueError -/
structure BasC (K : PySem.W.Frag) (B : Addr) : Prop where
  sp : PySem.W.specialIn K (.ref B) "__getattribute__" = some (some (.builtin "type.__getattribute__"))
  rd : PySem.W.readsIn K B (.type "type") = true
  fd : PySem.W.findCls K (.ref B) (.type "type") "__init__" = some (.val (.builtin "ValueError.__init__"))
theorem pe_binit {K : PySem.W.Frag} {x : Str} {B : Addr} {e : Expr} {es : List Expr} {ta : TA} {p1 p2 pos : Pos} {pl : Sem Bool} (eK : X.K = K) (T : BasC K B) (hg : Gl X x) (hm : X.mg x = some (.ref B)) (ha : PA X (e :: es) ta) (hdb : (x == ("__debug__" : Str)) = false := by decide)
    (hc : eval (.Call (.Attribute (.Name x p1) "__init__" p2) (e :: es) [] pos) X.env = (do
      let ov ← eval (.Name x p1) X.env; standAt p2.atName; let (f, first) ← holding [ov] (getMethod ov "__init__" pl); callWith pos f first (backTo pos (starEach (e :: es) X.env)) (backToKw pos (keywordEach [] X.env))) := by rfl)
    (he : starEach (e :: es) X.env = (false, eval e X.env) :: starEach es X.env := by rfl) (hpl : (backTo pos (starEach es X.env)).any (·.1) = false := by rfl) :
    PE X (.Call (.Attribute (.Name x p1) "__init__" p2) (e :: es) [] pos) (tVeI K ta) := by
  subst eK
  refine ⟨fun pins s σ H Q I h => ?_⟩
  refine PySem.W.methodCall_KW (ld_glob I hg hm ?_ hdb) hc
  refine PySem.W.method_cls I.kIn T.sp (PySem.W.cls_value I.kIn T.rd T.fd (by decide +kernel) ?_)
  refine PyProof.Rows.callWith_method1 (thn (ha.run pos pins _ σ H _ (I.tok _) h) fun us s1 ⟨vs, H1, I1, r1, a, C, ws, ev, hl, T1, ea, q⟩ => ?_) he hpl
  subst ev
  cases r1 with
  | @cons _ u0 _ ur ra rw' =>
    obtain rfl : u0 = Value.ref a := ra
    exact oinit_ok T1 I1 ea (by rw [← Paired.length rw', sizeLine_eq]; omega) fun s' J => ⟨.non, H1, J, rfl, q⟩
/-! ### C(..) where exceptions may leave it -/
def tMakeS (C : Addr) (sp : Sp) (E : L2.St → XK) (t : TA) : TE := fun σ H Q => t σ H fun vs H1 => ∀ x dx, H1 x = none → H1 dx = none → dx ≠ x → sp (.ref x :: vs) (upd (upd H1 dx (.own x)) x (.ins C dx [])) (fun v H2 => v = .non ∧ Q (.ref x) H2) (E σ)
theorem pe_makeS {CX : CXT} {k : Nat} {f C : Addr} {fd : FuncData} {ps : List Str} {sp : Sp} {E : L2.St → XK} {x : Str} {p pos : Pos} {e : Expr} {es : List Expr} {t : TA} (M : Mk X.K C f) (F : FnOk X.prog X.w X.K X.mg X.base CX k f fd ps sp) (hr : Room (k + 1) X.A) (hg : Gl X x) (hm : X.mg x = some (.ref C))
    (hb : Binds X.K fd ps []) (hx : ∀ σ, PassesAt CX X σ (E σ)) (ha : PA X (e :: es) t) (hdb : (x == ("__debug__" : Str)) = false := by decide) (he : starEach (e :: es) X.env = (false, eval e X.env) :: starEach es X.env := by rfl) (hpl : (backTo pos (starEach es X.env)).any (·.1) = false := by rfl) :
    PE X (.Call (.Name x p) (e :: es) [] pos) (tMakeS C sp E t) := by
  refine ⟨fun pins s σ H Q I h => ?_⟩
  refine wpAny_Call_Name_kw (ld_glob I hg hm (PySem.W.callWith_K (h₀ := X.base) I.ok.mod.kin M.kp (thn (ha.run pos pins s σ H _ I h) fun us s1 ⟨vs, H1, I1, r, q⟩ => ⟨I1.kIn, ?_⟩) he hpl) hdb)
  have q0 := q (s1.heap.objs.size + 1) s1.heap.objs.size (I1.hok.fresh (Nat.le_succ _)) (I1.hok.fresh (Nat.le_refl _)) (Nat.ne_of_lt (Nat.lt_succ_self _))
  have J := Inv.made (C := C) I1
  have r2 : Vals (V.ref (s1.heap.objs.size + 1) :: vs) (Value.ref (s1.heap.objs.size + 1) :: us) := .cons rfl r
  have hl : ((Value.ref (s1.heap.objs.size + 1) :: us) ++ []).length = ps.length := by
    rw [List.append_nil, ← r2.length]
    exact F.len _ _ _ _ q0
  have hbn := hb { s1 with heap := (s1.heap.push PySem.W.emptyDict).push (PySem.W.instObj C s1.heap.objs.size) } (Value.ref (s1.heap.objs.size + 1) :: us) J.kIn hl
  rw [List.append_nil] at hbn
  refine wpAny_call (make_map (f := f) I1.kIn M.makes M.init (beq_iff_eq.mp M.fn) (codeAny_mono (F.run _ X.stack _ _ _ _ _ _ (E σ) (hr.make C us []) (J.env0.make C us []) hbn r2 q0) fun o s' hq => ?_))
  cases o with
  | error er => exact hx σ pins _ _ er s' J hq
  | ok fl =>
    cases fl with
    | ret u =>
      obtain ⟨v, H2, J2, rv, rfl, q2⟩ := J.after hq
      exact ⟨rv, ⟨.ref (s1.heap.objs.size + 1), H2, J2, rfl, q2⟩⟩
    | next => exact hq.elim
    | brk => exact hq.elim
    | cont => exact hq.elim
end
end FP

namespace FP
open PySem PySem.Spec PyProof.Rows L2

/-! ### instances and exceptions as data -/
def fld (fs : List Str) (ds : List D) (f : Str) : Option D := (fs.zip ds).lookup f
section
variable {K : PySem.W.Frag} {A : Own} {H : Hp} {σ : L2.St} {ρ ρ' ρ2 : Env} {B : List Addr} {W : WX} {t u ts tb : TS} {o : Out} {te ta to : TE} {tt : TT} {d x z : D} {i j : Nat} {g : TG} {ds es : List D} {wi : TI} {vs : List Nat} {v : V} {C C' : Addr} {fs : List Str} {f : Str} {fl : Fl}
theorem Rp.ins (h : Rp K A H v (.ins fl C fs ds) B) : ∃ a dx xs B1, v = .ref a ∧ H a = some (.ins C dx (fs.zip xs)) ∧ fs.length = xs.length ∧ RpAll K A H xs ds B1 ∧ (∀ b ∈ B1, b ∈ B) ∧ (fl.isSh = true → B = []) ∧ (fl.isSh = false → B = a :: B1 ∧ a ∉ B1 ∧ A a) ∧ ∀ b, fl = .at b → a = b := by
  cases h with
  | insS h l r => exact ⟨_, _, _, _, rfl, h.1, l, r, (fun _ h => nomatch h), (fun _ => rfl), (fun e => nomatch e), fun _ e => nomatch e⟩
  | insO h a n l r => exact ⟨_, _, _, _, rfl, h, l, r, (fun _ h => List.mem_cons_of_mem _ h), (fun e => nomatch e), (fun _ => ⟨rfl, n, a⟩), fun _ e => nomatch e⟩
  | insA h a n l r => exact ⟨_, _, _, _, rfl, h, l, r, (fun _ h => List.mem_cons_of_mem _ h), (fun e => nomatch e), (fun _ => ⟨rfl, n, a⟩), fun _ e => by cases e; rfl⟩
theorem RpAll.look : ∀ {fs : List Str} {ds : List D} {xs : List V} {B : List Addr}, RpAll K A H xs ds B → fld fs ds f = some d → ∃ v C, (fs.zip xs).lookup f = some v ∧ Rp K A H v d C ∧ ∀ a ∈ C, a ∈ B
  | [], _, _, _, _, h => by simp [fld] at h
  | _ :: _, [], _, _, _, h => by simp [fld] at h
  | g :: fs, e :: ds, _, _, .cons r t n, h => by
    unfold fld at h
    rw [List.zip_cons_cons, List.lookup_cons] at h
    by_cases hg : f = g
    · have hb : (f == g) = true := beq_iff_eq.mpr hg
      rw [hb] at h
      cases h
      exact ⟨_, _, by rw [List.zip_cons_cons, List.lookup_cons, hb], r, fun a h => List.mem_append_left _ h⟩
    · have hb : (f == g) = false := beq_eq_false_iff_ne.mpr hg
      rw [hb] at h
      obtain ⟨v, C, h1, h2, h3⟩ := RpAll.look t (fs := fs) h
      exact ⟨v, C, by rw [List.zip_cons_cons, List.lookup_cons, hb]; exact h1, h2, fun a m => List.mem_append_right _ (h3 a m)⟩
theorem ev_fld (h : EvS K ta ρ (.ins fl C fs ds)) (hc : Cls K C) (hn : NoAttr K C f) (hf : fld fs ds f = some d) : EvS K (tFldA K ta f) ρ d := fun A H σ B w rr Q q => h A H σ B w rr _ fun v H1 C1 e f1 p => by
  obtain ⟨a, dx, xs, B1, rfl, ha, hl, r, s1, _⟩ := p.ins
  obtain ⟨v, C2, h1, h2, h3⟩ := r.look hf
  refine .inl ⟨a, _, dx, _, v, rfl, ha, hc, hn, h1, q v H1 C2 e (fun b hb => f1 b (s1 b (h3 b hb))) (h2.keep _ (keep_less (fun b z => z.imp id fun z => s1 b (h3 b z)) fun b hb => .inr hb))⟩
/-- a field of a name's own instance, nothing owned -/
theorem ev_fldV (hi : ρ[i]? = some (some (.ins fl C fs ds))) (hc : Cls K C) (hn : NoAttr K C f) (hf : fld fs ds f = some d) (hd : d.shd = true) : EvS K (tFldA K (tVar i) f) ρ d := fun A H σ B w rr Q q => by
  obtain ⟨v, C1, h1, p, _⟩ := rr.get hi
  obtain ⟨a, dx, xs, B1, rfl, ha, hl, r, _⟩ := p.ins
  obtain ⟨y, C2, h3, h4, _⟩ := r.look hf
  obtain rfl := h4.shd _ hd
  refine ⟨.ref a, h1, .inl ⟨a, _, dx, _, y, rfl, ha, hc, hn, h3, q y H [] Ex.rfl' (fun _ h => nomatch h) ?_⟩⟩
  rw [Own.and_nil]
  exact h4
theorem Rp.excI {fs : List (Str × V)} (h : Rp K A H v (.exc C fs) B) : ∃ a d, v = .ref a ∧ H a = some (EX a C d) ∧ ((d = none ∧ fs = []) ∨ ∃ dd, d = some dd ∧ H dd = some (.xd fs)) := by
  cases h with
  | exc0 h => exact ⟨_, _, rfl, h.1, .inl ⟨rfl, rfl⟩⟩
  | exc1 h g => exact ⟨_, _, rfl, h.1, .inr ⟨_, rfl, g.1⟩⟩
theorem ev_efld {fs : List (Str × V)} {y : V} (h : EvS K ta ρ (.exc C fs)) (hc : XfC K C) (hn : PySem.W.findIn K (.ref C) f = some none) (hf : fs.lookup f = some y) : EvS K (tFldA K ta f) ρ (.sc y) := fun A H σ B w rr Q q => h A H σ B w rr _ fun v H1 C1 e f1 p => by
  obtain ⟨a, d, rfl, ha, ⟨_, rfl⟩ | ⟨dd, rfl, hd⟩⟩ := p.excI
  · cases hf
  · exact .inr ⟨a, C, dd, fs, y, rfl, ha, hd, hc, hn, hf, q y H1 [] e (fun _ h => nomatch h) (.sc y)⟩
/-! isinstance -/
theorem isy_old {r : Bool} {c : D} (h : OpC K (rIsis K) [d, c] (.bl r)) : OpC K (rIsy K) [d, c] (.bl r) := fun A H xs B w p Q q => .inl (h A H xs B w p Q q)
theorem isy_ty {b : String} {r : Bool} (hn : tyN d ≠ "") (h : kitB (tyN d) b = some r) : OpC K (rIsy K) [d, .sc (.ty b)] (.bl r) := isy_old (isi_ty hn h)
theorem isy_exc {fs : List (Str × V)} {c : V} {u : Value} {b : Bool} (hc : ExcC K C) (k : ClsV c u) (e : PySem.W.kitOne K (.ref C) u = some b) : OpC K (rIsy K) [.exc C fs, .sc c] (.bl b) := opc_sc fun A H xs B p Q q => by
  obtain ⟨x, y, _, _, rfl, p1, p2, _⟩ := p.two
  cases p2
  obtain ⟨a, d, rfl, ha, hd⟩ := p1.excI
  exact .inr ⟨a, C, d, c, u, b, rfl, k, ha, hd.imp (fun z => z.1) (fun ⟨dd, h1, h2⟩ => ⟨dd, fs, h1, h2⟩), hc, e, q⟩
/-! ### self.f = e -/
def putFD (f : Str) (d : D) : List Str → List D → List Str × List D
  | g :: fs, x :: ds => if g = f then (g :: fs, d :: ds) else ((g :: (putFD f d fs ds).1, x :: (putFD f d fs ds).2))
  | _, _ => ([f], [d])
theorem RpAll.put {y : V} {E : List Addr} (q : Rp K A H y d E) : ∀ {fs : List Str} {ds : List D} {xs : List V} {B : List Addr}, RpAll K A H xs ds B → fs.length = xs.length → (∀ a ∈ B, a ∉ E) →
    ∃ xs' B', putF f y (fs.zip xs) = (putFD f d fs ds).1.zip xs' ∧ (putFD f d fs ds).1.length = xs'.length ∧ RpAll K A H xs' (putFD f d fs ds).2 B' ∧ ∀ a ∈ B', a ∈ B ∨ a ∈ E
  | [], _, _, _, .nil, _, _ => ⟨[y], E ++ [], rfl, rfl, RpAll.cons q .nil (fun _ _ h => nomatch h), fun a h => .inr (by simpa using h)⟩
  | [], _, _, _, .cons _ _ _, l, _ => by simp at l
  | _ :: _, _, _, _, .nil, l, _ => by simp at l
  | g :: fs, e :: ds, v :: vs, _, .cons (B := B1) (C := B2) r t n, l, m => by
    unfold putFD
    rw [List.zip_cons_cons]
    unfold putF
    by_cases hg : g = f
    · rw [if_pos hg, if_pos hg]
      exact ⟨y :: vs, E ++ B2, rfl, by simpa using l, .cons q t fun a h z => m a (List.mem_append_right _ z) h, fun a h => (List.mem_append.mp h).elim .inr fun z => .inl (List.mem_append_right _ z)⟩
    · rw [if_neg hg, if_neg hg]
      obtain ⟨xs', B', h1, h2, h3, h4⟩ := RpAll.put q t (by simpa using l) fun a h => m a (List.mem_append_right _ h)
      refine ⟨v :: xs', B1 ++ B', by rw [h1]; rfl, by simp [h2], .cons r h3 fun a h z => ?_, fun a h => ?_⟩
      · rcases h4 a z with z | z
        · exact n a h z
        · exact m a (List.mem_append_left _ h) z
      · rcases List.mem_append.mp h with h | h
        · exact .inl (List.mem_append_left _ h)
        · exact (h4 a h).imp (fun z => List.mem_append_right _ z) id
/-- what an instance of one's own is, put together again -/
theorem Rp.insMk {a dx : Addr} {xs : List V} {E : List Addr} (hf : fl.isSh = false) (hat : ∀ b, fl = .at b → a = b) (h : H a = some (.ins C dx (fs.zip xs))) (hA : A a) (n : a ∉ E) (l : fs.length = xs.length) (r : RpAll K A H xs ds E) : Rp K A H (.ref a) (.ins fl C fs ds) (a :: E) := by
  cases fl with
  | sh => cases hf
  | ow => exact .insO h hA n l r
  | «at» b =>
    cases hat b rfl
    exact .insA h hA n l r
theorem run_setf (hi : ρ[i]? = some (some (.ins fl C fs ds))) (hs : fl.isSh = false) (he : EvS K te ρ d) (hc : Cls K C) (hn : NoAttr K C f) (hl : fs.length < 1000) :
    Run K W (sFld K (tVar i) te f) ρ (.nx (ρ.set i (some (.ins fl C (putFD f d fs ds).1 (putFD f d fs ds).2)))) := fun A0 H σ B E w r p => by
  refine he.run w r fun y H1 B1 e f1 r2 q2 n2 => ?_
  obtain ⟨v, Bi, h1, p1, h3, k⟩ := r2.mut hi
  obtain ⟨a, dx, xs, B2, rfl, ha, hlen, ra, _, _, ho, hat⟩ := p1.ins
  obtain ⟨rfl, na, hA⟩ := ho hs
  obtain ⟨xs', B', g1, g2, g3, g4⟩ := ra.put (f := f) q2 hlen fun b hb z => n2 b z (h3 b (List.mem_cons_of_mem _ hb))
  have nB' : a ∉ B' := fun z => (g4 a z).elim na fun z => n2 a z (h3 a List.mem_cons_self)
  have kk : ∀ B0, a ∉ B0 → (∀ b ∈ B0, (A0.and (B1 ++ B)) b) → Keep (A0.and (B1 ++ B)) H1 B0 (A0.and (B1 ++ B)) (upd H1 a (.ins C dx (putF f y (fs.zip xs)))) := fun B0 z hB => keep_upd hA z hB
  refine ⟨.ref a, h1, a, C, dx, fs.zip xs, rfl, ha, hc, hn, by rw [List.length_zip]; omega, ?_⟩
  obtain ⟨B3, e3, s3⟩ := k (A0.and (B1 ++ B)) (upd H1 a (.ins C dx (putF f y (fs.zip xs)))) (.ins fl C (putFD f d fs ds).1 (putFD f d fs ds).2) (a :: B')
    (fun B0 h0 => kk B0 (fun z => (h0 a z).2 List.mem_cons_self) fun b hb => .inr (List.mem_append_right _ (h0 b hb).1))
    (Rp.insMk hs hat (by rw [upd_same, g1]) hA nB' g2 (g3.keep _ (kk B' nB' fun b hb => (g3.tracked _ b hb).2)))
    (fun b hb => (List.mem_cons.mp hb).elim (fun z => .inl (z ▸ List.mem_cons_self)) fun z => (g4 b z).imp (List.mem_cons_of_mem _) (n2 b))
  have s3' : ∀ b ∈ B3, b ∈ B1 ∨ b ∈ B := fun b hb => by
    rcases s3 b hb with z | z
    · rcases List.mem_cons.mp z with z | z
      · rw [z]; exact .inr (h3 a List.mem_cons_self)
      · exact (g4 b z).elim (fun z => .inr (h3 b (List.mem_cons_of_mem _ z))) .inl
    · exact .inr z
  refine p _ σ B3 ⟨fun b u hb nb => ?_, fun b hb => ?_, fun b hb => ?_⟩ (e3.keep (keep_less (fun b z => z.imp id fun z => List.mem_append.mpr (s3' b z)) fun b hb => .inr hb))
  · rw [upd_ne fun z => nb (by rw [z]; exact h3 a List.mem_cons_self)]
    exact e _ _ hb
  · by_cases hz : b = a
    · rw [hz, upd_same]; simp
    · rw [upd_ne hz]; exact e.ne hb
  · exact (s3' b hb).elim (fun z => .inr (f1 b z)) .inl
/-! ### a class is made -/
inductive Mkd where
  | ok (fs : List Str) (ds : List D)
  | er (C : Addr) (fs : List (Str × V))
def spI (K : PySem.W.Frag) (C : Addr) (R : List D → Mkd → Prop) : Sp := fun vs H Q E => ∃ (A : Own) (x dx : Addr) (ws : List V) (ds : List D) (r : Mkd), vs = .ref x :: ws ∧ WA A H ∧ ¬ A x ∧ H x = some (.ins C dx []) ∧ RpAll K (A.and [x]) H ws ds [] ∧ R ds r ∧
  match r with
  | .ok fs ds' => ∀ H' B, Step [x] H B H' → Rp K (A.and B) H' (.ref x) (.ins (.at x) C fs ds') B → Q .non H'
  | .er C' fs => ∀ d H' B, Step [x] H B H' → XdOk (A.and B) H' d fs → E (.ref C') d H'
/-- an expression that raises -/
def EvX (K : PySem.W.Frag) (W : WX) (te : TE) (ρ : Env) (C : Addr) (fs : List (Str × V)) : Prop := ∀ (A : Own) (H : Hp) (σ : L2.St) (B : List Addr), WA A H → EnvR K A H σ ρ B → (∀ d H', Ex H H' → XdOk A H' d fs → W (.ref C) d σ H') → ∀ Q : VK, te σ H Q
theorem make_step {x dx : Addr} (nx : H x = none) (nd : H dx = none) (ne : dx ≠ x) : Ex H (upd (upd H dx (.own x)) x (.ins C dx [])) := (Ex.new nd).tr (Ex.new (by rw [upd_ne (Ne.symm ne)]; exact nx))
theorem make_ex {x : Addr} {H0 H' : Hp} {B : List Addr} (nx : H x = none) (e : Ex H H0) (s : Step [x] H0 B H') : Ex H H' ∧ Fresh H B :=
  ⟨fun a o h => s.keep a o (e a o h) (fun z => by rw [List.mem_singleton.mp z, nx] at h; cases h), fun a h => (s.fresh a h).elim (fun z => by rw [List.mem_singleton.mp z]; exact nx) e.back⟩
theorem XdOk.less {A' : Own} {d : Option Addr} {fs : List (Str × V)} (h : XdOk A H d fs) (k : ∀ a, A' a → A a) : XdOk A' H d fs := h.imp id fun ⟨dd, e, s⟩ => ⟨dd, e, s.1, fun z => s.2 (k _ z)⟩
theorem ev_make {t : TA} {R : List D → Mkd → Prop} {E : L2.St → XK} {ds' : List D} (ha : EvA K t ρ ds) (hR : R (D.frzs ds) (.ok fs ds')) : EvS K (tMakeS C (spI K C R) E t) ρ (.ins .ow C fs ds') := fun A H σ B w rr Q q =>
  ha A H σ B w rr _ fun ws H1 C1 e f p x dx nx nd ne => by
    have e2 := make_step (C := C) nx nd ne
    have nA : ¬ A x := fun z => (et_step w rr e).1 x z nx
    refine ⟨A, x, dx, ws, D.frzs ds, .ok fs ds', rfl, fun a h => e2.ne (e.ne (w a h)), nA, upd_same, ?_, hR, fun H2 B2 s r => ?_⟩
    · refine p.loose _ ⟨fun a o h n => ⟨e2 a o h, fun z => z.elim (fun z => n (.inl z)) fun z => ?_⟩, fun a o m h => ⟨e2 a o h, fun z => z.elim (fun z => w a z (f a m)) fun z => ?_⟩⟩
      · rw [List.mem_singleton.mp z, nx] at h; cases h
      · rw [List.mem_singleton.mp z, nx] at h; cases h
    · obtain ⟨e3, f3⟩ := make_ex nx e2 s
      obtain ⟨a, dx', xs, B3, e4, h1, h2, h3, _, _, h4, _⟩ := r.ins
      cases e4
      obtain ⟨rfl, n5, h5⟩ := h4 rfl
      exact ⟨rfl, q _ H2 _ (e.tr e3) (f3.back e) (.insO h1 h5 n5 h2 h3)⟩
theorem evx_make {t : TA} {R : List D → Mkd → Prop} {fs : List (Str × V)} (ha : EvA K t ρ ds) (hR : R (D.frzs ds) (.er C' fs)) : EvX K W (tMakeS C (spI K C R) (WE W) t) ρ C' fs := fun A H σ B w rr hW Q =>
  ha A H σ B w rr _ fun ws H1 C1 e f p x dx nx nd ne => by
    have e2 := make_step (C := C) nx nd ne
    have nA : ¬ A x := fun z => (et_step w rr e).1 x z nx
    refine ⟨A, x, dx, ws, D.frzs ds, .er C' fs, rfl, fun a h => e2.ne (e.ne (w a h)), nA, upd_same, ?_, hR, fun d H2 B2 s r => hW d H2 (e.tr (make_ex nx e2 s).1) (r.less fun a => .inl)⟩
    refine p.loose _ ⟨fun a o h n => ⟨e2 a o h, fun z => z.elim (fun z => n (.inl z)) fun z => ?_⟩, fun a o m h => ⟨e2 a o h, fun z => z.elim (fun z => w a z (f a m)) fun z => ?_⟩⟩
    · rw [List.mem_singleton.mp z, nx] at h; cases h
    · rw [List.mem_singleton.mp z, nx] at h; cases h
theorem evx_run {fs : List (Str × V)} {A0 : Own} {E : Ends} {Q : VK} (h : EvX K W te ρ C fs) (w : W0 A0 B H) (r : EnvR K (A0.and B) H σ ρ B) (p : Post K W A0 H B E (.er C fs ρ)) : te σ H Q :=
  h (A0.and B) H σ B (w.wa r) r (fun d H1 e x => p d H1 σ B (.ex e fun _ z => .inl z) (et_step (w.wa r) r e).2 x) Q
theorem run_drop_er {fs : List (Str × V)} (h : EvX K W te ρ C fs) : Run K W (tDrop te) ρ (.er C fs ρ) := fun A0 H σ B E w r p => evx_run h w r p
theorem run_asg_er {fs : List (Str × V)} (h : EvX K W te ρ C fs) : Run K W (tAsg te g) ρ (.er C fs ρ) := fun A0 H σ B E w r p => evx_run h w r p
theorem run_ret_er {fs : List (Str × V)} (h : EvX K W te ρ C fs) : Run K W (tRet te) ρ (.er C fs ρ) := fun A0 H σ B E w r p => evx_run h w r p
/-! ### raise -/
/-- what is made to be raised: t makes an exception of the class at C with the fields fs -/
def EvM (K : PySem.W.Frag) (t : L2.St → Hp → XK → Prop) (ρ : Env) (C : Addr) (fs : List (Str × V)) : Prop := ∀ (A : Own) (H : Hp) (σ : L2.St) (B : List Addr), WA A H → EnvR K A H σ ρ B → ∀ Q : XK, (∀ d H', Ex H H' → XdOk A H' d fs → Q (.ref C) d H') → t σ H Q
theorem run_raise {fs : List (Str × V)} {tm : L2.St → Hp → XK → Prop} (h : EvM K tm ρ C fs) : Run K W (fun _ σ H => tm σ H fun cls d H1 => W cls d σ H1) ρ (.er C fs ρ) := fun A0 H σ B E w r p =>
  h (A0.and B) H σ B (w.wa r) r _ fun d H1 e x => p d H1 σ B (.ex e fun _ z => .inl z) (et_step (w.wa r) r e).2 x
theorem ev_mkV {fs : List (Str × V)} {tm : L2.St → Hp → XK → Prop} (h : EvM K tm ρ C fs) : EvS K (tMkV tm) ρ (.exc C fs) := fun A H σ B w r Q q => h A H σ B w r _ fun d H1 e x => ⟨C, rfl, fun a na => by
  have w1 := (et_step w r e).1
  refine q (.ref a) _ [] (e.tr (Ex.new na)) (fun _ h => nomatch h) ?_
  rw [Own.and_nil]
  have nA : ¬ A a := fun z => w1 a z na
  rcases x with ⟨rfl, rfl⟩ | ⟨dd, rfl, s⟩
  · exact .exc0 ⟨upd_same, nA⟩
  · exact .exc1 ⟨upd_same, nA⟩ ⟨Ex.new na dd _ s.1, s.2⟩⟩
/-! ### try -/
theorem EnvR.put (r : EnvR K A H σ ρ B) : ∀ i x, ∃ B', EnvR K A H (σ.set i x) (ρ.set i none) B' ∧ ∀ a ∈ B', a ∈ B := by
  induction r with
  | nil => exact fun i x => ⟨[], .nil, fun _ h => h⟩
  | any r ih =>
    intro i x
    cases i with
    | zero => exact ⟨_, .any r, fun _ h => h⟩
    | succ i =>
      obtain ⟨B', e, s⟩ := ih i x
      exact ⟨B', .any e, s⟩
  | val r1 r2 n ih =>
    intro i x
    cases i with
    | zero => exact ⟨_, .any r2, fun _ h => List.mem_append_right _ h⟩
    | succ i =>
      obtain ⟨B', e, s⟩ := ih i x
      exact ⟨_, .val r1 e fun a h z => n a h (s a z), fun a h => (List.mem_append.mp h).elim (List.mem_append_left _) fun z => List.mem_append_right _ (s a z)⟩
theorem run_keep_ok {c : Value} {tb : WX → TS} (h : ∀ W, Run K W (tb W) ρ (.nx ρ')) : Run K W (tKeep K c i j tb) ρ (.nx ρ') := fun A0 H σ B E w r p => h (wKeep K c i j E) A0 H σ B E w r p
theorem run_keep_rt {c : Value} {tb : WX → TS} (h : ∀ W, Run K W (tb W) ρ (.rt d)) : Run K W (tKeep K c i j tb) ρ (.rt d) := fun A0 H σ B E w r p => h (wKeep K c i j E) A0 H σ B E w r p
theorem run_keep_er {c : Value} {tb : WX → TS} {fs : List (Str × V)} (h : ∀ W, Run K W (tb W) ρ (.er C fs ρ')) (hm : PySem.W.exmOne K (.ref C) c = some true) : Run K W (tKeep K c i j tb) ρ (.nx (((ρ'.set i none).set j (some (.exc C fs))).set i none)) := fun A0 H σ B E w r p =>
  h (wKeep K c i j E) A0 H σ B E w r fun d H1 σ1 B1 s r1 x => ⟨hm, C, rfl, fun a na => by
    have w1 := (w.step s).wa r1
    have nA : ¬ (A0.and B1) a := fun z => w1 a z na
    have e2 : Ex H1 (upd H1 a (EX a C d)) := Ex.new na
    obtain ⟨w2, r2⟩ := et_step w1 r1 e2
    obtain ⟨B2, r3, s3⟩ := r2.put i (some (.ref a))
    have ex : Rp K (A0.and B1) (upd H1 a (EX a C d)) (.ref a) (.exc C fs) [] := by
      rcases x with ⟨rfl, rfl⟩ | ⟨dd, rfl, s⟩
      · exact .exc0 ⟨upd_same, nA⟩
      · exact .exc1 ⟨upd_same, nA⟩ ⟨e2 dd _ s.1, s.2⟩
    obtain ⟨B3, r4, s4⟩ := r3.set ex (fun _ h => nomatch h) j
    obtain ⟨B4, r5, s5⟩ := r4.put i none
    have sub : ∀ b ∈ B4, b ∈ B1 := fun b hb => (s4 b (s5 b hb)).elim (fun z => nomatch z) (s3 b)
    exact p _ _ B4 (s.trans (.ex e2 fun b hb => .inl (sub b hb))) (r5.keep (keep_less (fun b z => z.imp id (sub b)) fun b hb => .inr hb))⟩
/-! ### while -/
theorem run_while (n : Nat) (R : Nat → Env) (h0 : Weak ρ (R 0)) (hc : ∀ k, k ≤ n → EvT K tt (R k) (decide (k < n))) (hs : ∀ k, k < n → Run K W tb (R k) (.nx (R (k + 1)))) : Run K W (tWhile tt tb) ρ (.nx (R n)) := fun A0 H σ B E w r p => by
  refine ⟨fun m σ1 H1 => ∃ k, k ≤ n ∧ m = n - k ∧ ∃ B1, Step B H B1 H1 ∧ EnvR K (A0.and B1) H1 σ1 (R k) B1, ⟨n, 0, Nat.zero_le _, rfl, ?_⟩, ?_⟩
  · obtain ⟨B2, r2, s2⟩ := r.weak h0
    exact ⟨B2, .ex Ex.rfl' fun a h => .inl (s2 a h), r2.keep (keep_less (fun a z => z.imp id (s2 a)) fun a h => .inr h)⟩
  · rintro m σ1 H1 ⟨k, hk, rfl, B1, s1, r1⟩
    refine (hc k hk).run (w.step s1) r1 fun H2 s2 r2 => ?_
    by_cases hlt : k < n
    · rw [if_pos (decide_eq_true hlt)]
      refine ⟨fun σ3 H3 => ∃ B3, Step B H B3 H3 ∧ EnvR K (A0.and B3) H3 σ3 (R (k + 1)) B3, fun σ3 H3 hz => ⟨n - (k + 1), by omega, k + 1, hlt, rfl, hz⟩, ?_⟩
      exact hs k hlt A0 H2 σ1 B1 _ ((w.step s1).step s2) r2 fun H3 σ3 B3 s3 r3 => ⟨B3, s1.trans (s2.trans s3), r3⟩
    · rw [if_neg (by simpa using hlt)]
      have : k = n := by omega
      subst this
      exact p H2 σ1 B1 (s1.trans s2) r2
/-! ### a, b = .. -/
def TakesS (K : PySem.W.Frag) (g : TGs) (own : Option (List Nat)) (ds : List D) (ρ ρ' : Env) : Prop := ∀ (A : Own) (H : Hp) (σ : L2.St) (B : List Addr) (xs : List V), WA A H → EnvR K A H σ ρ B → RpAll K A H xs ds [] → ∀ Q : L2.St → Hp → Prop,
  (∀ σ' B', (∀ vs, own = some vs → L2.wipe σ' vs = L2.wipe σ vs) → (∀ a ∈ B', a ∈ B) → EnvR K A H σ' ρ' B' → Q σ' H) → g xs σ H Q
theorem takes_nil {own : Option (List Nat)} : TakesS K gNil own [] ρ ρ := fun A H σ B xs w r p Q q => by
  cases p
  exact ⟨rfl, q σ B (fun _ _ => rfl) (fun _ h => h) r⟩
theorem RpAll.cons0 {xs : List V} (h : RpAll K A H xs (d :: ds) []) : ∃ x ys, xs = x :: ys ∧ Rp K A H x d [] ∧ RpAll K A H ys ds [] := by
  generalize hB : ([] : List Addr) = B at h
  generalize hD : d :: ds = D0 at h
  cases h with
  | nil => cases hD
  | cons r t n =>
    cases hD
    obtain ⟨rfl, rfl⟩ := List.append_eq_nil_iff.mp hB.symm
    exact ⟨_, _, rfl, r, t⟩
theorem takes_cons {own : Option (List Nat)} {gs : TGs} (h : FP.Takes K g own d ρ ρ') (hs : TakesS K gs own ds ρ' ρ2) : TakesS K (gCons g gs) own (d :: ds) ρ ρ2 := fun A H σ B xs w r p Q q => by
  obtain ⟨x, ys, rfl, p1, p2⟩ := p.cons0
  refine ⟨x, ys, rfl, h A H σ B x w r p1 _ fun σ1 B1 h1 s1 r1 => hs A H σ1 B1 ys w r1 p2 Q fun σ2 B2 h2 s2 r2 => q σ2 B2 (fun vs e => (h2 vs e).trans (h1 vs e)) (fun a h => s1 a (s2 a h)) r2⟩
theorem takes_tup {own : Option (List Nat)} {gs : TGs} {n : Nat} (hn : ds.length = n) (hs : TakesS K gs own ds ρ ρ') : FP.Takes K (gTup K n gs) own (.tup false ds) ρ ρ' := fun A H σ B v w r p Q q => by
  obtain ⟨a, xs, C, rfl, h1, h2, _, h4⟩ := p.tup
  obtain rfl := h4 rfl
  exact ⟨a, xs, rfl, h1, by rw [h2.len]; exact hn, hs A H σ B xs w r h2 Q q⟩
theorem run_asgT (h : EvS K te ρ d) (hd : d.shd = true) (tk : FP.Takes K g none d ρ ρ') : Run K W (tAsg te g) ρ (.nx ρ') := fun A0 H σ B E w r p =>
  h.run w r fun v H1 C e f r1 p1 n => by
    obtain rfl := p1.shd _ hd
    have w1 := (w.step (.ex e fun _ z => .inl z : Step B H B H1)).wa (A0 := A0) (et_step (w.wa r) r e).2
    refine tk (A0.and B) H1 σ B v w1 (et_step (w.wa r) r e).2 (p1.keep _ (keep_less (fun a z => z) fun _ h => nomatch h)) _ fun σ2 B2 _ sb r2 => ?_
    exact p H1 σ2 B2 (.ex e fun a h => .inl (sb a h)) (r2.keep (keep_less (fun a z => z.imp id (sb a)) fun a h => .inr h))
/-- name[k].append(e): a list of one's own within a tuple of one's own -/
theorem RpAll.upd1 : ∀ {ds : List D} {xs : List V} {B : List Addr} {k : Nat} {e : D}, RpAll K A H xs ds B → ds[k]? = some e → ∃ v Bk, xs[k]? = some v ∧ Rp K A H v e Bk ∧ (∀ a ∈ Bk, a ∈ B) ∧
    ∀ (A' : Own) (H' : Hp) (e' : D) (B' : List Addr), (∀ B0, (∀ a ∈ B0, a ∈ B ∧ a ∉ Bk) → Keep A H B0 A' H') → Rp K A' H' v e' B' → (∀ a ∈ B', a ∈ Bk ∨ a ∉ B) → ∃ B2, RpAll K A' H' xs (ds.set k e') B2 ∧ ∀ a ∈ B2, a ∈ B' ∨ a ∈ B
  | _, _, _, k, _, .nil, h => by simp at h
  | d :: ds, v :: vs, _, 0, _, .cons (B := B1) (C := B2) r t n, h => by
    cases (show d = _ from by simpa using h)
    refine ⟨v, B1, rfl, r, fun a h => List.mem_append_left _ h, fun A' H' e' B' kp p s => ⟨B' ++ B2, .cons p (t.keep _ (kp B2 fun a h => ⟨List.mem_append_right _ h, fun z => n a z h⟩)) fun a h z => ?_, fun a h => (List.mem_append.mp h).imp id fun z => List.mem_append_right _ z⟩⟩
    rcases s a h with q | q
    · exact n a q z
    · exact q (List.mem_append_right _ z)
  | d :: ds, v :: vs, _, k + 1, e, .cons (B := B1) (C := B2) r t n, h => by
    obtain ⟨v', Bk, h1, h2, h3, kk⟩ := RpAll.upd1 t (k := k) (e := e) (by simpa using h)
    refine ⟨v', Bk, by simpa using h1, h2, fun a h => List.mem_append_right _ (h3 a h), fun A' H' e' B' kp p s => ?_⟩
    obtain ⟨B3, r3, s3⟩ := kk A' H' e' B' (fun B0 h0 => kp B0 fun a h => ⟨List.mem_append_right _ (h0 a h).1, (h0 a h).2⟩) p fun a h => (s a h).imp id fun z q => z (List.mem_append_right _ q)
    refine ⟨B1 ++ B3, .cons (r.keep _ (kp B1 fun a h => ⟨List.mem_append_left _ h, fun z => n a h (h3 a z)⟩)) r3 fun a h z => ?_, fun a h => ?_⟩
    · rcases s3 a z with q | q
      · rcases s a q with q | q
        · exact n a h (h3 a q)
        · exact q (List.mem_append_left _ h)
      · exact n a h q
    · rcases List.mem_append.mp h with h | h
      · exact .inr (List.mem_append_left _ h)
      · exact (s3 a h).imp id fun z => List.mem_append_right _ z
theorem run_append_tup {k : Nat} {n : Int} (hi : ρ[i]? = some (some (.tup true ds))) (hk : ds[k]? = some (.lst true es)) (hn : n = (k : Nat)) (he : EvS K te ρ d) (hl : es.length < sizeLine) :
    Run K W (tDrop (tBM K "list" rAppend (tOp (rIx K) (tVar i) (tC (.int n))) (tCons te tNil))) ρ (.nx (ρ.set i (some (.tup true (ds.set k (.lst true (es ++ [d]))))))) := fun A0 H σ B E w r p => by
  subst hn
  obtain ⟨v, Bi, h1, h2, h3, _⟩ := r.mut hi
  cases h2 with
  | @tupO a xs _ B1 ha hA hna r1 =>
  obtain ⟨y, Bk, hy, hr, sk, _⟩ := r1.upd1 hk
  cases hr with
  | @lstO l ys _ Bl hl1 hl2 hl3 rl =>
  have hat : atI xs (k : Nat) = some (.ref l) := by
    obtain ⟨hlt, hyy⟩ := List.getElem?_eq_some_iff.mp hy
    unfold atI ixN
    have c1 : (0 : Int) ≤ (k : Nat) := by omega
    first
    | (rw [if_pos c1]; simp [hlt, hyy])
    | (simp [hlt, hyy])
  refine ⟨.ref a, h1, .inr (.inl ⟨a, xs, (k : Nat), .ref l, rfl, rfl, .inl (.inl ha), hat, .inl ⟨rfl, ys, .inl (.inl hl1)⟩, ?_⟩)⟩
  refine he.run w r fun v1 H1 C1 e f r2 q2 n2 => ?_
  obtain ⟨v', Bi', h1', h2', h3', kk⟩ := r2.mut hi
  rw [h1] at h1'
  cases h1'
  have ha' := e _ _ ha
  cases h2' with
  | @tupO _ xs' _ B1' ha2 hA' hn' r1' =>
  rw [ha'] at ha2
  cases ha2
  obtain ⟨y', Bk', hy', hr', sk', k1⟩ := r1'.upd1 hk
  rw [hy] at hy'
  cases hy'
  have hl' := e _ _ hl1
  cases hr' with
  | @lstO _ ys' _ Bl' hl2' hA2 hn2 rl' =>
  rw [hl'] at hl2'
  cases hl2'
  refine ⟨l, ys, v1, rfl, rfl, hl', by rw [rl'.len]; exact hl, ?_⟩
  have lB : l ∈ B := h3' l (List.mem_cons_of_mem _ (sk' l List.mem_cons_self))
  have nl : l ∉ C1 := fun z => n2 l z lB
  have nBl : ∀ b ∈ Bl', b ∉ C1 := fun b hb z => n2 b z (h3' b (List.mem_cons_of_mem _ (sk' b (List.mem_cons_of_mem _ hb))))
  have kp : ∀ B0, l ∉ B0 → (∀ b ∈ B0, (A0.and (C1 ++ B)) b) → Keep (A0.and (C1 ++ B)) H1 B0 (A0.and (C1 ++ B)) (upd H1 l (.lst (ys ++ [v1]))) := fun B0 z hB => keep_upd hA2 z hB
  have q := rl'.snoc q2 nBl
  have nn : l ∉ Bl' ++ C1 := fun z => (List.mem_append.mp z).elim hn2 nl
  have al : a ≠ l := fun z => hn' (by rw [z]; exact sk' l List.mem_cons_self)
  obtain ⟨B3, r3, s3⟩ := k1 (A0.and (C1 ++ B)) (upd H1 l (.lst (ys ++ [v1]))) (.lst true (es ++ [d])) (l :: (Bl' ++ C1))
    (fun B0 h0 => kp B0 (fun z => (h0 l z).2 List.mem_cons_self) fun b hb => .inr (List.mem_append_right _ (h3' b (List.mem_cons_of_mem _ (h0 b hb).1))))
    (.lstO upd_same hA2 nn (q.keep _ (kp _ nn fun b hb => (q.tracked _ b hb).2)))
    (fun b hb => (List.mem_cons.mp hb).elim (fun z => .inl (z ▸ List.mem_cons_self)) fun hb => (List.mem_append.mp hb).elim (fun z => .inl (List.mem_cons_of_mem _ z)) fun z => .inr fun m => n2 b z (h3' b (List.mem_cons_of_mem _ m)))
  have s3a : ∀ b ∈ B3, b ∈ C1 ∨ b ∈ B1' := fun b hb => by
    rcases s3 b hb with z | z
    · rcases List.mem_cons.mp z with z | z
      · rw [z]; exact .inr (sk' l List.mem_cons_self)
      · exact (List.mem_append.mp z).elim (fun z => .inr (sk' b (List.mem_cons_of_mem _ z))) .inl
    · exact .inr z
  have na3 : a ∉ B3 := fun z => (s3a a z).elim (fun z => n2 a z (h3' a List.mem_cons_self)) hn'
  obtain ⟨B4, r4, s4⟩ := kk (A0.and (C1 ++ B)) (upd H1 l (.lst (ys ++ [v1]))) (.tup true (ds.set k (.lst true (es ++ [d])))) (a :: B3)
    (fun B0 h0 => kp B0 (fun z => (h0 l z).2 (List.mem_cons_of_mem _ (sk' l List.mem_cons_self))) fun b hb => .inr (List.mem_append_right _ (h0 b hb).1))
    (.tupO (by rw [upd_ne al]; exact ha') hA' na3 r3)
    (fun b hb => (List.mem_cons.mp hb).elim (fun z => .inl (z ▸ List.mem_cons_self)) fun hb => (s3a b hb).elim (fun z => .inr (n2 b z)) fun z => .inl (List.mem_cons_of_mem _ z))
  have s4' : ∀ b ∈ B4, b ∈ C1 ∨ b ∈ B := fun b hb => by
    rcases s4 b hb with z | z
    · rcases List.mem_cons.mp z with z | z
      · rw [z]; exact .inr (h3' a List.mem_cons_self)
      · exact (s3a b z).imp id fun z => h3' b (List.mem_cons_of_mem _ z)
    · exact .inr z
  refine p _ σ B4 ⟨fun b o hb nb => ?_, fun b hb => ?_, fun b hb => ?_⟩ (r4.keep (keep_less (fun b z => z.imp id fun z => List.mem_append.mpr (s4' b z)) fun b hb => .inr hb))
  · rw [upd_ne fun z => nb (by rw [z]; exact lB)]
    exact e _ _ hb
  · by_cases hz : b = l
    · rw [hz, upd_same]; simp
    · rw [upd_ne hz]; exact e.ne hb
  · exact (s4' b hb).elim (fun z => .inr (f b z)) .inl
end
end FP

namespace FP
open PySem PySem.Spec PyProof.Rows L2

/-! ### enumerate(list, start=k) -/
def Its (K : PySem.W.Frag) (k : Int) (a : Addr) : It where
  go := fun i H => ∃ (xs : List V) (x : V), SqL K H a xs ∧ xs[i]? = some x
  yld := fun i H v H' => ∃ T x, v = .ref T ∧ H T = none ∧ H' = upd H T (.tup [.int (k + (i : Nat)), x]) ∧ ∀ xs, SqL K H a xs → xs[i]? = some x
  stop := fun i H => ∃ xs : List V, SqL K H a xs ∧ xs.length ≤ i
theorem turn_enumS {P : Program} {w : World} {K : PySem.W.Frag} {elts : List Expr} {kk : Nat} {tpos : Pos} (k : Int) (a e it : Addr) :
    Turn P w K (.Tuple elts kk tpos) (Its K k a) [e, it] e (fun i h => (∃ old, IsEnum h e it (k + ((i : Nat) : Int)) old) ∧ h.IsListIter it a i ∧ e ≠ it) where
  mem := List.mem_cons_self
  obj := fun i h st b hb => by
    obtain ⟨⟨old, he⟩, ⟨o, ho, hc, hd⟩, _⟩ := st
    rcases List.mem_cons.mp hb with rfl | hb
    · exact ⟨_, he, fun v q => nomatch q⟩
    · cases List.mem_singleton.mp hb
      exact ⟨o, ho, fun v q => by rw [hd] at q; cases q⟩
  keep := fun i h h' st kp => ⟨st.1.imp fun old he => kp e List.mem_cons_self _ he, st.2.1.at fun o q => kp it (by simp) o q, st.2.2⟩
  item := by
    intro X hP hw hK hc i pins s σ H E I hf st hg
    subst hP hw hK
    obtain ⟨⟨old, he⟩, hit, hne⟩ := st
    obtain ⟨xs, x, hq, hx⟩ := hg
    obtain ⟨its, rv, p, hz⟩ := I.list hq
    obtain ⟨u, hu, ru⟩ := rv.get hx
    have hla : s.heap.IsList a its.toArray := p.isList
    have nea : e ≠ a := fun z => by
      obtain ⟨o, ho, hcl, _⟩ := hla
      rw [← z, he] at ho
      cases ho
      exact absurd (show Value.type "enumerate" = Value.type "list" from hcl) (by decide)
    have nia : a ≠ it := fun z => by
      obtain ⟨o, ho, hcl, _⟩ := hla
      obtain ⟨o2, ho2, hc2, _⟩ := hit
      rw [z, ho2] at ho
      cases ho
      rw [hc2] at hcl
      exact absurd hcl (by decide)
    have hel : e < s.heap.objs.size := Heap.lt_size he
    have hil : it < s.heap.objs.size := by obtain ⟨_, q, _⟩ := hit; exact Heap.lt_size q
    have hhd : X.A.in1.handled = none := I.ok.hd hc
    refine wpAny_pyNext_enum_itemC (Draws.list hhd it a nia its.toArray) he ⟨hit, hla⟩ (Array.getElem?_eq_some_iff.mp (show its.toArray[i]? = some u by simpa using hu)).1 hne (by simpa using ⟨hne, nea⟩) fun y h' tk hP ho hst hT hsz hk => ?_
    have ey : y = u := by
      have z : its.toArray[i]? = some u := by simpa using hu
      rw [z] at hP
      exact (Option.some.inj hP).symm
    subst ey
    refine ⟨_, rfl, wpAny_letOwnedTupleGo_enum (s := { s with heap := h', toks := tk + 1 }) ho fun h'' he' sb => ?_⟩
    have hT2 : h''.get? s.heap.objs.size = some { cls := .type "tuple", data := .seq #[.int (k + (i : Nat)) tk, y] } := (sb.2 _ (Nat.ne_of_gt hel)).trans hT
    have new : ObjOk X.prog X.w (upd H s.heap.objs.size (.tup [.int (k + (i : Nat)), x])) h'' s.heap.objs.size (.tup [.int (k + (i : Nat)), x]) :=
      ⟨by show 2 ≤ sizeLine; decide, [.int (k + (i : Nat)) tk, y], .cons ⟨_, rfl⟩ (.cons ru .nil), ⟨_, hT2, rfl, _, rfl⟩⟩
    refine ⟨.ref s.heap.objs.size, _, I.turnedNew (t' := tk + 1) (ch := [e, it]) (fun b ob hb q => (sb.2 b fun z => hb (by simp [z])).trans (hk b ob (fun z => hb (by simp [z])) (fun z => hb (by simp [z])) q)) hf (Nat.le_refl _) new, rfl,
      ⟨_, x, rfl, I.hok.fresh (Nat.le_refl _), rfl, fun ys hy => by rw [I.list_inj hy hq]; exact hx⟩, ⟨⟨y, ?_⟩, hst.1.at fun o q => (sb.2 it (Ne.symm hne)).trans q, hne⟩, fun b hb => ?_⟩
    · have e1 : k + ((i + 1 : Nat) : Int) = k + (i : Nat) + 1 := by omega
      rw [e1]
      exact he'
    · have hb' : b < s.heap.objs.size := by
        rcases List.mem_cons.mp hb with rfl | hb
        · exact hel
        · cases List.mem_singleton.mp hb
          exact hil
      rw [upd_ne (Nat.ne_of_lt hb')]
      exact (hf b hb).1
  done := by
    intro X hP hw hK hc i pins s σ H E I hf st hg
    subst hP hw hK
    obtain ⟨⟨old, he⟩, hit, hne⟩ := st
    obtain ⟨xs, hq, hx⟩ := hg
    obtain ⟨its, rv, p, hz⟩ := I.list hq
    obtain ⟨f0, f1, f2, f3, f4, f5⟩ := hf it (by simp)
    have hl := rv.length
    have hhd : X.A.in1.handled = none := I.ok.hd hc
    have D : Draws X.prog X.w X.A.in1 it [it, a] i (fun _ _ => False) (fun j h => j = i ∧ h.IsListIter it a i ∧ h.IsList a its.toArray) := {
      live := fun _ _ st => let ⟨o, ho, _⟩ := st.2.1; ⟨o, ho⟩
      frame := fun _ _ _ st hk => ⟨st.1, st.2.1.at fun o e => hk it (by simp) o e, st.2.2.at fun o e => hk a (by simp) o e⟩
      item := fun j s Q E hi st _ => absurd st.1 (Nat.ne_of_lt hi)
      done := fun s Q E st hE => wpAny_nextOf_list_end hhd st.2.1 st.2.2 (by simp; omega) hE }
    exact wpAny_pyNext_enum_endD D he ⟨rfl, hit, p.isList⟩ fun h' eb => ⟨rfl, I.turned (t' := s.toks) (fun b o hb q => eb b o hb q) f0 f1 f3 f4 f5⟩
  self := fun A i s Q E st h => wpAny_pyIter_enum st.1.choose_spec h
section
variable {M : Model} {A : Around} {E : Value → Shared → Prop} {s : Shared}
theorem callWith_typeKw {pos : Pos} {T : String} {x : Sem Value} {rest : List (Bool × Sem Value)} {kws : List (Option Str × Sem Value)} {Q : Value → Shared → Prop} (h1 : rest.any (·.1) = false) (h2 : kws.any (·.1.isNone) = false) (h3 : kws.all (·.1.isSome) = true)
    (h : wpAny M A (spliced ((false, x) :: rest)) (fun vs s₁ => wpAny M A (evalAll (kws.map (·.2))) (fun ws s₂ => wpAny M A (call (.type T) vs ((kws.filterMap (·.1)).zip ws)) Q E s₂) E s₁) E s) : wpAny M A (callWith pos (.type T) [] ((false, x) :: rest) kws) Q E s := by
  have hp : (((false, x) :: rest).any (·.1)) = false := by
    rw [List.any_cons, h1]
    rfl
  unfold callWith
  refine wpAny_bind (wpAny_holding (wpAny_mono (evalArgs_kwB (Q := fun a s₁ => wpAny M A (call (.type T) ([] ++ a.pos) a.kw) Q E s₁) h3 h) (fun a s₁ ha => wpAny_bind (wpAny_standAt ?_)) fun _ _ z => z))
  simp only [hp, h2, Bool.or_false]
  exact wpAny_bind (wpAny_pure (wpAny_bind (wpAny_mono ha (fun r s₂ hr => wpAny_bind (wpAny_holding (wpAny_point (wpAny_pure hr)))) fun _ _ z => z)))
end
def iEnumS (K : PySem.W.Frag) (k : Int) (ta : TA) : TI := fun σ H R => ta σ H fun vs H1 => ∃ a xs, vs = [.ref a] ∧ SqL K H1 a xs ∧ R (Its K k a) H1
theorem pi_enumS {X : Cx} {e : Expr} {k : Int} {ta : TA} {p pos tpos p3 p4 : Pos} {elts : List Expr} {kk j : Nat} (hg : Gl X "enumerate") (hm : X.mg "enumerate" = none) (ha : PA X [e] ta) (h0 : -(2 ^ 63) ≤ k) (h1 : k < 2 ^ 63) (hs : starEach [e] X.env = [(false, eval e X.env)] := by rfl) :
    PI X (.Tuple elts kk tpos) (.Call (.Name "enumerate" p) [e] [⟨some (Str.ofString "start"), .Constant (.int k) j p3, p4⟩] pos) (iEnumS X.K k ta) := by
  refine ⟨fun pins s σ H R I h => ?_⟩
  refine wpAny_Call_Name_kw (ld_blt I hg hm boot_enumerate ?_)
  have hk : PK X [⟨some (Str.ofString "start"), .Constant (.int k) j p3, p4⟩] (tCons (tC (.int k)) tNil) := pk_cons pe_int pk_nil
  rw [hs]
  have hrun := ha.run pos pins s σ H _ I h
  rw [hs] at hrun
  refine callWith_typeKw rfl rfl rfl (thn hrun fun us s1 ⟨vs, H1, I1, r1, q1⟩ => thn (hk.run pos pins s1 σ H1 (fun ws H2 => ws = [.int k] ∧ H2 = H1) I1 ⟨rfl, rfl⟩) fun ws s2 ⟨zs, H2, I2, r2, e1, e2⟩ => ?_)
  subst e1 e2
  obtain ⟨a, xs, rfl, hq, q⟩ := q1
  cases r1 with
  | cons r rr =>
    cases rr
    cases r
    cases r2 with
    | cons r3 rr3 =>
      cases rr3
      obtain ⟨tk, rfl⟩ := r3
      obtain ⟨its, rv, p', hz⟩ := I2.list hq
      refine enum_begins_start (begins_list a its.toArray) p'.isList h0 h1 fun h' he ho hsz hkp => wpAny_pyIter_enum he ?_
      have J : Inv X pins σ H2 { s2 with heap := h' } := I2.kept (t' := s2.toks) hkp
      refine ⟨s2.heap.objs.size + 1, [s2.heap.objs.size + 1, s2.heap.objs.size], _, _, H2, rfl, J, turn_enumS k a (s2.heap.objs.size + 1) s2.heap.objs.size, ⟨⟨.none, by simpa using he⟩, ⟨_, ho, rfl, rfl⟩, Nat.succ_ne_self _⟩, fun b hb => ?_, q⟩
      have hle : s2.heap.objs.size ≤ b := by
        rcases List.mem_cons.mp hb with rfl | hb
        · exact Nat.le_succ _
        · cases List.mem_singleton.mp hb
          exact Nat.le_refl _
      exact I2.fpOk hle (I2.hok.fresh hle)
theorem pi_enumSK {X : Cx} {K : PySem.W.Frag} {e : Expr} {k : Int} {ta : TA} {p pos tpos p3 p4 : Pos} {elts : List Expr} {kk j : Nat} (eK : X.K = K) (hg : Gl X "enumerate") (hm : X.mg "enumerate" = none) (ha : PA X [e] ta) (h0 : -(2 ^ 63) ≤ k := by decide) (h1 : k < 2 ^ 63 := by decide) (hs : starEach [e] X.env = [(false, eval e X.env)] := by rfl) :
    PI X (.Tuple elts kk tpos) (.Call (.Name "enumerate" p) [e] [⟨some (Str.ofString "start"), .Constant (.int k) j p3, p4⟩] pos) (iEnumS K k ta) := eK ▸ pi_enumS hg hm ha h0 h1 hs
def enumS (k : Int) (ds : List D) : List D := ds.mapIdx fun i d => .tup false [.int (k + (i : Nat)), d]
theorem walks_enumS {K : PySem.W.Frag} {ρ : Env} {ds : List D} {k : Int} {ta : TA} (h : EvA K ta ρ [.lst false ds]) : Walks K (iEnumS K k ta) ρ (enumS k ds) := fun A H σ B w r R kk =>
  h A H σ B w r _ fun vs H1 C e f p1 => by
    obtain ⟨x, rfl, p2⟩ := p1.one
    obtain rfl := p2.shd _ rfl
    rw [Own.and_nil] at p2
    cases p2 with
    | @lstS a xs _ hs ra =>
    have hq0 : ∀ {A' H'}, Keep A H1 [] A' H' → SqL K H' a xs := fun kp => hs.elim (fun hs => .inl (hs.keep kp).1) .inr
    refine ⟨a, xs, rfl, hs.imp (fun h => h.1) id, kk _ H1 e fun i A' H' kp w' => ?_⟩
    have hq : SqL K H' a xs := hq0 kp
    refine ⟨fun hi => ⟨xs, hq, by rw [ra.len]; simpa [enumS] using hi⟩, fun d hd => ?_⟩
    unfold enumS at hd
    rw [List.getElem?_mapIdx] at hd
    cases hd0 : ds[i]? with
    | none => rw [hd0] at hd; cases hd
    | some d0 =>
      rw [hd0] at hd
      have hd' : D.tup false [.int (k + (i : Nat)), d0] = d := Option.some.inj hd
      subst hd'
      obtain ⟨x, hx, rx⟩ := ra.at0 hd0
      refine ⟨⟨xs, x, hq, hx⟩, fun y H'' hy => ?_⟩
      obtain ⟨T, x', rfl, hT, rfl, fy⟩ := hy
      have ey := fy xs hq
      rw [hx] at ey
      cases ey
      have nT : ¬ A' T := fun z => w' T z hT
      refine ⟨Ex.new hT, .tupS (.inl ⟨.inl upd_same, nT⟩) (RpAll.cons (B := []) (C := []) (.sc _) (RpAll.cons (B := []) (C := []) ((rx.keep _ kp).keep _ ⟨fun b o hb nb => ⟨Ex.new hT b o hb, nb⟩, fun _ _ h => nomatch h⟩) .nil fun _ h => nomatch h) fun _ h => nomatch h)⟩
/-! ### an __init__ -/
section
variable {P : Program} {w : World} {K : PySem.W.Frag} {mg : Str → Option Value} {base : Heap}
theorem spI_len {C : Addr} {R : List D → Mkd → Prop} {n : Nat} (h : ∀ ds z, R ds z → ds.length = n) : ∀ vs H Q E, spI K C R vs H Q E → vs.length = n + 1 := fun vs H Q E ⟨A, x, dx, ws, ds, r, e, _, _, _, ra, hr, _⟩ => by
  rw [e, List.length_cons, ra.len, h ds r hr]
def envI (N : List Str) (a C : Addr) (ds : List D) : Env := (D.ins (.at a) C [] [] :: ds).map some ++ List.replicate (N.length - (ds.length + 1)) none
/-- how the body of an __init__ may end -/
def EndsI (a C : Addr) (r : Mkd) (o : Out) : Prop := match r with
  | .ok fs ds => ∃ ρ, o = .nx ρ ∧ ρ[0]? = some (some (.ins (.at a) C fs ds))
  | .er C' fs => ∃ ρ, o = .er C' fs ρ
theorem ok_ofI {x qual : Str} {st : Stmt} {f C : Addr} {fd : FuncData} {N ps : List Str} {k : Nat} {R : List D → Mkd → Prop} (F : Fun K x qual st f fd) (S : FnScope N ps (defScope st)) (hlen : ∀ ds z, R ds z → ds.length + 1 = ps.length)
    (body : ∀ (cdv : Value) (A : Around) (outer : List PySem.Env) (s : Shared) (H : Hp) (E : XK), Room k (A.deeper (envOfC qual (defScope st) s.heap.objs.size f cdv)) →
      ∃ t, PSs (cxOf (L2.CX P w) P w K mg base N qual (defScope st) f cdv A outer s H E) (defBody st) t ∧ ∀ a ds r, R ds r → ∃ o, Run K (fun cls d _ H => E cls d H) t (envI N a C ds) o ∧ EndsI a C r o) : FnOk P w K mg base (L2.CX P w) (k + 1) f fd ps (spI K C R) := by
  refine F.okX S (fun vs H Q E h => ?_) fun cdv A outer s H vs Q E hr h => ?_
  · obtain ⟨_, _, _, ws, ds, r, rfl, _, _, _, ra, hR, _⟩ := h
    rw [List.length_cons, ra.len, hlen ds r hR]
  obtain ⟨t, ht, hrun⟩ := body cdv A outer s H E hr
  refine ⟨t, ht, ?_⟩
  obtain ⟨A0, a, dx, ws, ds, r, rfl, wa, na, ha, ra, hR, q⟩ := h
  obtain ⟨o, run, he⟩ := hrun a ds r hR
  have w0 : W0 A0 [a] H := ⟨wa, fun b hb z => na (List.mem_singleton.mp z ▸ hb)⟩
  have ri : Rp K (A0.and [a]) H (.ref a) (.ins (.at a) C [] []) [a] := .insA (xs := []) (dx := dx) ha (.inr List.mem_cons_self) (fun h => nomatch h) rfl .nil
  have e0 : EnvR K (A0.and [a]) H (start N (.ref a :: ws)) (envI N a C ds) [a] := by
    unfold L2.start envI
    rw [List.length_cons, ra.len]
    exact envR_of _ (RpAll.cons (B := [a]) (C := []) ri ra fun _ _ h => nomatch h)
  refine run A0 H _ [a] _ w0 e0 ?_
  cases r with
  | ok fs ds' =>
    obtain ⟨ρ, rfl, h0⟩ := he
    intro H' σ' B' s r'
    obtain ⟨v, C1, h1, h2, h3⟩ := r'.get h0
    obtain ⟨a', dx', xs, B1, rfl, _, _, _, _, _, _, hat⟩ := h2.ins
    cases hat a rfl
    exact q H' C1 ⟨s.keep, s.live, fun b hb => s.fresh b (h3 b hb)⟩ (h2.keep _ (keep_less (fun b z => z.imp id (h3 b)) fun b hb => .inr hb))
  | er C' fs =>
    obtain ⟨ρ, rfl⟩ := he
    exact fun d H' σ' B' s r' x => q d H' B' s x
/-! ### o.m(..), nothing of o changed -/
section
variable {X : Cx} {CX : CXT} {k : Nat} {f C : Addr} {fd : FuncData} {ps : List Str} {sp : Sp} {E : XK} {m : Str} {pos apos : Pos} {o : Expr} {to : TE}
def tMeth0 (C : Addr) (m : Str) (sp : Sp) (E : XK) (ta : TE) : TE := fun σ H Q => ta σ H fun x H1 => ∃ a dx fs, x = .ref a ∧ H1 a = some (.ins C dx fs) ∧ fs.lookup m = none ∧ sp [x] H1 Q E
end
theorem ev_meth {ρ : Env} {C : Addr} {m : Str} {R : List D → D → Prop} {E : XK} {to : TE} {t : TA} {fl : Fl} {fs : List Str} {ds es : List D} {z : D} (ho : EvS K to ρ (.ins fl C fs ds)) (hm : m ∉ fs) (ha : EvA K t ρ es) (hz : R (D.frzs (.ins fl C fs ds :: es)) z) :
    EvS K (tMeth C m (spF K R) [] E to t) ρ z := fun A H σ B w r Q q => ho A H σ B w r _ fun v H1 C1 e1 f1 p1 => by
  obtain ⟨a, dx, xs, B1, rfl, h1, h2, h3, _⟩ := p1.ins
  have w1 : WA (A.and C1) H1 := w.and e1 fun a h => (p1.tracked _ a h).1
  have r1 : EnvR K (A.and C1) H1 σ ρ B := r.keep (keep_and w e1 f1 fun a h => (r.tracked a h).2)
  have hl : (fs.zip xs).lookup m = none := by
    have key : ∀ (fs : List Str) (xs : List V), m ∉ fs → (fs.zip xs).lookup m = none := by
      intro fs
      induction fs with
      | nil => intro xs _; rfl
      | cons g fs ih =>
        intro xs hn
        cases xs with
        | nil => rfl
        | cons x xs =>
          rw [List.zip_cons_cons, List.lookup_cons]
          have : (m == g) = false := beq_eq_false_iff_ne.mpr fun z => hn (z ▸ List.mem_cons_self)
          rw [this]
          exact ih xs fun z => hn (List.mem_cons_of_mem _ z)
    exact key fs xs hm
  refine ⟨a, dx, _, rfl, h1, hl, ha (A.and C1) H1 σ B w1 r1 _ fun ws H2 C2 e2 f2 p2 => ?_⟩
  rw [List.append_nil]
  have pa : RpAll K ((A.and C1).and C2) H2 (.ref a :: ws) (.ins fl C fs ds :: es) (C1 ++ C2) := .cons (p1.keep _ (keep_and w1 e2 f2 fun b h => (p1.tracked _ b h).2)) p2 fun b hb z => (p1.tracked _ b hb).1 (f2 b z)
  refine ⟨A, _, z, fun b h => e2.ne (e1.ne (w b h)), pa.loose _ ⟨fun b o h n => ⟨h, fun z => n (.inl (.inl z))⟩, fun b o m h => ⟨h, fun z => ?_⟩⟩, hz, fun y H3 C3 e3 f3 p3 => q y H3 C3 ((e1.tr e2).tr e3) ((f3.back e2).back e1) p3⟩
  rcases List.mem_append.mp m with m | m
  · exact w b z (f1 b m)
  · exact w b z (e1.back (f2 b m))
/-! ### exceptions made -/
def spE (C : Addr) (R : List V → List (Str × V) → Prop) : Sp := fun vs H Q _ => ∃ (a : Addr) (ws : List V) (fs : List (Str × V)), vs = .ref a :: ws ∧ H a = some (exo a C none) ∧ R ws fs ∧
  ∀ d H2, H d = none → d ≠ a → (∀ b o, b ≠ a → H b = some o → H2 b = some o) → H2 a = some (exo a C (some d)) → H2 d = some (exd d fs) → Q .non H2
theorem ev_mko {ρ : Env} {C : Addr} {R : List V → List (Str × V) → Prop} {ta : TA} {ws : List V} {fs : List (Str × V)} (ha : EvA K ta ρ (ws.map D.sc)) (hl : ws.length ≤ 1000) (hR : R ws fs) : EvM K (tMkO C (spE C R) [] ta) ρ C fs := fun A H σ B w r Q q =>
  ha A H σ B w r _ fun vs H1 C1 e f p => by
    obtain rfl := p.scs
    refine ⟨hl, fun a na => ⟨a, vs, fs, by rw [List.append_nil], upd_same, hR, fun d H2 hd ne hk h1 h2 => ⟨rfl, d, fs, h1, h2, ?_, ?_⟩⟩⟩
    · rw [upd_ne ne] at hd
      exact hd
    have hd' : H1 d = none := by
      rw [upd_ne ne] at hd
      exact hd
    have w1 : WA A H1 := fun b h => e.ne (w b h)
    refine q (some d) _ (e.tr fun b o h => ?_) (.inr ⟨d, rfl, upd_same, fun z => w1 d z hd'⟩)
    have nba : b ≠ a := fun z => by rw [z, na] at h; cases h
    have nbd : b ≠ d := fun z => by rw [z, hd'] at h; cases h
    rw [upd_ne nbd, L2.del_ne nba]
    exact hk b o nba (by rw [upd_ne nba]; exact h)
theorem ev_mkT {ρ : Env} {C : Addr} : EvM K (fun _ H Q => Q (.ref C) none H) ρ C [] := fun A H σ B w r Q q => q none H Ex.rfl' (.inl ⟨rfl, rfl⟩)
end
/-- a tuple of texts of the written part -/
theorem ev_kt {K : PySem.W.Frag} {ρ : Env} {a : Addr} {ws : List Str} (h : KT K a (ws.map V.str)) : EvS K (tC (.ref a)) ρ (.tup false (ws.map D.str)) := fun A H σ B w r Q q => by
  refine q (.ref a) H [] Ex.rfl' (fun _ h => nomatch h) ?_
  exact .tupS (.inr h) (RpAll.ofStrs ws)
end FP

namespace K02
open PySem PySem.Spec PyProof.Rows L2 FP
def topS (i : Nat) : Stmt := PySem.Challenge.pw_foldpress_k02_schemes_made.main.body.getD i (.Pass ⟨0, 0, 0, 0⟩)
abbrev s_BadRow___init__ : Stmt := inClass (topS 2) 0
theorem sc_BadRow___init__ : FnScope ["self", "row", "word"] ["self", "row", "word"] (defScope s_BadRow___init__) := ⟨rfl, rfl, rfl, by decide +kernel, rfl, by decide +kernel, by decide +kernel⟩
abbrev s_BadScheme___init__ : Stmt := inClass (topS 3) 0
theorem sc_BadScheme___init__ : FnScope ["self", "at"] ["self", "at"] (defScope s_BadScheme___init__) := ⟨rfl, rfl, rfl, by decide +kernel, rfl, by decide +kernel, by decide +kernel⟩
abbrev s_is_whole : Stmt := topS 9
theorem sc_is_whole : FnScope ["thing"] ["thing"] (defScope s_is_whole) := ⟨rfl, rfl, rfl, by decide +kernel, rfl, by decide +kernel, by decide +kernel⟩
abbrev s_is_among : Stmt := topS 10
theorem sc_is_among : FnScope ["thing", "least", "most"] ["thing", "least", "most"] (defScope s_is_among) := ⟨rfl, rfl, rfl, by decide +kernel, rfl, by decide +kernel, by decide +kernel⟩
abbrev s_Scheme___init__ : Stmt := inClass (topS 17) 0
theorem sc_Scheme___init__ : FnScope ["self", "rows", "columns", "folds", "at", "edge", "many", "way"] ["self", "rows", "columns", "folds"] (defScope s_Scheme___init__) := ⟨rfl, rfl, rfl, by decide +kernel, rfl, by decide +kernel, by decide +kernel⟩
abbrev s_Scheme_told : Stmt := inClass (topS 17) 1
theorem sc_Scheme_told : FnScope ["self"] ["self"] (defScope s_Scheme_told) := ⟨rfl, rfl, rfl, by decide +kernel, rfl, by decide +kernel, by decide +kernel⟩
abbrev s_is_size : Stmt := topS 18
theorem sc_is_size : FnScope ["rows", "columns"] ["rows", "columns"] (defScope s_is_size) := ⟨rfl, rfl, rfl, by decide +kernel, rfl, by decide +kernel, by decide +kernel⟩
abbrev s_first_wrong_fold : Stmt := topS 19
theorem sc_first_wrong_fold : FnScope ["rows", "columns", "folds", "left", "at", "fold"] ["rows", "columns", "folds"] (defScope s_first_wrong_fold) := ⟨rfl, rfl, rfl, by decide +kernel, rfl, by decide +kernel, by decide +kernel⟩
abbrev s_size_after : Stmt := topS 20
theorem sc_size_after : FnScope ["rows", "columns", "fold", "edge", "many", "_"] ["rows", "columns", "fold"] (defScope s_size_after) := ⟨rfl, rfl, rfl, by decide +kernel, rfl, by decide +kernel, by decide +kernel⟩
abbrev s__is_fold : Stmt := topS 21
theorem sc__is_fold : FnScope ["fold", "edge", "many", "way"] ["fold"] (defScope s__is_fold) := ⟨rfl, rfl, rfl, by decide +kernel, rfl, by decide +kernel, by decide +kernel⟩
abbrev s__is_word_of : Stmt := topS 22
theorem sc__is_word_of : FnScope ["thing", "words"] ["thing", "words"] (defScope s__is_word_of) := ⟨rfl, rfl, rfl, by decide +kernel, rfl, by decide +kernel, by decide +kernel⟩
abbrev s__law_mixed : Stmt := topS 24
theorem sc__law_mixed : FnScope ["_law_cell", "_law_k"] ["_law_cell", "_law_k"] (defScope s__law_mixed) := ⟨rfl, rfl, rfl, by decide +kernel, rfl, by decide +kernel, by decide +kernel⟩
abbrev s__law_kinds : Stmt := topS 25
theorem sc__law_kinds : FnScope ["_law_error", "_law_kinds_here", "_law_name", "_law_fits"] ["_law_error"] (defScope s__law_kinds) := ⟨rfl, rfl, rfl, by decide +kernel, rfl, by decide +kernel, by decide +kernel⟩
abbrev s__law_size : Stmt := topS 26
theorem sc__law_size : FnScope ["_law_number", "_law_rows", "_law_columns"] ["_law_number"] (defScope s__law_size) := ⟨rfl, rfl, rfl, by decide +kernel, rfl, by decide +kernel, by decide +kernel⟩
abbrev s__law_folds : Stmt := topS 27
theorem sc__law_folds : FnScope ["_law_rows", "_law_columns", "_law_cells", "_law_number", "_law_folds_here", "_law_own", "_law_is_level", "_law_side", "_law_many", "_law_edge"] ["_law_rows", "_law_columns", "_law_cells", "_law_number"] (defScope s__law_folds) := ⟨rfl, rfl, rfl, by decide +kernel, rfl, by decide +kernel, by decide +kernel⟩
abbrev s__law_scheme : Stmt := topS 28
theorem sc__law_scheme : FnScope ["_law_script", "_law_k", "_law_cells", "_law_whole", "_law_rows", "_law_columns"] ["_law_script", "_law_k"] (defScope s__law_scheme) := ⟨rfl, rfl, rfl, by decide +kernel, rfl, by decide +kernel, by decide +kernel⟩
abbrev s__law_bad_fold : Stmt := topS 29
theorem sc__law_bad_fold : FnScope ["_law_number", "_law_rows", "_law_columns", "_law_some"] ["_law_number", "_law_rows", "_law_columns"] (defScope s__law_bad_fold) := ⟨rfl, rfl, rfl, by decide +kernel, rfl, by decide +kernel, by decide +kernel⟩
abbrev s__law_left : Stmt := topS 30
theorem sc__law_left : FnScope ["_law_rows", "_law_columns", "_law_folds_here", "_law_edge", "_law_many", "_law_way"] ["_law_rows", "_law_columns", "_law_folds_here"] (defScope s__law_left) := ⟨rfl, rfl, rfl, by decide +kernel, rfl, by decide +kernel, by decide +kernel⟩
abbrev s__law_refused : Stmt := topS 31
theorem sc__law_refused : FnScope ["_law_rows", "_law_columns", "_law_folds_here", "_law_wrong", "e"] ["_law_rows", "_law_columns", "_law_folds_here"] (defScope s__law_refused) := ⟨rfl, rfl, rfl, by decide +kernel, rfl, by decide +kernel, by decide +kernel⟩
abbrev s__law_sizes_refused : Stmt := topS 32
theorem sc__law_sizes_refused : FnScope ["_law_number", "_law_rows", "_law_columns", "_law_folds_here", "_law_odd", "_law_other"] ["_law_number", "_law_rows", "_law_columns", "_law_folds_here"] (defScope s__law_sizes_refused) := ⟨rfl, rfl, rfl, by decide +kernel, rfl, by decide +kernel, by decide +kernel⟩
abbrev s__law_by_hand : Stmt := topS 33
theorem sc__law_by_hand : FnScope ["_law_number", "_law_made", "_law_names", "_law_error", "_law_name"] ["_law_number"] (defScope s__law_by_hand) := ⟨rfl, rfl, rfl, by decide +kernel, rfl, by decide +kernel, by decide +kernel⟩
abbrev s_law : Stmt := topS 34
theorem sc_law : FnScope ["_law_script", "_law_whole", "_law_handed", "_law_scheme_here", "_law_turn", "_law_rows", "_law_columns", "_law_folds_here", "_law_told", "_law_number", "_law_at", "_law_left_here", "_law_bad"] ["_law_script"] (defScope s_law) := ⟨rfl, rfl, rfl, by decide +kernel, rfl, by decide +kernel, by decide +kernel⟩
structure Txt (K : PySem.W.Frag) (mg : Str → Option Value) where
  f_BadRow___init__ : Addr
  fd_BadRow___init__ : FuncData
  F_BadRow___init__ : Fun K "__init__" "BadRow.__init__" s_BadRow___init__ f_BadRow___init__ fd_BadRow___init__
  b_BadRow___init__ : Binds K fd_BadRow___init__ ["self", "row", "word"] []
  f_BadScheme___init__ : Addr
  fd_BadScheme___init__ : FuncData
  F_BadScheme___init__ : Fun K "__init__" "BadScheme.__init__" s_BadScheme___init__ f_BadScheme___init__ fd_BadScheme___init__
  b_BadScheme___init__ : Binds K fd_BadScheme___init__ ["self", "at"] []
  f_is_whole : Addr
  fd_is_whole : FuncData
  F_is_whole : Fun K "is_whole" "is_whole" s_is_whole f_is_whole fd_is_whole
  b_is_whole : Binds K fd_is_whole ["thing"] []
  g_is_whole : mg "is_whole" = some (.ref f_is_whole)
  f_is_among : Addr
  fd_is_among : FuncData
  F_is_among : Fun K "is_among" "is_among" s_is_among f_is_among fd_is_among
  b_is_among : Binds K fd_is_among ["thing", "least", "most"] []
  g_is_among : mg "is_among" = some (.ref f_is_among)
  f_Scheme___init__ : Addr
  fd_Scheme___init__ : FuncData
  F_Scheme___init__ : Fun K "__init__" "Scheme.__init__" s_Scheme___init__ f_Scheme___init__ fd_Scheme___init__
  b_Scheme___init__ : Binds K fd_Scheme___init__ ["self", "rows", "columns", "folds"] []
  f_Scheme_told : Addr
  fd_Scheme_told : FuncData
  F_Scheme_told : Fun K "told" "Scheme.told" s_Scheme_told f_Scheme_told fd_Scheme_told
  b_Scheme_told : Binds K fd_Scheme_told ["self"] []
  f_is_size : Addr
  fd_is_size : FuncData
  F_is_size : Fun K "is_size" "is_size" s_is_size f_is_size fd_is_size
  b_is_size : Binds K fd_is_size ["rows", "columns"] []
  g_is_size : mg "is_size" = some (.ref f_is_size)
  f_first_wrong_fold : Addr
  fd_first_wrong_fold : FuncData
  F_first_wrong_fold : Fun K "first_wrong_fold" "first_wrong_fold" s_first_wrong_fold f_first_wrong_fold fd_first_wrong_fold
  b_first_wrong_fold : Binds K fd_first_wrong_fold ["rows", "columns", "folds"] []
  g_first_wrong_fold : mg "first_wrong_fold" = some (.ref f_first_wrong_fold)
  f_size_after : Addr
  fd_size_after : FuncData
  F_size_after : Fun K "size_after" "size_after" s_size_after f_size_after fd_size_after
  b_size_after : Binds K fd_size_after ["rows", "columns", "fold"] []
  g_size_after : mg "size_after" = some (.ref f_size_after)
  f__is_fold : Addr
  fd__is_fold : FuncData
  F__is_fold : Fun K "_is_fold" "_is_fold" s__is_fold f__is_fold fd__is_fold
  b__is_fold : Binds K fd__is_fold ["fold"] []
  g__is_fold : mg "_is_fold" = some (.ref f__is_fold)
  f__is_word_of : Addr
  fd__is_word_of : FuncData
  F__is_word_of : Fun K "_is_word_of" "_is_word_of" s__is_word_of f__is_word_of fd__is_word_of
  b__is_word_of : Binds K fd__is_word_of ["thing", "words"] []
  g__is_word_of : mg "_is_word_of" = some (.ref f__is_word_of)
  f__law_mixed : Addr
  fd__law_mixed : FuncData
  F__law_mixed : Fun K "_law_mixed" "_law_mixed" s__law_mixed f__law_mixed fd__law_mixed
  b__law_mixed : Binds K fd__law_mixed ["_law_cell", "_law_k"] []
  g__law_mixed : mg "_law_mixed" = some (.ref f__law_mixed)
  f__law_kinds : Addr
  fd__law_kinds : FuncData
  F__law_kinds : Fun K "_law_kinds" "_law_kinds" s__law_kinds f__law_kinds fd__law_kinds
  b__law_kinds : Binds K fd__law_kinds ["_law_error"] []
  g__law_kinds : mg "_law_kinds" = some (.ref f__law_kinds)
  f__law_size : Addr
  fd__law_size : FuncData
  F__law_size : Fun K "_law_size" "_law_size" s__law_size f__law_size fd__law_size
  b__law_size : Binds K fd__law_size ["_law_number"] []
  g__law_size : mg "_law_size" = some (.ref f__law_size)
  f__law_folds : Addr
  fd__law_folds : FuncData
  F__law_folds : Fun K "_law_folds" "_law_folds" s__law_folds f__law_folds fd__law_folds
  b__law_folds : Binds K fd__law_folds ["_law_rows", "_law_columns", "_law_cells", "_law_number"] []
  g__law_folds : mg "_law_folds" = some (.ref f__law_folds)
  f__law_scheme : Addr
  fd__law_scheme : FuncData
  F__law_scheme : Fun K "_law_scheme" "_law_scheme" s__law_scheme f__law_scheme fd__law_scheme
  b__law_scheme : Binds K fd__law_scheme ["_law_script", "_law_k"] []
  g__law_scheme : mg "_law_scheme" = some (.ref f__law_scheme)
  f__law_bad_fold : Addr
  fd__law_bad_fold : FuncData
  F__law_bad_fold : Fun K "_law_bad_fold" "_law_bad_fold" s__law_bad_fold f__law_bad_fold fd__law_bad_fold
  b__law_bad_fold : Binds K fd__law_bad_fold ["_law_number", "_law_rows", "_law_columns"] []
  g__law_bad_fold : mg "_law_bad_fold" = some (.ref f__law_bad_fold)
  f__law_left : Addr
  fd__law_left : FuncData
  F__law_left : Fun K "_law_left" "_law_left" s__law_left f__law_left fd__law_left
  b__law_left : Binds K fd__law_left ["_law_rows", "_law_columns", "_law_folds_here"] []
  g__law_left : mg "_law_left" = some (.ref f__law_left)
  f__law_refused : Addr
  fd__law_refused : FuncData
  F__law_refused : Fun K "_law_refused" "_law_refused" s__law_refused f__law_refused fd__law_refused
  b__law_refused : Binds K fd__law_refused ["_law_rows", "_law_columns", "_law_folds_here"] []
  g__law_refused : mg "_law_refused" = some (.ref f__law_refused)
  f__law_sizes_refused : Addr
  fd__law_sizes_refused : FuncData
  F__law_sizes_refused : Fun K "_law_sizes_refused" "_law_sizes_refused" s__law_sizes_refused f__law_sizes_refused fd__law_sizes_refused
  b__law_sizes_refused : Binds K fd__law_sizes_refused ["_law_number", "_law_rows", "_law_columns", "_law_folds_here"] []
  g__law_sizes_refused : mg "_law_sizes_refused" = some (.ref f__law_sizes_refused)
  f__law_by_hand : Addr
  fd__law_by_hand : FuncData
  F__law_by_hand : Fun K "_law_by_hand" "_law_by_hand" s__law_by_hand f__law_by_hand fd__law_by_hand
  b__law_by_hand : Binds K fd__law_by_hand ["_law_number"] []
  g__law_by_hand : mg "_law_by_hand" = some (.ref f__law_by_hand)
  f_law : Addr
  fd_law : FuncData
  F_law : Fun K "law" "law" s_law f_law fd_law
  b_law : Binds K fd_law ["_law_script"] []
  g_law : mg "law" = some (.ref f_law)
  A_PressError : Addr
  m_PressError : mg "PressError" = some (.ref A_PressError)
  xs_PressError : PySem.W.subIn K (.ref A_PressError) (.type "BaseException") = some true
  xt_PressError : PySem.W.typeIn K (.ref A_PressError) = some (.type "type")
  xh_PressError : PySem.W.hasDictIn K A_PressError = true
  ba_PressError : BasC K A_PressError
  A_BadRow : Addr
  m_BadRow : mg "BadRow" = some (.ref A_BadRow)
  xs_BadRow : PySem.W.subIn K (.ref A_BadRow) (.type "BaseException") = some true
  xt_BadRow : PySem.W.typeIn K (.ref A_BadRow) = some (.type "type")
  xh_BadRow : PySem.W.hasDictIn K A_BadRow = true
  k_BadRow : PySem.W.keepIn K (.ref A_BadRow) = true
  ec_BadRow : ExcC K A_BadRow
  xf_BadRow : XfC K A_BadRow
  ex_BadRow_PressError : PySem.W.exmOne K (.ref A_BadRow) (.ref A_PressError) = some true
  ox_BadRow : OexC K A_BadRow
  in_BadRow : PySem.W.findIn K (.ref A_BadRow) "__init__" = some (some (.ref f_BadRow___init__))
  ft_BadRow___init__ : PySem.W.typeIn K (.ref f_BadRow___init__) = some (.type "function")
  nf_BadRow_row : PySem.W.findIn K (.ref A_BadRow) "row" = some none
  nf_BadRow_word : PySem.W.findIn K (.ref A_BadRow) "word" = some none
  A_BadScheme : Addr
  m_BadScheme : mg "BadScheme" = some (.ref A_BadScheme)
  xs_BadScheme : PySem.W.subIn K (.ref A_BadScheme) (.type "BaseException") = some true
  xt_BadScheme : PySem.W.typeIn K (.ref A_BadScheme) = some (.type "type")
  xh_BadScheme : PySem.W.hasDictIn K A_BadScheme = true
  k_BadScheme : PySem.W.keepIn K (.ref A_BadScheme) = true
  ec_BadScheme : ExcC K A_BadScheme
  xf_BadScheme : XfC K A_BadScheme
  ex_BadScheme_PressError : PySem.W.exmOne K (.ref A_BadScheme) (.ref A_PressError) = some true
  ox_BadScheme : OexC K A_BadScheme
  in_BadScheme : PySem.W.findIn K (.ref A_BadScheme) "__init__" = some (some (.ref f_BadScheme___init__))
  ft_BadScheme___init__ : PySem.W.typeIn K (.ref f_BadScheme___init__) = some (.type "function")
  nf_BadScheme_at : PySem.W.findIn K (.ref A_BadScheme) "at" = some none
  A_BadSheet : Addr
  m_BadSheet : mg "BadSheet" = some (.ref A_BadSheet)
  xs_BadSheet : PySem.W.subIn K (.ref A_BadSheet) (.type "BaseException") = some true
  xt_BadSheet : PySem.W.typeIn K (.ref A_BadSheet) = some (.type "type")
  xh_BadSheet : PySem.W.hasDictIn K A_BadSheet = true
  k_BadSheet : PySem.W.keepIn K (.ref A_BadSheet) = true
  ec_BadSheet : ExcC K A_BadSheet
  xf_BadSheet : XfC K A_BadSheet
  ex_BadSheet_PressError : PySem.W.exmOne K (.ref A_BadSheet) (.ref A_PressError) = some true
  q_BadSheet : PySem.W.excIn K A_BadSheet [.type "ValueError", .type "Exception", .type "BaseException", .type "object"] "ValueError.__new__" = true
  A_BadBook : Addr
  m_BadBook : mg "BadBook" = some (.ref A_BadBook)
  xs_BadBook : PySem.W.subIn K (.ref A_BadBook) (.type "BaseException") = some true
  xt_BadBook : PySem.W.typeIn K (.ref A_BadBook) = some (.type "type")
  xh_BadBook : PySem.W.hasDictIn K A_BadBook = true
  k_BadBook : PySem.W.keepIn K (.ref A_BadBook) = true
  ec_BadBook : ExcC K A_BadBook
  xf_BadBook : XfC K A_BadBook
  ex_BadBook_PressError : PySem.W.exmOne K (.ref A_BadBook) (.ref A_PressError) = some true
  q_BadBook : PySem.W.excIn K A_BadBook [.type "ValueError", .type "Exception", .type "BaseException", .type "object"] "ValueError.__new__" = true
  A_TooGreat : Addr
  m_TooGreat : mg "TooGreat" = some (.ref A_TooGreat)
  xs_TooGreat : PySem.W.subIn K (.ref A_TooGreat) (.type "BaseException") = some true
  xt_TooGreat : PySem.W.typeIn K (.ref A_TooGreat) = some (.type "type")
  xh_TooGreat : PySem.W.hasDictIn K A_TooGreat = true
  k_TooGreat : PySem.W.keepIn K (.ref A_TooGreat) = true
  ec_TooGreat : ExcC K A_TooGreat
  xf_TooGreat : XfC K A_TooGreat
  ex_TooGreat_PressError : PySem.W.exmOne K (.ref A_TooGreat) (.ref A_PressError) = some true
  q_TooGreat : PySem.W.excIn K A_TooGreat [.type "ValueError", .type "Exception", .type "BaseException", .type "object"] "ValueError.__new__" = true
  A_OutOfPlace : Addr
  m_OutOfPlace : mg "OutOfPlace" = some (.ref A_OutOfPlace)
  xs_OutOfPlace : PySem.W.subIn K (.ref A_OutOfPlace) (.type "BaseException") = some true
  xt_OutOfPlace : PySem.W.typeIn K (.ref A_OutOfPlace) = some (.type "type")
  xh_OutOfPlace : PySem.W.hasDictIn K A_OutOfPlace = true
  k_OutOfPlace : PySem.W.keepIn K (.ref A_OutOfPlace) = true
  ec_OutOfPlace : ExcC K A_OutOfPlace
  xf_OutOfPlace : XfC K A_OutOfPlace
  ex_OutOfPlace_PressError : PySem.W.exmOne K (.ref A_OutOfPlace) (.ref A_PressError) = some true
  q_OutOfPlace : PySem.W.excIn K A_OutOfPlace [.type "ValueError", .type "Exception", .type "BaseException", .type "object"] "ValueError.__new__" = true
  A_Scheme : Addr
  m_Scheme : mg "Scheme" = some (.ref A_Scheme)
  cl_Scheme : Cls K A_Scheme
  na_Scheme__rows : NoAttr K A_Scheme "_rows"
  na_Scheme__columns : NoAttr K A_Scheme "_columns"
  na_Scheme__folds : NoAttr K A_Scheme "_folds"
  mk_Scheme : Mk K A_Scheme f_Scheme___init__
  me_Scheme_told : Meth K A_Scheme "told" f_Scheme_told
  ki_BadRow_BadRow : PySem.W.kitOne K (.ref A_BadRow) (.ref A_BadRow) = some true
  ki_BadRow_BadScheme : PySem.W.kitOne K (.ref A_BadRow) (.ref A_BadScheme) = some false
  ki_BadRow_BadSheet : PySem.W.kitOne K (.ref A_BadRow) (.ref A_BadSheet) = some false
  ki_BadRow_BadBook : PySem.W.kitOne K (.ref A_BadRow) (.ref A_BadBook) = some false
  ki_BadRow_TooGreat : PySem.W.kitOne K (.ref A_BadRow) (.ref A_TooGreat) = some false
  ki_BadRow_OutOfPlace : PySem.W.kitOne K (.ref A_BadRow) (.ref A_OutOfPlace) = some false
  ki_BadRow_ValueError : PySem.W.kitOne K (.ref A_BadRow) (.type "ValueError") = some true
  ki_BadRow_PressError : PySem.W.kitOne K (.ref A_BadRow) (.ref A_PressError) = some true
  ki_BadScheme_BadRow : PySem.W.kitOne K (.ref A_BadScheme) (.ref A_BadRow) = some false
  ki_BadScheme_BadScheme : PySem.W.kitOne K (.ref A_BadScheme) (.ref A_BadScheme) = some true
  ki_BadScheme_BadSheet : PySem.W.kitOne K (.ref A_BadScheme) (.ref A_BadSheet) = some false
  ki_BadScheme_BadBook : PySem.W.kitOne K (.ref A_BadScheme) (.ref A_BadBook) = some false
  ki_BadScheme_TooGreat : PySem.W.kitOne K (.ref A_BadScheme) (.ref A_TooGreat) = some false
  ki_BadScheme_OutOfPlace : PySem.W.kitOne K (.ref A_BadScheme) (.ref A_OutOfPlace) = some false
  ki_BadScheme_ValueError : PySem.W.kitOne K (.ref A_BadScheme) (.type "ValueError") = some true
  ki_BadScheme_PressError : PySem.W.kitOne K (.ref A_BadScheme) (.ref A_PressError) = some true
  ki_BadSheet_BadRow : PySem.W.kitOne K (.ref A_BadSheet) (.ref A_BadRow) = some false
  ki_BadSheet_BadScheme : PySem.W.kitOne K (.ref A_BadSheet) (.ref A_BadScheme) = some false
  ki_BadSheet_BadSheet : PySem.W.kitOne K (.ref A_BadSheet) (.ref A_BadSheet) = some true
  ki_BadSheet_BadBook : PySem.W.kitOne K (.ref A_BadSheet) (.ref A_BadBook) = some false
  ki_BadSheet_TooGreat : PySem.W.kitOne K (.ref A_BadSheet) (.ref A_TooGreat) = some false
  ki_BadSheet_OutOfPlace : PySem.W.kitOne K (.ref A_BadSheet) (.ref A_OutOfPlace) = some false
  ki_BadSheet_ValueError : PySem.W.kitOne K (.ref A_BadSheet) (.type "ValueError") = some true
  ki_BadSheet_PressError : PySem.W.kitOne K (.ref A_BadSheet) (.ref A_PressError) = some true
  ki_BadBook_BadRow : PySem.W.kitOne K (.ref A_BadBook) (.ref A_BadRow) = some false
  ki_BadBook_BadScheme : PySem.W.kitOne K (.ref A_BadBook) (.ref A_BadScheme) = some false
  ki_BadBook_BadSheet : PySem.W.kitOne K (.ref A_BadBook) (.ref A_BadSheet) = some false
  ki_BadBook_BadBook : PySem.W.kitOne K (.ref A_BadBook) (.ref A_BadBook) = some true
  ki_BadBook_TooGreat : PySem.W.kitOne K (.ref A_BadBook) (.ref A_TooGreat) = some false
  ki_BadBook_OutOfPlace : PySem.W.kitOne K (.ref A_BadBook) (.ref A_OutOfPlace) = some false
  ki_BadBook_ValueError : PySem.W.kitOne K (.ref A_BadBook) (.type "ValueError") = some true
  ki_BadBook_PressError : PySem.W.kitOne K (.ref A_BadBook) (.ref A_PressError) = some true
  ki_TooGreat_BadRow : PySem.W.kitOne K (.ref A_TooGreat) (.ref A_BadRow) = some false
  ki_TooGreat_BadScheme : PySem.W.kitOne K (.ref A_TooGreat) (.ref A_BadScheme) = some false
  ki_TooGreat_BadSheet : PySem.W.kitOne K (.ref A_TooGreat) (.ref A_BadSheet) = some false
  ki_TooGreat_BadBook : PySem.W.kitOne K (.ref A_TooGreat) (.ref A_BadBook) = some false
  ki_TooGreat_TooGreat : PySem.W.kitOne K (.ref A_TooGreat) (.ref A_TooGreat) = some true
  ki_TooGreat_OutOfPlace : PySem.W.kitOne K (.ref A_TooGreat) (.ref A_OutOfPlace) = some false
  ki_TooGreat_ValueError : PySem.W.kitOne K (.ref A_TooGreat) (.type "ValueError") = some true
  ki_TooGreat_PressError : PySem.W.kitOne K (.ref A_TooGreat) (.ref A_PressError) = some true
  ki_OutOfPlace_BadRow : PySem.W.kitOne K (.ref A_OutOfPlace) (.ref A_BadRow) = some false
  ki_OutOfPlace_BadScheme : PySem.W.kitOne K (.ref A_OutOfPlace) (.ref A_BadScheme) = some false
  ki_OutOfPlace_BadSheet : PySem.W.kitOne K (.ref A_OutOfPlace) (.ref A_BadSheet) = some false
  ki_OutOfPlace_BadBook : PySem.W.kitOne K (.ref A_OutOfPlace) (.ref A_BadBook) = some false
  ki_OutOfPlace_TooGreat : PySem.W.kitOne K (.ref A_OutOfPlace) (.ref A_TooGreat) = some false
  ki_OutOfPlace_OutOfPlace : PySem.W.kitOne K (.ref A_OutOfPlace) (.ref A_OutOfPlace) = some true
  ki_OutOfPlace_ValueError : PySem.W.kitOne K (.ref A_OutOfPlace) (.type "ValueError") = some true
  ki_OutOfPlace_PressError : PySem.W.kitOne K (.ref A_OutOfPlace) (.ref A_PressError) = some true
  z_ValueError : mg "ValueError" = none
  z_bool : mg "bool" = none
  z_enumerate : mg "enumerate" = none
  z_int : mg "int" = none
  z_isinstance : mg "isinstance" = none
  z_len : mg "len" = none
  z_list : mg "list" = none
  z_min : mg "min" = none
  z_range : mg "range" = none
  z_str : mg "str" = none
  z_sum : mg "sum" = none
  z_tuple : mg "tuple" = none
  a_EDGES : Addr
  c_EDGES : mg "EDGES" = some (.ref a_EDGES)
  k_EDGES : KT K a_EDGES [.str "left", .str "right", .str "top", .str "bottom"]
  a_LEVEL_EDGES : Addr
  c_LEVEL_EDGES : mg "LEVEL_EDGES" = some (.ref a_LEVEL_EDGES)
  k_LEVEL_EDGES : KT K a_LEVEL_EDGES [.str "top", .str "bottom"]
  t_MOST_CELLS : Tok
  c_MOST_CELLS : mg "MOST_CELLS" = some (.int 32 t_MOST_CELLS)
  t_MOST_LINES : Tok
  c_MOST_LINES : mg "MOST_LINES" = some (.int 8 t_MOST_LINES)
  a_WAYS : Addr
  c_WAYS : mg "WAYS" = some (.ref a_WAYS)
  k_WAYS : KT K a_WAYS [.str "over", .str "under"]
end K02

section
open PySem PySem.Spec PyProof.Rows L2 FP
local macro_rules | `(tactic| walk_at "side") => `(tactic| first | exact rfl | omega | decide | assumption | (simp only [CMul, CDiv, CPow, CMulW, CDivW]; omega) | (unfold CMul; exact Or.inl (by omega)) | (unfold CMul; exact Or.inr (by omega)))
local macro_rules | `(tactic| walk_at "op") => `(tactic| first
  | with_reducible exact plus_int
  | with_reducible exact sub_int'
  | with_reducible exact ng_int
  | with_reducible exact eq_int'
  | with_reducible exact ne_int'
  | with_reducible exact lt_int'
  | with_reducible exact le_int'
  | with_reducible exact gt_int'
  | with_reducible exact ge_int'
  | with_reducible exact eq_str'
  | with_reducible exact ne_str'
  | with_reducible exact eq_bl'
  | with_reducible exact ne_bl'
  | with_reducible exact is_no
  | with_reducible exact isn_no
  | with_reducible exact is_bl
  | with_reducible exact isn_bl
  | with_reducible exact in_sign'
  | with_reducible exact ni_sign'
  | with_reducible exact len_lst
  | with_reducible exact len_tp
  | with_reducible exact int_int
  | with_reducible exact int_bl
  | with_reducible exact max_int
  | with_reducible exact min_int
  | with_reducible exact list_lst
  | with_reducible exact list_tp
  | with_reducible exact tup_lst
  | with_reducible exact sum_ints
  | with_reducible exact all_bls
  | with_reducible exact any_bls
  | (with_reducible apply md_int; walk_at "side")
  | (with_reducible apply fd_int; walk_at "side")
  | (with_reducible apply times_int; walk_at "side")
  | (with_reducible apply pw_int; walk_at "side")
  | (with_reducible apply plus_str; walk_at "side")
  | (with_reducible apply len_st; walk_at "side")
  | (with_reducible apply plus_lst; walk_at "side")
  | (with_reducible apply ix_lst; walk_at "side")
  | (with_reducible apply ix_tp; walk_at "side"))
local macro_rules | `(tactic| walk_at "ev") => `(tactic| repeat' (first
  | with_reducible exact ev_c
  | ((with_reducible apply ev_var) <;> exact rfl)
  | with_reducible exact ea_nil
  | with_reducible exact ev_dnew
  | with_reducible apply ea_cons
  | with_reducible apply ev_op
  | with_reducible apply ev_un
  | with_reducible apply ev_call
  | (with_reducible apply ev_tup; rotate_left; (first | decide | (simp only [List.length_cons, List.length_nil]; decide)))
  | (with_reducible apply ev_lst; rotate_left; (first | decide | (simp only [List.length_cons, List.length_nil]; decide)))
  | with_reducible apply et_test
  | walk_at "op"))

namespace K02
open PySem PySem.Spec PyProof.Rows L2 FP
theorem log_sm {n : Int} (h : 0 ≤ n) (h1 : n < 1000000000) : n.natAbs.log2 < 1920 := by
  by_cases hz : n.natAbs = 0
  · rw [hz]; decide
  · exact (Nat.log2_lt hz).mpr (Nat.lt_of_lt_of_le (show n.natAbs < 2 ^ 31 by omega) (Nat.pow_le_pow_right (by decide) (show 31 ≤ 1920 by decide)))
theorem txt_len {n : Int} (h : 0 ≤ n) (h1 : n < 1000000000) : (Str.ofString (toString n)).length ≤ 10 := PySem.W.KT.len_num h (by omega)
theorem str_app_len (a b : Str) : (a ++ b).length = a.length + b.length := by
  show (a.cps ++ b.cps).size = a.cps.size + b.cps.size
  rw [Array.size_append]
abbrev fsAt (i : Int) : List (Str × V) := [(("at" : Str), V.int i)]
def R_BadScheme___init__ : List V → List (Str × V) → Prop := fun ws fs => ∃ i : Int, ws = [.int i] ∧ 0 ≤ i ∧ i < 1000000000 ∧ fs = fsAt i
theorem len_BadScheme___init__ {C : Addr} : ∀ vs H Q E, spE C R_BadScheme___init__ vs H Q E → vs.length = 2 := by
  rintro vs H Q E ⟨_, _, _, rfl, _, ⟨i, rfl, _⟩, _⟩
  rfl
section
variable {P : Program} {w : World} {K : PySem.W.Frag} {mg : Str → Option Value} {base : Heap}
set_option maxHeartbeats 4000000 in
theorem ok_BadScheme___init__ (T : Txt K mg) : FnOk P w K mg base CX0 1 T.f_BadScheme___init__ T.fd_BadScheme___init__ ["self", "at"] (spE T.A_BadScheme R_BadScheme___init__) := by
  refine T.F_BadScheme___init__.ok (N := ["self", "at"]) sc_BadScheme___init__ len_BadScheme___init__ fun cdv A outer s H vs Q E hr h => ⟨_, (pss_cons (ps_expr (pe_binit (K := K) rfl T.ba_PressError (by rfl) T.m_PressError (pa_cons (pv 0) (pa_cons (pe_joined (PJ.cons pe_str (PJ.cons (pe_fmt (pv 1)) PJ.nil))) pa_nil))))
      (pss_one (ps_ost (pv 0) (pv 1)))), ?_⟩
  (try simp only [cxK])
  obtain ⟨a, ws, fs, rfl, ha, ⟨i, rfl, h0, h1, rfl⟩, k⟩ := h
  have e1 : (Str.empty ++ ("no scheme: refused at " : Str)).length = 22 := by decide +kernel
  have e2 := txt_len h0 h1
  refine ⟨.ref a, rfl, _, rfl, (by rw [e1]; decide), .int i, rfl, .inr ⟨i, rfl, log_sm h0 h1, _, rfl, ?_, ?_⟩⟩
  · rw [str_app_len, e1]
    exact Nat.le_trans (Nat.add_le_add_left e2 22) (by decide)
  refine ⟨a, _, _, rfl, (show 1 ≤ 1000 by decide), T.ox_BadScheme, ha, ?_⟩
  refine ⟨.int i, rfl, .ref a, rfl, a, _, rfl, T.ox_BadScheme, T.nf_BadScheme_at, .inl ⟨ha, fun dx nd ne => k dx _ nd ne (fun b o hb h => ?_) upd_same ?_⟩⟩
  · rw [upd_ne hb, upd_ne fun z => by rw [z, nd] at h; cases h]
    exact h
  · rw [upd_ne ne, upd_same]
end
end K02

namespace K02
open PySem PySem.Spec PyProof.Rows L2 FP
abbrev fsRow (i j : Int) : List (Str × V) := [(("word" : Str), V.int j), (("row" : Str), V.int i)]
def R_BadRow___init__ : List V → List (Str × V) → Prop := fun ws fs => ∃ i j : Int, ws = [.int i, .int j] ∧ 0 ≤ i ∧ i < 1000000000 ∧ 0 ≤ j ∧ j < 1000000000 ∧ fs = fsRow i j
theorem len_BadRow___init__ {C : Addr} : ∀ vs H Q E, spE C R_BadRow___init__ vs H Q E → vs.length = 3 := by
  rintro vs H Q E ⟨_, _, _, rfl, _, ⟨i, j, rfl, _⟩, _⟩
  rfl
section
variable {P : Program} {w : World} {K : PySem.W.Frag} {mg : Str → Option Value} {base : Heap}
set_option maxHeartbeats 4000000 in
theorem ok_BadRow___init__ (T : Txt K mg) : FnOk P w K mg base CX0 1 T.f_BadRow___init__ T.fd_BadRow___init__ ["self", "row", "word"] (spE T.A_BadRow R_BadRow___init__) := by
  refine T.F_BadRow___init__.ok (N := ["self", "row", "word"]) sc_BadRow___init__ len_BadRow___init__ fun cdv A outer s H vs Q E hr h => ⟨_, (pss_cons (ps_expr (pe_binit (K := K) rfl T.ba_PressError (by rfl) T.m_PressError (pa_cons (pv 0) (pa_cons (pe_joined (PJ.cons pe_str (PJ.cons (pe_fmt (pv 1)) (PJ.cons pe_str (PJ.cons (pe_fmt (pv 2)) (PJ.cons pe_str PJ.nil)))))) pa_nil))))
      (pss_cons (ps_ost (pv 0) (pv 1))
      (pss_one (ps_ost (pv 0) (pv 2))))), ?_⟩
  (try simp only [cxK])
  obtain ⟨a, ws, fs, rfl, ha, ⟨i, j, rfl, h0, h1, g0, g1, rfl⟩, k⟩ := h
  have e1 : (Str.empty ++ ("row " : Str)).length = 4 := by decide +kernel
  have e3 : (", word " : Str).length = 7 := by decide +kernel
  have e5 : (" can't stand there" : Str).length = 18 := by decide +kernel
  have e2 := txt_len h0 h1
  have e4 := txt_len g0 g1
  have l2 : ((Str.empty ++ ("row " : Str)) ++ Str.ofString (toString i)).length ≤ 14 := by rw [str_app_len, e1]; omega
  have l3 : (((Str.empty ++ ("row " : Str)) ++ Str.ofString (toString i)) ++ (", word " : Str)).length ≤ 21 := by rw [str_app_len, e3]; omega
  have l4 : ((((Str.empty ++ ("row " : Str)) ++ Str.ofString (toString i)) ++ (", word " : Str)) ++ Str.ofString (toString j)).length ≤ 31 := by rw [str_app_len]; omega
  have l5 : (((((Str.empty ++ ("row " : Str)) ++ Str.ofString (toString i)) ++ (", word " : Str)) ++ Str.ofString (toString j)) ++ (" can't stand there" : Str)).length ≤ 49 := by rw [str_app_len, e5]; omega
  have big : ∀ {n m : Nat}, n ≤ m → m ≤ 100 → n ≤ sizeLine := fun h1 h2 => Nat.le_trans h1 (Nat.le_trans h2 (by decide))
  refine ⟨.ref a, rfl, _, rfl, (by rw [e1]; decide), .int i, rfl, .inr ⟨i, rfl, log_sm h0 h1, _, rfl, big l2 (by decide), _, rfl, big l3 (by decide), .int j, rfl, .inr ⟨j, rfl, log_sm g0 g1, _, rfl, big l4 (by decide), _, rfl, big l5 (by decide), ?_⟩⟩⟩
  refine ⟨a, _, _, rfl, (show 1 ≤ 1000 by decide), T.ox_BadRow, ha, ?_⟩
  refine ⟨.int i, rfl, .ref a, rfl, a, _, rfl, T.ox_BadRow, T.nf_BadRow_row, .inl ⟨ha, fun dx nd ne => ?_⟩⟩
  refine ⟨.int j, rfl, .ref a, rfl, a, _, rfl, T.ox_BadRow, T.nf_BadRow_word, .inr ⟨dx, [(("row" : Str), V.int i)], upd_same, by rw [upd_ne ne, upd_same], (show 1 ≤ 900 by decide), k dx _ nd ne (fun b o hb h => ?_) ?_ upd_same⟩⟩
  · have hd : b ≠ dx := fun z => by rw [z, nd] at h; cases h
    rw [upd_ne hd, upd_ne hb, upd_ne hd]
    exact h
  · rw [upd_ne (Ne.symm ne), upd_same]
end
end K02

namespace K02
open PySem PySem.Spec PyProof.Rows L2 FP
def isInt : D → Bool
  | .sc (.int _) => true
  | _ => false
def isBool : D → Bool
  | .sc (.bl _) => true
  | _ => false
theorem kit_int (d : D) (h : tyN d ≠ "") : kitB (tyN d) "int" = some (isInt d || isBool d) := by
  cases d with
  | sc x => cases x <;> first | exact absurd rfl h | rfl | decide +kernel
  | dT o ks ds => cases o <;> first | exact absurd rfl h | (simp only [tyN, isInt, isBool]; decide +kernel)
  | _ => first | exact absurd rfl h | (simp only [tyN, isInt, isBool]; decide +kernel)
theorem kit_bool (d : D) (h : tyN d ≠ "") : kitB (tyN d) "bool" = some (isBool d) := by
  cases d with
  | sc x => cases x <;> first | exact absurd rfl h | rfl | decide +kernel
  | dT o ks ds => cases o <;> first | exact absurd rfl h | (simp only [tyN, isInt, isBool]; decide +kernel)
  | _ => first | exact absurd rfl h | (simp only [tyN, isInt, isBool]; decide +kernel)
def R_is_whole : List D → D → Prop := fun ds z => ∃ d, ds = [d] ∧ d.frz = d ∧ tyN d ≠ "" ∧ z = .bl (isInt d)
theorem ev_isi {K : PySem.W.Frag} {ρ : FP.Env} {i : Nat} {d : D} {c : String} {r : Bool} (h : ρ[i]? = some (some d)) (hd : d.shd = true) (hn : tyN d ≠ "") (hk : kitB (tyN d) c = some r) : EvS K (tCB (rIsis K) (tCons (tVar i) (tCons (tC (.ty c)) tNil))) ρ (.bl r) :=
  ev_call (ea_cons (ev_var h hd) (ea_cons ev_c ea_nil)) (isi_ty hn hk)
theorem len_is_whole : ∀ ds z, R_is_whole ds z → ds.length = 1 := by
  unfold R_is_whole
  first
  | exact fun _ _ h => h.elim
  | (rintro ds z ⟨_, rfl, _⟩; rfl)
  | (rintro ds z ⟨_, _, rfl, _⟩; rfl)
  | (rintro ds z ⟨_, _, _, rfl, _⟩; rfl)
  | (rintro ds z ⟨_, _, _, _, rfl, _⟩; rfl)
section
variable {P : Program} {w : World} {K : PySem.W.Frag} {mg : Str → Option Value} {base : Heap}
set_option maxHeartbeats 4000000 in
theorem ok_is_whole (T : Txt K mg) : FnOk P w K mg base CX0 1 T.f_is_whole T.fd_is_whole ["thing"] (spF K R_is_whole) := by
  refine ok_of (N := ["thing"]) T.F_is_whole sc_is_whole len_is_whole fun cdv A outer s H E hr => ⟨_, (pss_one (ps_ret (pe_andTK (K := K) rfl (pe_callB (call_isisK (K := K) rfl) (by rfl) T.z_isinstance (by decide +kernel) (pa_cons (pv 0) (pa_cons (pe_bltn (v := .ty "int") (by rfl) T.z_int (by decide +kernel) rfl) pa_nil))) (pe_one (pe_notTK (K := K) rfl (pe_callB (call_isisK (K := K) rfl) (by rfl) T.z_isinstance (by decide +kernel) (pa_cons (pv 0) (pa_cons (pe_bltn (v := .ty "bool") (by rfl) T.z_bool (by decide +kernel) rfl) pa_nil)))))))), ?_⟩
  (try simp only [cxK])
  rintro _ _ ⟨d, rfl, hd, hn, rfl⟩
  refine ⟨.rt _, run_ret ?_, rfl⟩
  refine ev_andT (ev_isi rfl (D.shd_of hd) hn (kit_int d hn)) True.intro (fun h => ?_) (fun h => ?_)
  · have e2 : isInt d = (!tru (.bl (isBool d))) := by
      cases d with
      | sc x => cases x <;> first | rfl | cases h
      | _ => cases h
    rw [e2]
    exact ev_notT (ev_isi rfl (D.shd_of hd) hn (kit_bool d hn)) True.intro
  · cases d with
    | sc x => cases x <;> first | rfl | cases h
    | _ => rfl
end
end K02

namespace K02
open PySem PySem.Spec PyProof.Rows L2 FP
def schF : List Str := ["_rows", "_columns", "_folds"]
def schD (r c : Int) (fs : List D) : List D := [.int r, .int c, .tup false fs]
def R_Scheme_told {K : PySem.W.Frag} {mg : Str → Option Value} (T : Txt K mg) : List D → D → Prop := fun ds z => ∃ r c fs, ds = [.ins .sh T.A_Scheme schF (schD r c fs)] ∧ z = .tup true [.int r, .int c, .lst true fs]
theorem len_Scheme_told {K : PySem.W.Frag} {mg : Str → Option Value} (T : Txt K mg) : ∀ ds z, R_Scheme_told T ds z → ds.length = 1 := by
  rintro _ _ ⟨_, _, _, rfl, _⟩
  rfl
section
variable {P : Program} {w : World} {K : PySem.W.Frag} {mg : Str → Option Value} {base : Heap}
set_option maxHeartbeats 4000000 in
theorem ok_Scheme_told (T : Txt K mg) : FnOk P w K mg base CX0 1 T.f_Scheme_told T.fd_Scheme_told ["self"] (spF K (R_Scheme_told T)) := by
  refine ok_of (N := ["self"]) T.F_Scheme_told sc_Scheme_told (len_Scheme_told T) fun cdv A outer s H E hr => ⟨_, (pss_one (ps_ret (pe_tup (pa_cons (pe_fldA (K := K) rfl (pv 0)) (pa_cons (pe_fldA (K := K) rfl (pv 0)) (pa_cons (pe_callTy (call_listOfK (K := K) rfl) (by rfl) T.z_list (by decide +kernel) (pa_cons (pe_fldA (K := K) rfl (pv 0)) pa_nil)) pa_nil)))))), ?_⟩
  (try simp only [cxK])
  rintro _ _ ⟨r, c, fs, rfl, rfl⟩
  refine ⟨.rt _, run_ret (ev_tup (ds := [.int r, .int c, .lst true fs]) (ea_cons ?_ (ea_cons ?_ (ea_cons ?_ ea_nil))) (show 3 ≤ 1000000 by decide)), rfl⟩
  · exact ev_fldV (f := "_rows") (fs := schF) (ds := schD r c fs) rfl T.cl_Scheme T.na_Scheme__rows rfl rfl
  · exact ev_fldV (f := "_columns") (fs := schF) (ds := schD r c fs) rfl T.cl_Scheme T.na_Scheme__columns rfl rfl
  · exact ev_call (ea_cons (ev_fldV (f := "_folds") (fs := schF) (ds := schD r c fs) (d := .tup false fs) rfl T.cl_Scheme T.na_Scheme__folds rfl rfl) ea_nil) list_tp
end
end K02

namespace K02
open PySem PySem.Spec PyProof.Rows L2 FP
def isStr : D → Bool
  | .sc (.str _) => true
  | _ => false
theorem kit_str (d : D) (h : tyN d ≠ "") : kitB (tyN d) "str" = some (isStr d) := by
  cases d with
  | sc x => cases x <;> first | exact absurd rfl h | rfl | (simp only [tyN, isStr]; decide +kernel)
  | dT o ks ds => cases o <;> first | exact absurd rfl h | (simp only [tyN, isStr]; decide +kernel)
  | _ => first | exact absurd rfl h | (simp only [tyN, isStr]; decide +kernel)
def isTup : D → Bool
  | .tup _ _ => true
  | _ => false
theorem kit_tup (d : D) (h : tyN d ≠ "") : kitB (tyN d) "tuple" = some (isTup d) := by
  cases d with
  | sc x => cases x <;> first | exact absurd rfl h | rfl | (simp only [tyN, isTup]; decide +kernel)
  | dT o ks ds => cases o <;> first | exact absurd rfl h | (simp only [tyN, isTup]; decide +kernel)
  | _ => first | exact absurd rfl h | (simp only [tyN, isTup]; decide +kernel)
def isLst : D → Bool
  | .lst _ _ => true
  | _ => false
theorem kit_lst (d : D) (h : tyN d ≠ "") : kitB (tyN d) "list" = some (isLst d) := by
  cases d with
  | sc x => cases x <;> first | exact absurd rfl h | rfl | (simp only [tyN, isLst]; decide +kernel)
  | dT o ks ds => cases o <;> first | exact absurd rfl h | (simp only [tyN, isLst]; decide +kernel)
  | _ => first | exact absurd rfl h | (simp only [tyN, isLst]; decide +kernel)
def isWord (d : D) (ws : List Str) : Bool := match d with
  | .sc (.str s) => decide (s ∈ ws)
  | _ => false
def R__is_word_of : List D → D → Prop := fun ds z => ∃ d ws, ds = [d, .tup false (ws.map D.str)] ∧ d.frz = d ∧ tyN d ≠ "" ∧ z = .bl (isWord d ws)
theorem len__is_word_of : ∀ ds z, R__is_word_of ds z → ds.length = 2 := by
  unfold R__is_word_of
  first
  | exact fun _ _ h => h.elim
  | (rintro ds z ⟨_, rfl, _⟩; rfl)
  | (rintro ds z ⟨_, _, rfl, _⟩; rfl)
  | (rintro ds z ⟨_, _, _, rfl, _⟩; rfl)
  | (rintro ds z ⟨_, _, _, _, rfl, _⟩; rfl)
section
variable {P : Program} {w : World} {K : PySem.W.Frag} {mg : Str → Option Value} {base : Heap}
set_option maxHeartbeats 4000000 in
theorem ok__is_word_of (T : Txt K mg) : FnOk P w K mg base CX0 1 T.f__is_word_of T.fd__is_word_of ["thing", "words"] (spF K R__is_word_of) := by
  refine ok_of (N := ["thing", "words"]) T.F__is_word_of sc__is_word_of len__is_word_of fun cdv A outer s H E hr => ⟨_, (pss_one (ps_ret (pe_andTK (K := K) rfl (pe_callB (call_isisK (K := K) rfl) (by rfl) T.z_isinstance (by decide +kernel) (pa_cons (pv 0) (pa_cons (pe_bltn (v := .ty "str") (by rfl) T.z_str (by decide +kernel) rfl) pa_nil))) (pe_one (pe_cmpR (op_innK (K := K) rfl) (pv 0) (pv 1) (by with_unfolding_all rfl)))))), ?_⟩
  (try simp only [cxK])
  rintro _ _ ⟨d, ws, rfl, hd, hn, rfl⟩
  refine ⟨.rt _, run_ret ?_, rfl⟩
  refine ev_andT (ev_isi rfl (D.shd_of hd) hn (kit_str d hn)) True.intro (fun h => ?_) (fun h => ?_)
  · obtain ⟨s, rfl⟩ : ∃ s, d = .str s := by
      cases d with
      | sc x => cases x with
        | str s => exact ⟨s, rfl⟩
        | _ => cases h
      | _ => cases h
    refine ev_op (y := .tup false (ws.map D.str)) (ev_var rfl rfl) (ev_var rfl rfl) ?_
    have e := in_tp (K := K) (o := false) (x := .str s) (xs := ws.map V.str) rfl (flat_strs ws)
    rw [inV_strs, List.map_map] at e
    exact e
  · cases d with
    | sc x => cases x with
      | str s => cases h
      | _ => rfl
    | _ => rfl
end
end K02

namespace K02
open PySem PySem.Spec PyProof.Rows L2 FP
def mixed (c k : Int) : Int := (c % 1000000007 + 7919 * k + 13) * (c % 1000000007 + 7919 * k + 13) % 1000000007 * 48271 % 2147483647
theorem mixed_nn (c k : Int) : 0 ≤ mixed c k := by unfold mixed; omega
theorem mixed_lt (c k : Int) : mixed c k < 2147483647 := by unfold mixed; omega
def R__law_mixed : List D → D → Prop := fun ds z => ∃ c k, ds = [.int c, .int k] ∧ 0 ≤ k ∧ k < 1000000000000 ∧ z = .int (mixed c k)
theorem len__law_mixed : ∀ ds z, R__law_mixed ds z → ds.length = 2 := by
  unfold R__law_mixed
  first
  | exact fun _ _ h => h.elim
  | (rintro ds z ⟨_, rfl, _⟩; rfl)
  | (rintro ds z ⟨_, _, rfl, _⟩; rfl)
  | (rintro ds z ⟨_, _, _, rfl, _⟩; rfl)
  | (rintro ds z ⟨_, _, _, _, rfl, _⟩; rfl)
section
variable {P : Program} {w : World} {K : PySem.W.Frag} {mg : Str → Option Value} {base : Heap}
set_option maxHeartbeats 4000000 in
theorem ok__law_mixed (T : Txt K mg) : FnOk P w K mg base CX0 1 T.f__law_mixed T.fd__law_mixed ["_law_cell", "_law_k"] (spF K R__law_mixed) := by
  refine ok_of (N := ["_law_cell", "_law_k"]) T.F__law_mixed sc__law_mixed len__law_mixed fun cdv A outer s H E hr => ⟨_, (pss_cons (ps_set (i := 0) sc__law_mixed.nd rfl (by first | exact Or.inl rfl | exact Or.inr rfl) (pe_op (op_plusK (K := K) rfl) (pe_op (op_plusK (K := K) rfl) (pe_op op_md (pv 0) pe_int) (pe_op op_times pe_int (pv 1))) pe_int))
      (pss_one (ps_ret (pe_op op_md (pe_op op_times (pe_op op_md (pe_op op_times (pv 0) (pv 0)) pe_int) pe_int) pe_int)))), ?_⟩
  (try simp only [cxK])
  rintro _ _ ⟨c, k, rfl, h0, h1, rfl⟩
  refine ⟨.rt _, run_seq (run_asg (d := .int (c % 1000000007 + 7919 * k + 13)) ?_) (run_ret ?_), rfl⟩
  · walk_at "ev"
  · show EvS _ _ _ (.int ((c % 1000000007 + 7919 * k + 13) * (c % 1000000007 + 7919 * k + 13) % 1000000007 * 48271 % 2147483647))
    walk_at "ev"
end
end K02

namespace K02
open PySem PySem.Spec PyProof.Rows L2 FP
def kD (x : Str × Bool) : D := .tup false [.str x.1, .bl x.2]
def KindOf {K : PySem.W.Frag} {mg : Str → Option Value} (T : Txt K mg) (C : Addr) (n : Str) : Prop :=
  (C = T.A_BadRow ∧ n = "row") ∨ (C = T.A_BadScheme ∧ n = "scheme") ∨ (C = T.A_BadSheet ∧ n = "sheet") ∨ (C = T.A_BadBook ∧ n = "book") ∨ (C = T.A_TooGreat ∧ n = "great") ∨ (C = T.A_OutOfPlace ∧ n = "place")
def R__law_kinds {K : PySem.W.Frag} {mg : Str → Option Value} (T : Txt K mg) : List D → D → Prop := fun ds z => ∃ C fs n, ds = [.exc C fs] ∧ KindOf T C n ∧ z = .lst true [.str n]
theorem len__law_kinds {K : PySem.W.Frag} {mg : Str → Option Value} (T : Txt K mg) : ∀ ds z, R__law_kinds T ds z → ds.length = 1 := by
  rintro _ _ ⟨_, _, _, rfl, _⟩
  rfl
section
variable {P : Program} {w : World} {K : PySem.W.Frag} {mg : Str → Option Value} {base : Heap}
set_option maxHeartbeats 4000000 in
theorem ok__law_kinds (T : Txt K mg) : FnOk P w K mg base CX0 1 T.f__law_kinds T.fd__law_kinds ["_law_error"] (spF K (R__law_kinds T)) := by
  refine ok_of (N := ["_law_error", "_law_kinds_here", "_law_name", "_law_fits"]) T.F__law_kinds sc__law_kinds (len__law_kinds T) fun cdv A outer s H E hr => ⟨_, (pss_cons (ps_set (i := 1) sc__law_kinds.nd rfl (by first | exact Or.inl rfl | exact Or.inr rfl) (pe_lst (pa_cons (pe_tup (pa_cons pe_str (pa_cons (pe_callB (call_isyK (K := K) rfl) (by rfl) T.z_isinstance (by decide +kernel) (pa_cons (pv 0) (pa_cons (pe_glob (v := .ref T.A_BadRow) (by rfl) T.m_BadRow rfl) pa_nil))) pa_nil))) (pa_cons (pe_tup (pa_cons pe_str (pa_cons (pe_callB (call_isyK (K := K) rfl) (by rfl) T.z_isinstance (by decide +kernel) (pa_cons (pv 0) (pa_cons (pe_glob (v := .ref T.A_BadScheme) (by rfl) T.m_BadScheme rfl) pa_nil))) pa_nil))) pa_nil))))
      (pss_cons (ps_set (i := 1) sc__law_kinds.nd rfl (by first | exact Or.inl rfl | exact Or.inr rfl) (pe_op (op_plusK (K := K) rfl) (pv 1) (pe_lst (pa_cons (pe_tup (pa_cons pe_str (pa_cons (pe_callB (call_isyK (K := K) rfl) (by rfl) T.z_isinstance (by decide +kernel) (pa_cons (pv 0) (pa_cons (pe_glob (v := .ref T.A_BadSheet) (by rfl) T.m_BadSheet rfl) pa_nil))) pa_nil))) (pa_cons (pe_tup (pa_cons pe_str (pa_cons (pe_callB (call_isyK (K := K) rfl) (by rfl) T.z_isinstance (by decide +kernel) (pa_cons (pv 0) (pa_cons (pe_glob (v := .ref T.A_BadBook) (by rfl) T.m_BadBook rfl) pa_nil))) pa_nil))) pa_nil)))))
      (pss_cons (ps_set (i := 1) sc__law_kinds.nd rfl (by first | exact Or.inl rfl | exact Or.inr rfl) (pe_op (op_plusK (K := K) rfl) (pv 1) (pe_lst (pa_cons (pe_tup (pa_cons pe_str (pa_cons (pe_callB (call_isyK (K := K) rfl) (by rfl) T.z_isinstance (by decide +kernel) (pa_cons (pv 0) (pa_cons (pe_glob (v := .ref T.A_TooGreat) (by rfl) T.m_TooGreat rfl) pa_nil))) pa_nil))) (pa_cons (pe_tup (pa_cons pe_str (pa_cons (pe_callB (call_isyK (K := K) rfl) (by rfl) T.z_isinstance (by decide +kernel) (pa_cons (pv 0) (pa_cons (pe_glob (v := .ref T.A_OutOfPlace) (by rfl) T.m_OutOfPlace rfl) pa_nil))) pa_nil))) pa_nil)))))
      (pss_cons (ps_set (i := 1) sc__law_kinds.nd rfl (by first | exact Or.inl rfl | exact Or.inr rfl) (pe_op (op_plusK (K := K) rfl) (pv 1) (pe_lst (pa_cons (pe_tup (pa_cons pe_str (pa_cons (pe_orTK (K := K) rfl (pe_notTK (K := K) rfl (pe_callB (call_isyK (K := K) rfl) (by rfl) T.z_isinstance (by decide +kernel) (pa_cons (pv 0) (pa_cons (pe_bltn (v := .ty "ValueError") (by rfl) T.z_ValueError (by decide +kernel) rfl) pa_nil)))) (pe_one (pe_notTK (K := K) rfl (pe_callB (call_isyK (K := K) rfl) (by rfl) T.z_isinstance (by decide +kernel) (pa_cons (pv 0) (pa_cons (pe_glob (v := .ref T.A_PressError) (by rfl) T.m_PressError rfl) pa_nil)))))) pa_nil))) pa_nil))))
      (pss_one (ps_ret (pe_lc (own := [("_law_name", 2), ("_law_fits", 3)]) (by rfl) sc__law_kinds.nd (pi_listK (K := K) rfl (pv 1)) (blkOk_by (own := [("_law_name", 2), ("_law_fits", 3)]) (N := ["_law_error", "_law_kinds_here", "_law_name", "_law_fits"]) (sc := defScope s__law_kinds) (by decide +kernel)) (fun _ _ _ _ _ => (pg_tupK (K := K) (n := 2) rfl rfl (pgs_cons (pg_name (i := 2) sc__law_kinds.nd rfl (by first | exact Or.inl rfl | exact Or.inr rfl)) (pgs_cons (pg_name (i := 3) sc__law_kinds.nd rfl (by first | exact Or.inl rfl | exact Or.inr rfl)) pgs_nil)))) (fun _ _ _ _ _ => (pts_one (pt_truthK (K := K) rfl (pv 3) (by intro _; rfl)))) (fun _ _ _ _ _ => (pv 2))))))))), ?_⟩
  (try simp only [cxK])
  rintro _ _ ⟨C, fs, n, rfl, hC, rfl⟩
  refine ⟨.rt (.lst true [.str n]), ?_, rfl⟩
  have isi : ∀ {ρ : FP.Env} {D0 : Addr} {b : Bool}, ρ[0]? = some (some (.exc C fs)) → ExcC K C → PySem.W.kitOne K (.ref C) (.ref D0) = some b → EvS K (tCB (rIsy K) (tCons (tVar 0) (tCons (tC (.ref D0)) tNil))) ρ (.bl b) := fun h1 h2 h3 =>
    ev_call (ea_cons (ev_var h1 rfl) (ea_cons ev_c ea_nil)) (isy_exc h2 (.own _) h3)
  have isv : ∀ {ρ : FP.Env} {b : Bool}, ρ[0]? = some (some (.exc C fs)) → ExcC K C → PySem.W.kitOne K (.ref C) (.type "ValueError") = some b → EvS K (tCB (rIsy K) (tCons (tVar 0) (tCons (tC (.ty "ValueError")) tNil))) ρ (.bl b) := fun h1 h2 h3 =>
    ev_call (ea_cons (ev_var h1 rfl) (ea_cons ev_c ea_nil)) (isy_exc h2 (.ty _) h3)
  have two : (2 : Nat) ≤ 1000000 := by decide
  have one : (1 : Nat) ≤ 1000000 := by decide
  obtain ⟨b1, b2, b3, b4, b5, b6, hE, k1, k2, k3, k4, k5, k6, kv, kp, hz⟩ : ∃ b1 b2 b3 b4 b5 b6 : Bool, ExcC K C ∧ PySem.W.kitOne K (.ref C) (.ref T.A_BadRow) = some b1 ∧ PySem.W.kitOne K (.ref C) (.ref T.A_BadScheme) = some b2 ∧ PySem.W.kitOne K (.ref C) (.ref T.A_BadSheet) = some b3 ∧ PySem.W.kitOne K (.ref C) (.ref T.A_BadBook) = some b4 ∧
      PySem.W.kitOne K (.ref C) (.ref T.A_TooGreat) = some b5 ∧ PySem.W.kitOne K (.ref C) (.ref T.A_OutOfPlace) = some b6 ∧ PySem.W.kitOne K (.ref C) (.type "ValueError") = some true ∧ PySem.W.kitOne K (.ref C) (.ref T.A_PressError) = some true ∧
      D.lst true [.str n] = .lst true ((([("row", b1), ("scheme", b2), ("sheet", b3), ("book", b4), ("great", b5), ("place", b6), ("other", false)] : List (Str × Bool)).filter fun x => x.2).map fun x => D.str x.1) := by
    rcases hC with ⟨rfl, rfl⟩ | ⟨rfl, rfl⟩ | ⟨rfl, rfl⟩ | ⟨rfl, rfl⟩ | ⟨rfl, rfl⟩ | ⟨rfl, rfl⟩
    · exact ⟨_, _, _, _, _, _, T.ec_BadRow, T.ki_BadRow_BadRow, T.ki_BadRow_BadScheme, T.ki_BadRow_BadSheet, T.ki_BadRow_BadBook, T.ki_BadRow_TooGreat, T.ki_BadRow_OutOfPlace, T.ki_BadRow_ValueError, T.ki_BadRow_PressError, rfl⟩
    · exact ⟨_, _, _, _, _, _, T.ec_BadScheme, T.ki_BadScheme_BadRow, T.ki_BadScheme_BadScheme, T.ki_BadScheme_BadSheet, T.ki_BadScheme_BadBook, T.ki_BadScheme_TooGreat, T.ki_BadScheme_OutOfPlace, T.ki_BadScheme_ValueError, T.ki_BadScheme_PressError, rfl⟩
    · exact ⟨_, _, _, _, _, _, T.ec_BadSheet, T.ki_BadSheet_BadRow, T.ki_BadSheet_BadScheme, T.ki_BadSheet_BadSheet, T.ki_BadSheet_BadBook, T.ki_BadSheet_TooGreat, T.ki_BadSheet_OutOfPlace, T.ki_BadSheet_ValueError, T.ki_BadSheet_PressError, rfl⟩
    · exact ⟨_, _, _, _, _, _, T.ec_BadBook, T.ki_BadBook_BadRow, T.ki_BadBook_BadScheme, T.ki_BadBook_BadSheet, T.ki_BadBook_BadBook, T.ki_BadBook_TooGreat, T.ki_BadBook_OutOfPlace, T.ki_BadBook_ValueError, T.ki_BadBook_PressError, rfl⟩
    · exact ⟨_, _, _, _, _, _, T.ec_TooGreat, T.ki_TooGreat_BadRow, T.ki_TooGreat_BadScheme, T.ki_TooGreat_BadSheet, T.ki_TooGreat_BadBook, T.ki_TooGreat_TooGreat, T.ki_TooGreat_OutOfPlace, T.ki_TooGreat_ValueError, T.ki_TooGreat_PressError, rfl⟩
    · exact ⟨_, _, _, _, _, _, T.ec_OutOfPlace, T.ki_OutOfPlace_BadRow, T.ki_OutOfPlace_BadScheme, T.ki_OutOfPlace_BadSheet, T.ki_OutOfPlace_BadBook, T.ki_OutOfPlace_TooGreat, T.ki_OutOfPlace_OutOfPlace, T.ki_OutOfPlace_ValueError, T.ki_OutOfPlace_PressError, rfl⟩
  rw [hz]
  refine run_seq (run_asg (d := .lst false (([("row", b1), ("scheme", b2)] : List (Str × Bool)).map kD)) (ev_frz (d := .lst true [.tup true [.str "row", .bl b1], .tup true [.str "scheme", .bl b2]]) (ev_lst (ea_cons (ev_tup (ea_cons ev_c (ea_cons (isi rfl hE k1) ea_nil)) two) (ea_cons (ev_tup (ea_cons ev_c (ea_cons (isi rfl hE k2) ea_nil)) two) ea_nil)) two))) ?_
  refine run_seq (run_asg (d := .lst false (([("row", b1), ("scheme", b2), ("sheet", b3), ("book", b4)] : List (Str × Bool)).map kD)) (ev_frz (d := .lst true ((([("row", b1), ("scheme", b2)] : List (Str × Bool)).map kD) ++ [.tup true [.str "sheet", .bl b3], .tup true [.str "book", .bl b4]])) (ev_op (ev_var rfl rfl) (ev_lst (ea_cons (ev_tup (ea_cons ev_c (ea_cons (isi rfl hE k3) ea_nil)) two) (ea_cons (ev_tup (ea_cons ev_c (ea_cons (isi rfl hE k4) ea_nil)) two) ea_nil)) two) (plus_lst (by show 4 ≤ sizeLine; decide))))) ?_
  refine run_seq (run_asg (d := .lst false (([("row", b1), ("scheme", b2), ("sheet", b3), ("book", b4), ("great", b5), ("place", b6)] : List (Str × Bool)).map kD)) (ev_frz (d := .lst true ((([("row", b1), ("scheme", b2), ("sheet", b3), ("book", b4)] : List (Str × Bool)).map kD) ++ [.tup true [.str "great", .bl b5], .tup true [.str "place", .bl b6]])) (ev_op (ev_var rfl rfl) (ev_lst (ea_cons (ev_tup (ea_cons ev_c (ea_cons (isi rfl hE k5) ea_nil)) two) (ea_cons (ev_tup (ea_cons ev_c (ea_cons (isi rfl hE k6) ea_nil)) two) ea_nil)) two) (plus_lst (by show 6 ≤ sizeLine; decide))))) ?_
  refine run_seq (run_asg (d := .lst false (([("row", b1), ("scheme", b2), ("sheet", b3), ("book", b4), ("great", b5), ("place", b6), ("other", false)] : List (Str × Bool)).map kD)) (ev_frz (d := .lst true ((([("row", b1), ("scheme", b2), ("sheet", b3), ("book", b4), ("great", b5), ("place", b6)] : List (Str × Bool)).map kD) ++ [.tup true [.str "other", .bl false]])) (ev_op (ev_var rfl rfl) (ev_lst (ea_cons (ev_tup (ea_cons ev_c (ea_cons ?_ ea_nil)) two) ea_nil) one) (plus_lst (by show 7 ≤ sizeLine; decide))))) ?_
  · refine ev_orT (d := .bl (!true)) (ev_notT (d := .bl true) (isv rfl hE kv) True.intro) True.intro (fun _ => ev_notT (d := .bl true) (isi rfl hE kp) True.intro) (fun h => nomatch h)
  refine run_ret (ev_lc (inj := kD) (walks_list (ev_var rfl rfl)) (fun x => [some (.exc C fs), some (.lst false (([("row", b1), ("scheme", b2), ("sheet", b3), ("book", b4), ("great", b5), ("place", b6), ("other", false)] : List (Str × Bool)).map kD)), some (.str x.1), some (.bl x.2)]) (fun x => x.2) (fun x => .str x.1) (show 7 ≤ 1000000 by decide) (fun x _ => ?_) (fun x _ => et_bl (ev_var rfl rfl)) (fun x _ _ => ev_var rfl rfl))
  exact takes_tup rfl (takes_cons (takes_name fun vs e => by cases e; decide) (takes_cons (takes_name fun vs e => by cases e; decide) takes_nil))
end
end K02

namespace K02
open PySem PySem.Spec PyProof.Rows L2 FP
def lawSize (n : Int) : Int × Int := if n / 64 % 2 = 0 then (1 + n % 8, if 32 / (1 + n % 8) < 1 + n / 8 % 8 then 32 / (1 + n % 8) else 1 + n / 8 % 8) else (if 4 < 1 + n % 8 then 4 else 1 + n % 8, if 4 < 1 + n / 8 % 8 then 4 else 1 + n / 8 % 8)
structure SizeOk (p : Int × Int) : Prop where
  r1 : 1 ≤ p.1
  r8 : p.1 ≤ 8
  c1 : 1 ≤ p.2
  c8 : p.2 ≤ 8
  rc : p.1 * p.2 ≤ 32
theorem lawSize_ok (n : Int) : SizeOk (lawSize n) := by
  have h1 : 0 ≤ n % 8 ∧ n % 8 ≤ 7 := by omega
  have h2 : 0 ≤ n / 8 % 8 ∧ n / 8 % 8 ≤ 7 := by omega
  generalize hx : n % 8 = x at h1
  generalize hy : n / 8 % 8 = y at h2
  unfold lawSize
  rw [hx, hy]
  obtain ⟨a1, a2⟩ := h1
  obtain ⟨b1, b2⟩ := h2
  have key : SizeOk (1 + x, if 32 / (1 + x) < 1 + y then 32 / (1 + x) else 1 + y) := by
    have hxs : x = 0 ∨ x = 1 ∨ x = 2 ∨ x = 3 ∨ x = 4 ∨ x = 5 ∨ x = 6 ∨ x = 7 := by omega
    rcases hxs with rfl | rfl | rfl | rfl | rfl | rfl | rfl | rfl <;> (constructor <;> simp only [] <;> (repeat split) <;> omega)
  have key2 : SizeOk (if (4 : Int) < 1 + x then 4 else 1 + x, if (4 : Int) < 1 + y then 4 else 1 + y) := by
    have hxs : x = 0 ∨ x = 1 ∨ x = 2 ∨ x = 3 ∨ x = 4 ∨ x = 5 ∨ x = 6 ∨ x = 7 := by omega
    rcases hxs with rfl | rfl | rfl | rfl | rfl | rfl | rfl | rfl <;> (constructor <;> simp only [] <;> (repeat split) <;> omega)
  split
  · exact key
  · exact key2
def R__law_size : List D → D → Prop := fun ds z => ∃ n, ds = [.int n] ∧ 0 ≤ n ∧ z = .tup true [.int (lawSize n).1, .int (lawSize n).2]
theorem len__law_size : ∀ ds z, R__law_size ds z → ds.length = 1 := by
  unfold R__law_size
  first
  | exact fun _ _ h => h.elim
  | (rintro ds z ⟨_, rfl, _⟩; rfl)
  | (rintro ds z ⟨_, _, rfl, _⟩; rfl)
  | (rintro ds z ⟨_, _, _, rfl, _⟩; rfl)
  | (rintro ds z ⟨_, _, _, _, rfl, _⟩; rfl)
section
variable {P : Program} {w : World} {K : PySem.W.Frag} {mg : Str → Option Value} {base : Heap}
set_option maxHeartbeats 4000000 in
theorem ok__law_size (T : Txt K mg) : FnOk P w K mg base CX0 1 T.f__law_size T.fd__law_size ["_law_number"] (spF K R__law_size) := by
  refine ok_of (N := ["_law_number", "_law_rows", "_law_columns"]) T.F__law_size sc__law_size len__law_size fun cdv A outer s H E hr => ⟨_, (pss_cons (ps_set (i := 1) sc__law_size.nd rfl (by first | exact Or.inl rfl | exact Or.inr rfl) (pe_op (op_plusK (K := K) rfl) pe_int (pe_op op_md (pv 0) pe_int)))
      (pss_cons (ps_set (i := 2) sc__law_size.nd rfl (by first | exact Or.inl rfl | exact Or.inr rfl) (pe_op (op_plusK (K := K) rfl) pe_int (pe_op op_md (pe_op op_fd (pv 0) pe_int) pe_int)))
      (pss_one (ps_ret (pe_ifExp (pt_cmpR (op_eqqK (K := K) rfl hr.units) (pe_op op_md (pe_op op_fd (pv 0) pe_int) pe_int) pe_int (nomark _)) (pe_tup (pa_cons (pv 1) (pa_cons (pe_callB (call_minnK (K := K) rfl rfl) (by rfl) T.z_min (by decide +kernel) (pa_cons (pv 2) (pa_cons (pe_op op_fd pe_int (pv 1)) pa_nil))) pa_nil))) (pe_tup (pa_cons (pe_callB (call_minnK (K := K) rfl rfl) (by rfl) T.z_min (by decide +kernel) (pa_cons (pv 1) (pa_cons pe_int pa_nil))) (pa_cons (pe_callB (call_minnK (K := K) rfl rfl) (by rfl) T.z_min (by decide +kernel) (pa_cons (pv 2) (pa_cons pe_int pa_nil))) pa_nil)))))))), ?_⟩
  (try simp only [cxK])
  rintro _ _ ⟨n, rfl, h0, rfl⟩
  refine ⟨.rt (.tup true [.int (lawSize n).1, .int (lawSize n).2]), run_seq (run_asg (d := .int (1 + n % 8)) (ev_op ev_c (ev_op (ev_var rfl rfl) ev_c (md_int (by decide))) plus_int)) (run_seq (run_asg (d := .int (1 + n / 8 % 8)) (ev_op ev_c (ev_op (ev_op (ev_var rfl rfl) ev_c (fd_int ⟨by decide, by decide⟩)) ev_c (md_int (by decide))) plus_int)) (run_ret ?_)), rfl⟩
  refine ev_if (b := decide (n / 64 % 2 = 0)) (et_test (ev_op (ev_op (ev_op (ev_var rfl rfl) ev_c (fd_int ⟨by decide, by decide⟩)) ev_c (md_int (by decide))) ev_c eq_int')) (fun h => ?_) (fun h => ?_)
  · have e : lawSize n = (1 + n % 8, if 32 / (1 + n % 8) < 1 + n / 8 % 8 then 32 / (1 + n % 8) else 1 + n / 8 % 8) := if_pos (of_decide_eq_true h)
    rw [e]
    exact ev_tup (ea_cons (ev_var rfl rfl) (ea_cons (ev_call (ea_cons (ev_var rfl rfl) (ea_cons (ev_op ev_c (ev_var rfl rfl) (fd_int ⟨by omega, by omega⟩)) ea_nil)) min_int) ea_nil)) (show 2 ≤ 1000000 by decide)
  · have e : lawSize n = (if 4 < 1 + n % 8 then 4 else 1 + n % 8, if 4 < 1 + n / 8 % 8 then 4 else 1 + n / 8 % 8) := if_neg (of_decide_eq_false h)
    rw [e]
    exact ev_tup (ea_cons (ev_call (ea_cons (ev_var rfl rfl) (ea_cons ev_c ea_nil)) min_int) (ea_cons (ev_call (ea_cons (ev_var rfl rfl) (ea_cons ev_c ea_nil)) min_int) ea_nil)) (show 2 ≤ 1000000 by decide)
end
end K02

namespace K02
open PySem PySem.Spec PyProof.Rows L2 FP
abbrev EDG : List Str := ["left", "right", "top", "bottom"]
abbrev WYS : List Str := ["over", "under"]
def atLeast1 : D → Bool
  | .sc (.int m) => decide (1 ≤ m)
  | _ => false
def isFold : D → Bool
  | .tup _ [e, m, w] => isWord e EDG && (atLeast1 m && isWord w WYS)
  | _ => false
/-- what is handed in as a fold: given up, its parts of a kind that isinstance knows -/
structure FoldD (d : D) : Prop where
  fr : d.frz = d
  ty : tyN d ≠ ""
  parts : ∀ o es, d = .tup o es → ∀ e ∈ es, tyN e ≠ ""
theorem frz_tup {o : Bool} {es : List D} (h : (D.tup o es).frz = .tup o es) : o = false ∧ D.frzs es = es := by
  rw [D.frz] at h
  injection h with h1 h2
  exact ⟨h1.symm, h2⟩
def R__is_fold : List D → D → Prop := fun ds z => ∃ d, ds = [d] ∧ FoldD d ∧ z = .bl (isFold d)
theorem len__is_fold : ∀ ds z, R__is_fold ds z → ds.length = 1 := by
  unfold R__is_fold
  first
  | exact fun _ _ h => h.elim
  | (rintro ds z ⟨_, rfl, _⟩; rfl)
  | (rintro ds z ⟨_, _, rfl, _⟩; rfl)
  | (rintro ds z ⟨_, _, _, rfl, _⟩; rfl)
  | (rintro ds z ⟨_, _, _, _, rfl, _⟩; rfl)
section
variable {P : Program} {w : World} {K : PySem.W.Frag} {mg : Str → Option Value} {base : Heap}
set_option maxHeartbeats 4000000 in
theorem ok__is_fold (T : Txt K mg) : FnOk P w K mg base CX0 2 T.f__is_fold T.fd__is_fold ["fold"] (spF K R__is_fold) := by
  refine ok_of (N := ["fold", "edge", "many", "way"]) T.F__is_fold sc__is_fold len__is_fold fun cdv A outer s H E hr => ⟨_, (pss_cons (ps_if (PW.pt (pw_or (pt_not (pt_truthK (K := K) rfl (pe_callB (call_isisK (K := K) rfl) (by rfl) T.z_isinstance (by decide +kernel) (pa_cons (pv 0) (pa_cons (pe_bltn (v := .ty "tuple") (by rfl) T.z_tuple (by decide +kernel) rfl) pa_nil))) (by intro _; rfl))) (pw_or1 (pt_cmpR (op_neeK (K := K) rfl hr.units) (pe_callB (call_lennK (K := K) rfl) (by rfl) T.z_len (by decide +kernel) (pa_cons (pv 0) pa_nil)) pe_int (nomark _)))))
      (pss_one (ps_ret pe_bl)) pss_nil)
      (pss_cons (ps_asg (pv 0) (pg_tupK (K := K) (n := 3) rfl rfl (pgs_cons (pg_name (i := 1) sc__is_fold.nd rfl (by first | exact Or.inl rfl | exact Or.inr rfl)) (pgs_cons (pg_name (i := 2) sc__is_fold.nd rfl (by first | exact Or.inl rfl | exact Or.inr rfl)) (pgs_cons (pg_name (i := 3) sc__is_fold.nd rfl (by first | exact Or.inl rfl | exact Or.inr rfl)) pgs_nil)))))
      (pss_one (ps_ret (pe_andTK (K := K) rfl (pe_call (ok__is_word_of T) (hr.mono (by decide)) (by rfl) T.g__is_word_of T.F__is_word_of.kp T.b__is_word_of .nil pass0 (pa_cons (pv 1) (pa_cons (pe_glob (v := .ref T.a_EDGES) (by rfl) T.c_EDGES rfl) pa_nil))) (pe_andTK (K := K) rfl (pe_call (ok_is_whole T) (hr.mono (by decide)) (by rfl) T.g_is_whole T.F_is_whole.kp T.b_is_whole .nil pass0 (pa_cons (pv 2) pa_nil)) (pe_andTK (K := K) rfl (pe_cmpR op_gee (pv 2) pe_int (nomark _)) (pe_one (pe_call (ok__is_word_of T) (hr.mono (by decide)) (by rfl) T.g__is_word_of T.F__is_word_of.kp T.b__is_word_of .nil pass0 (pa_cons (pv 3) (pa_cons (pe_glob (v := .ref T.a_WAYS) (by rfl) T.c_WAYS rfl) pa_nil))))))))))), ?_⟩
  (try simp only [cxK])
  rintro _ _ ⟨d, rfl, hF, rfl⟩
  refine ⟨.rt (.bl (isFold d)), ?_, rfl⟩
  have isi : EvT K (tTruK K (tCB (rIsis K) (tCons (tVar 0) (tCons (tC (.ty "tuple")) tNil)))) (env0 ["fold", "edge", "many", "way"] [d]) (isTup d) :=
    et_truK (d := .bl _) (ev_isi rfl (D.shd_of hF.fr) hF.ty (kit_tup d hF.ty)) True.intro
  cases ht : isTup d with
  | false =>
    have e : isFold d = false := by
      cases d with
      | tup => cases ht
      | _ => rfl
    rw [ht] at isi
    rw [e]
    exact run_seq_if (b := true || false) (et_or (et_not isi) fun z => nomatch z) (fun _ => run_seq_rt (run_ret ev_c)) fun z => nomatch z
  | true =>
    rw [ht] at isi
    obtain ⟨o, es, rfl⟩ : ∃ o es, d = .tup o es := by
      cases d with
      | tup o es => exact ⟨o, es, rfl⟩
      | _ => cases ht
    obtain ⟨rfl, hes⟩ := frz_tup hF.fr
    have tys := hF.parts _ _ rfl
    refine run_seq_if (b := (!true) || !decide ((es.length : Int) = 3)) (et_or (et_not isi) fun _ => et_test (ev_op (ev_call (ea_cons (ev_var rfl rfl) ea_nil) len_tp) ev_c ne_int')) (fun h => ?_) (fun h => ?_)
    · have e : isFold (.tup false es) = false := by
        unfold isFold
        split
        · rename_i e m w h0
          cases h0
          simp at h
        · rfl
      rw [e]
      exact run_seq_rt (run_ret ev_c)
    · have hl : es.length = 3 := by
        simp at h
        omega
      obtain ⟨e, m, w, rfl⟩ : ∃ e m w, es = [e, m, w] := by
        match es, hl with
        | [e, m, w], _ => exact ⟨e, m, w, rfl⟩
      have fe : e.frz = e ∧ m.frz = m ∧ w.frz = w := by
        rw [D.frzs_cons, D.frzs_cons, D.frzs_cons, D.frzs_nil] at hes
        injection hes with h1 h2
        injection h2 with h2 h3
        injection h3 with h3 _
        exact ⟨h1, h2, h3⟩
      have te := tys e (by simp)
      have tm := tys m (by simp)
      have tw := tys w (by simp)
      refine run_skip (run_seq (run_asgT (ev_var (d := .tup false [e, m, w]) rfl rfl) rfl (takes_tup rfl (takes_cons (takes_name fun _ h => nomatch h) (takes_cons (takes_name fun _ h => nomatch h) (takes_cons (takes_name fun _ h => nomatch h) takes_nil))))) (run_ret ?_))
      show EvS _ _ _ (.bl (isWord e EDG && (atLeast1 m && isWord w WYS)))
      have edg : ∀ {i : Nat} {v : D} {ρ : FP.Env}, ρ[i]? = some (some v) → v.frz = v → tyN v ≠ "" → EvS K (tCall (spF K R__is_word_of) [] E0 (tCons (tVar i) (tCons (tC (.ref T.a_EDGES)) tNil))) ρ (.bl (isWord v EDG)) := fun h1 h2 h3 =>
        ev_fn (ds := [_, .tup false (EDG.map D.str)]) (ea_cons (ev_var h1 (D.shd_of h2)) (ea_cons (ev_kt T.k_EDGES) ea_nil)) ⟨_, EDG, by rw [D.frzs_cons, D.frzs_cons, h2, D.frz, D.frzs_strs, D.frzs_nil], h2, h3, rfl⟩
      have wys : ∀ {i : Nat} {v : D} {ρ : FP.Env}, ρ[i]? = some (some v) → v.frz = v → tyN v ≠ "" → EvS K (tCall (spF K R__is_word_of) [] E0 (tCons (tVar i) (tCons (tC (.ref T.a_WAYS)) tNil))) ρ (.bl (isWord v WYS)) := fun h1 h2 h3 =>
        ev_fn (ds := [_, .tup false (WYS.map D.str)]) (ea_cons (ev_var h1 (D.shd_of h2)) (ea_cons (ev_kt T.k_WAYS) ea_nil)) ⟨_, WYS, by rw [D.frzs_cons, D.frzs_cons, h2, D.frz, D.frzs_strs, D.frzs_nil], h2, h3, rfl⟩
      refine ev_andT (d := .bl (isWord e EDG)) (edg rfl fe.1 te) True.intro (fun h1 => ?_) (fun h1 => ?_)
      · rw [show isWord e EDG = true from h1, Bool.true_and]
        refine ev_andT (d := .bl (isInt m)) (ev_fn (ds := [m]) (ea_cons (ev_var rfl (D.shd_of fe.2.1)) ea_nil) ⟨m, D.frzs1 fe.2.1, fe.2.1, tm, rfl⟩) True.intro (fun h2 => ?_) (fun h2 => ?_)
        · obtain ⟨n, rfl⟩ : ∃ n, m = .int n := by
            cases m with
            | sc x => cases x with
              | int n => exact ⟨n, rfl⟩
              | _ => cases h2
            | _ => cases h2
          refine ev_andT (d := .bl (decide (1 ≤ n))) (ev_op (ev_var rfl rfl) ev_c ge_int') True.intro (fun h3 => ?_) (fun h3 => ?_)
          · show EvS _ _ _ (.bl (decide (1 ≤ n) && isWord w WYS))
            rw [show decide (1 ≤ n) = true from h3, Bool.true_and]
            exact wys rfl fe.2.2 tw
          · show D.bl (decide (1 ≤ n) && isWord w WYS) = _
            rw [show decide (1 ≤ n) = false from h3]
            rfl
        · have : atLeast1 m = false := by
            cases m with
            | sc x => cases x with
              | int n => cases h2
              | _ => rfl
            | _ => rfl
          rw [this, show isInt m = false from h2]
          rfl
      · rw [show isWord e EDG = false from h1]
        rfl
end
end K02

namespace K02
open PySem PySem.Spec PyProof.Rows L2 FP
abbrev LEV : List Str := ["top", "bottom"]
/-- the size behind a fold, none where it can't be -/
def szAft (p : Int × Int) (d : D) : Option (Int × Int) := if isFold d = true then
    match d with
    | .tup _ [.sc (.str e), .sc (.int m), _] => if e ∈ LEV then (if 2 * m ≤ p.1 then some (p.1 - m, p.2) else none) else if 2 * m ≤ p.2 then some (p.1, p.2 - m) else none
    | _ => none
  else none
def szD : Option (Int × Int) → D
  | none => .non
  | some q => .tup true [.int q.1, .int q.2]
theorem isFold_form {d : D} (h : isFold d = true) : ∃ o e m w, d = .tup o [.str e, .int m, .str w] ∧ e ∈ EDG ∧ 1 ≤ m ∧ w ∈ WYS := by
  unfold isFold at h
  split at h
  · rename_i o e m w
    obtain ⟨h1, h⟩ := Bool.and_eq_true_iff.mp h
    obtain ⟨h2, h3⟩ := Bool.and_eq_true_iff.mp h
    obtain ⟨e', rfl, he⟩ : ∃ s, e = .str s ∧ s ∈ EDG := by
      cases e with
      | sc x => cases x with
        | str s => exact ⟨s, rfl, of_decide_eq_true h1⟩
        | _ => cases h1
      | _ => cases h1
    obtain ⟨m', rfl, hm⟩ : ∃ n, m = .int n ∧ 1 ≤ n := by
      cases m with
      | sc x => cases x with
        | int s => exact ⟨s, rfl, of_decide_eq_true h2⟩
        | _ => cases h2
      | _ => cases h2
    obtain ⟨w', rfl, hw⟩ : ∃ s, w = .str s ∧ s ∈ WYS := by
      cases w with
      | sc x => cases x with
        | str s => exact ⟨s, rfl, of_decide_eq_true h3⟩
        | _ => cases h3
      | _ => cases h3
    exact ⟨o, e', m', w', rfl, he, hm, hw⟩
  · cases h
def R_size_after : List D → D → Prop := fun ds z => ∃ r c d, ds = [.int r, .int c, d] ∧ FoldD d ∧ z = szD (szAft (r, c) d)
theorem len_size_after : ∀ ds z, R_size_after ds z → ds.length = 3 := by
  unfold R_size_after
  first
  | exact fun _ _ h => h.elim
  | (rintro ds z ⟨_, rfl, _⟩; rfl)
  | (rintro ds z ⟨_, _, rfl, _⟩; rfl)
  | (rintro ds z ⟨_, _, _, rfl, _⟩; rfl)
  | (rintro ds z ⟨_, _, _, _, rfl, _⟩; rfl)
section
variable {P : Program} {w : World} {K : PySem.W.Frag} {mg : Str → Option Value} {base : Heap}
set_option maxHeartbeats 4000000 in
theorem ok_size_after (T : Txt K mg) : FnOk P w K mg base CX0 3 T.f_size_after T.fd_size_after ["rows", "columns", "fold"] (spF K R_size_after) := by
  refine ok_of (N := ["rows", "columns", "fold", "edge", "many", "_"]) T.F_size_after sc_size_after len_size_after fun cdv A outer s H E hr => ⟨_, (pss_cons (ps_if (pt_not (pt_truthK (K := K) rfl (pe_call (ok__is_fold T) (hr.mono (by decide)) (by rfl) T.g__is_fold T.F__is_fold.kp T.b__is_fold .nil pass0 (pa_cons (pv 2) pa_nil)) (by intro _; rfl)))
      (pss_one (ps_ret pe_non)) pss_nil)
      (pss_cons (ps_asg (pv 2) (pg_tupK (K := K) (n := 3) rfl rfl (pgs_cons (pg_name (i := 3) sc_size_after.nd rfl (by first | exact Or.inl rfl | exact Or.inr rfl)) (pgs_cons (pg_name (i := 4) sc_size_after.nd rfl (by first | exact Or.inl rfl | exact Or.inr rfl)) (pgs_cons (pg_name (i := 5) sc_size_after.nd rfl (by first | exact Or.inl rfl | exact Or.inr rfl)) pgs_nil)))))
      (pss_cons (ps_if (pt_cmpR (op_innK (K := K) rfl) (pv 3) (pe_glob (v := .ref T.a_LEVEL_EDGES) (by rfl) T.c_LEVEL_EDGES rfl) (by with_unfolding_all rfl))
      (pss_one (ps_ret (pe_ifExp (pt_cmpR op_lee (pe_op op_times pe_int (pv 4)) (pv 0) (nomark _)) (pe_tup (pa_cons (pe_op op_sb (pv 0) (pv 4)) (pa_cons (pv 1) pa_nil))) pe_non))) pss_nil)
      (pss_one (ps_ret (pe_ifExp (pt_cmpR op_lee (pe_op op_times pe_int (pv 4)) (pv 1) (nomark _)) (pe_tup (pa_cons (pv 0) (pa_cons (pe_op op_sb (pv 1) (pv 4)) pa_nil))) pe_non)))))), ?_⟩
  (try simp only [cxK])
  rintro _ _ ⟨r, c, d, rfl, hF, rfl⟩
  refine ⟨.rt (szD (szAft (r, c) d)), ?_, rfl⟩
  refine run_seq_if (b := !isFold d) (et_not (et_bl (ev_fn (ds := [d]) (ea_cons (ev_var rfl (D.shd_of hF.fr)) ea_nil) ⟨d, D.frzs1 hF.fr, hF, rfl⟩))) (fun h => ?_) (fun h => ?_)
  · have e : szAft (r, c) d = none := by
      unfold szAft
      rw [if_neg (by simpa using h)]
    rw [e]
    exact run_seq_rt (run_ret ev_c)
  · have hf : isFold d = true := by simpa using h
    obtain ⟨o, e, m, w, rfl, he, hm, hw⟩ := isFold_form hf
    obtain ⟨rfl, _⟩ := frz_tup hF.fr
    refine run_skip (run_seq (run_asgT (ev_var (d := .tup false [.str e, .int m, .str w]) rfl rfl) rfl (takes_tup rfl (takes_cons (takes_name fun _ h => nomatch h) (takes_cons (takes_name fun _ h => nomatch h) (takes_cons (takes_name fun _ h => nomatch h) takes_nil))))) ?_)
    have hin : EvT K (tOp (rInn K) (tVar 3) (tC (.ref T.a_LEVEL_EDGES)) |> tTest) ([some (.int r), some (.int c), some (.tup false [.str e, .int m, .str w]), some (.str e), some (.int m), some (.str w)] : FP.Env) (decide (e ∈ LEV)) := by
      refine et_test (ev_op (x := .str e) (y := .tup false (LEV.map D.str)) (ev_var rfl rfl) (ev_kt T.k_LEVEL_EDGES) ?_)
      have h2 := in_tp (K := K) (o := false) (x := .str e) (xs := LEV.map V.str) rfl (flat_strs LEV)
      rw [inV_strs, List.map_map] at h2
      exact h2
    refine run_seq_if hin (fun h => ?_) (fun h => ?_)
    · have h := of_decide_eq_true h
      refine run_seq_rt (run_ret (ev_if (b := decide (2 * m ≤ r)) (et_test (ev_op (ev_op ev_c (ev_var rfl rfl) (times_int (.inl ⟨by decide, by decide⟩))) (ev_var rfl rfl) le_int')) (fun h1 => ?_) (fun h1 => ?_)))
      · have e1 : szAft (r, c) (.tup false [.str e, .int m, .str w]) = some (r - m, c) := by
          unfold szAft
          rw [if_pos hf]
          show (if e ∈ LEV then (if 2 * m ≤ r then some (r - m, c) else none) else _) = _
          rw [if_pos h, if_pos (of_decide_eq_true h1)]
        rw [e1]
        exact ev_tup (ea_cons (ev_op (ev_var rfl rfl) (ev_var rfl rfl) sub_int') (ea_cons (ev_var rfl rfl) ea_nil)) (show 2 ≤ 1000000 by decide)
      · have e1 : szAft (r, c) (.tup false [.str e, .int m, .str w]) = none := by
          unfold szAft
          rw [if_pos hf]
          show (if e ∈ LEV then (if 2 * m ≤ r then some (r - m, c) else none) else _) = _
          rw [if_pos h, if_neg (of_decide_eq_false h1)]
        rw [e1]
        exact ev_c
    · have h := of_decide_eq_false h
      refine run_skip (run_ret (ev_if (b := decide (2 * m ≤ c)) (et_test (ev_op (ev_op ev_c (ev_var rfl rfl) (times_int (.inl ⟨by decide, by decide⟩))) (ev_var rfl rfl) le_int')) (fun h1 => ?_) (fun h1 => ?_)))
      · have e1 : szAft (r, c) (.tup false [.str e, .int m, .str w]) = some (r, c - m) := by
          unfold szAft
          rw [if_pos hf]
          show (if e ∈ LEV then _ else if 2 * m ≤ c then some (r, c - m) else none) = _
          rw [if_neg h, if_pos (of_decide_eq_true h1)]
        rw [e1]
        exact ev_tup (ea_cons (ev_var rfl rfl) (ea_cons (ev_op (ev_var rfl rfl) (ev_var rfl rfl) sub_int') ea_nil)) (show 2 ≤ 1000000 by decide)
      · have e1 : szAft (r, c) (.tup false [.str e, .int m, .str w]) = none := by
          unfold szAft
          rw [if_pos hf]
          show (if e ∈ LEV then _ else if 2 * m ≤ c then some (r, c - m) else none) = _
          rw [if_neg h, if_neg (of_decide_eq_false h1)]
        rw [e1]
        exact ev_c
end
end K02

namespace K02
open PySem PySem.Spec PyProof.Rows L2 FP
theorem eqD_pair {o o' : Bool} {a b c d : Int} : eqD (.tup o [.int a, .int b]) (.tup o' [.int c, .int d]) = decide ((a, b) = (c, d)) := by
  unfold eqD
  simp [py, pys, PyData.eqv, PyData.eqvAll]
  rfl
/-- how many folds can be, one behind the other -/
def good : Int × Int → List D → Nat
  | _, [] => 0
  | p, d :: ds => match szAft p d with
    | none => 0
    | some q => good q ds + 1
def szAt : Int × Int → List D → Nat → Int × Int
  | p, _, 0 => p
  | p, [], _ + 1 => p
  | p, d :: ds, k + 1 => match szAft p d with
    | none => p
    | some q => szAt q ds k
theorem good_step : ∀ {p : Int × Int} {ds : List D} {k : Nat}, k < good p ds → ∃ d, ds[k]? = some d ∧ szAft (szAt p ds k) d = some (szAt p ds (k + 1))
  | p, [], k, h => by simp [good] at h
  | p, d :: ds, k, h => by
    unfold good at h
    cases e : szAft p d with
    | none => rw [e] at h; simp at h
    | some q =>
      rw [e] at h
      cases k with
      | zero =>
        refine ⟨d, rfl, ?_⟩
        show szAft p d = some (szAt p (d :: ds) 1)
        unfold szAt
        rw [e]
        show some q = some (szAt q ds 0)
        cases ds <;> rfl
      | succ k =>
        obtain ⟨d', h1, h2⟩ := good_step (p := q) (ds := ds) (k := k) (by simpa using h)
        refine ⟨d', by simpa using h1, ?_⟩
        have e1 : ∀ j, szAt p (d :: ds) (j + 1) = szAt q ds j := fun j => by rw [szAt, e]
        rw [e1, e1]
        exact h2
theorem good_le : ∀ {p : Int × Int} {ds : List D}, good p ds ≤ ds.length
  | p, [] => Nat.le_refl _
  | p, d :: ds => by
    unfold good
    cases e : szAft p d with
    | none => exact Nat.zero_le _
    | some q => exact Nat.succ_le_succ good_le
theorem good_stop : ∀ {p : Int × Int} {ds : List D}, good p ds < ds.length → ∃ d, ds[good p ds]? = some d ∧ szAft (szAt p ds (good p ds)) d = none
  | p, [], h => by simp [good] at h
  | p, d :: ds, h => by
    cases e : szAft p d with
    | none =>
      have g : good p (d :: ds) = 0 := by unfold good; rw [e]
      rw [g]
      exact ⟨d, rfl, e⟩
    | some q =>
      have g : good p (d :: ds) = good q ds + 1 := by rw [good, e]
      rw [g] at h ⊢
      obtain ⟨d', h1, h2⟩ := good_stop (p := q) (ds := ds) (by simpa using h)
      refine ⟨d', by simpa using h1, ?_⟩
      rw [show szAt p (d :: ds) (good q ds + 1) = szAt q ds (good q ds) by rw [szAt, e]]
      exact h2
def firstWrong (p : Int × Int) (ds : List D) : Option Int := if good p ds < ds.length then some ((good p ds : Nat) + 1) else if szAt p ds ds.length = (1, 1) then none else some ((ds.length : Nat) + 1)
def optD : Option Int → D
  | none => .non
  | some k => .int k
theorem enumS_get {k : Int} {ds : List D} {i : Nat} {x : D} (h : (enumS k ds)[i]? = some x) : ∃ d, ds[i]? = some d ∧ x = .tup false [.int (k + (i : Nat)), d] := by
  unfold enumS at h
  rw [List.getElem?_mapIdx] at h
  cases e : ds[i]? with
  | none => rw [e] at h; cases h
  | some d =>
    rw [e] at h
    exact ⟨d, rfl, (Option.some.inj h).symm⟩
theorem frzs_fold {fs : List D} (h : ∀ d ∈ fs, FoldD d) : D.frzs fs = fs := by
  have := D.frzs_of (f := id) fs fun x hx => (h x hx).fr
  rwa [List.map_id] at this
def R_first_wrong_fold : List D → D → Prop := fun ds z => ∃ r c fs, ds = [.int r, .int c, .lst false fs] ∧ (∀ d ∈ fs, FoldD d) ∧ z = optD (firstWrong (r, c) fs)
abbrev szT (q : Int × Int) : D := .tup false [.int q.1, .int q.2]
def szF : Option (Int × Int) → D
  | none => .non
  | some q => szT q
theorem szD_frz (o : Option (Int × Int)) : (szD o).frz = szF o := by cases o <;> rfl
theorem len_first_wrong_fold : ∀ ds z, R_first_wrong_fold ds z → ds.length = 3 := by
  unfold R_first_wrong_fold
  first
  | exact fun _ _ h => h.elim
  | (rintro ds z ⟨_, rfl, _⟩; rfl)
  | (rintro ds z ⟨_, _, rfl, _⟩; rfl)
  | (rintro ds z ⟨_, _, _, rfl, _⟩; rfl)
  | (rintro ds z ⟨_, _, _, _, rfl, _⟩; rfl)
section
variable {P : Program} {w : World} {K : PySem.W.Frag} {mg : Str → Option Value} {base : Heap}
set_option maxHeartbeats 4000000 in
theorem ok_first_wrong_fold (T : Txt K mg) : FnOk P w K mg base CX0 4 T.f_first_wrong_fold T.fd_first_wrong_fold ["rows", "columns", "folds"] (spF K R_first_wrong_fold) := by
  refine ok_of (N := ["rows", "columns", "folds", "left", "at", "fold"]) T.F_first_wrong_fold sc_first_wrong_fold len_first_wrong_fold fun cdv A outer s H E hr => ⟨_, (pss_cons (ps_set (i := 3) sc_first_wrong_fold.nd rfl (by first | exact Or.inl rfl | exact Or.inr rfl) (pe_tup (pa_cons (pv 0) (pa_cons (pv 1) pa_nil))))
      (pss_cons (ps_for PassesOwn.never rfl (pi_enumSK (K := K) rfl (by rfl) T.z_enumerate (pa_cons (pv 2) pa_nil)) (pg_tupK (K := K) (n := 2) rfl rfl (pgs_cons (pg_name (i := 4) sc_first_wrong_fold.nd rfl (by first | exact Or.inl rfl | exact Or.inr rfl)) (pgs_cons (pg_name (i := 5) sc_first_wrong_fold.nd rfl (by first | exact Or.inl rfl | exact Or.inr rfl)) pgs_nil)))
      (pss_cons (ps_set (i := 3) sc_first_wrong_fold.nd rfl (by first | exact Or.inl rfl | exact Or.inr rfl) (pe_call (ok_size_after T) (hr.mono (by decide)) (by rfl) T.g_size_after T.F_size_after.kp T.b_size_after .nil pass0 (pa_cons (pe_ix (ix_seqK (K := K) rfl) (pv 3) pe_int (fun _ _ => rfl)) (pa_cons (pe_ix (ix_seqK (K := K) rfl) (pv 3) pe_int (fun _ _ => rfl)) (pa_cons (pv 5) pa_nil)))))
      (pss_one (ps_if (pt_cmpR op_iss (pv 3) pe_non (nomark _))
      (pss_one (ps_ret (pv 4))) pss_nil))))
      (pss_cons (ps_if (pt_cmpR (op_neeK (K := K) rfl hr.units) (pv 3) (pe_tup (pa_cons pe_int (pa_cons pe_int pa_nil))) (nomark _))
      (pss_one (ps_ret (pe_op (op_plusK (K := K) rfl) (pe_callB (call_lennK (K := K) rfl) (by rfl) T.z_len (by decide +kernel) (pa_cons (pv 2) pa_nil)) pe_int))) pss_nil)
      (pss_one (ps_ret pe_non))))), ?_⟩
  (try simp only [cxK])
  rintro _ _ ⟨r, c, fs, rfl, hF, rfl⟩
  refine ⟨.rt (optD (firstWrong (r, c) fs)), ?_, rfl⟩
  refine run_seq (run_asg (d := szT (r, c)) (ev_frz (d := .tup true [.int r, .int c]) (ev_tup (ea_cons (ev_var rfl rfl) (ea_cons (ev_var rfl rfl) ea_nil)) (show 2 ≤ 1000000 by decide)))) ?_
  let Re : Nat → FP.Env := fun k => [some (.int r), some (.int c), some (.lst false fs), some (szT (szAt (r, c) fs k)), none, none]
  have h0 : szAt (r, c) fs 0 = (r, c) := by cases fs <;> rfl
  have hw : Walks K (iEnumS K 1 (tCons (tVar 2) tNil)) [some (.int r), some (.int c), some (.lst false fs), some (szT (r, c)), none, none] (enumS 1 fs) := walks_enumS (ea_cons (ev_var rfl rfl) ea_nil)
  have tk : ∀ (k : Nat) (d : D), FP.Takes K (gTup K 2 (gCons (gName 4) (gCons (gName 5) gNil))) none (.tup false [.int (1 + (k : Nat)), d]) (Re k) [some (.int r), some (.int c), some (.lst false fs), some (szT (szAt (r, c) fs k)), some (.int (1 + (k : Nat))), some d] := fun k d =>
    takes_tup rfl (takes_cons (takes_name fun _ h => nomatch h) (takes_cons (takes_name fun _ h => nomatch h) takes_nil))
  have asg : ∀ {k : Nat} {d : D}, fs[k]? = some d → EvS K (tCall (spF K R_size_after) [] E0 (tCons (tOp (rIx K) (tVar 3) (tC (.int 0))) (tCons (tOp (rIx K) (tVar 3) (tC (.int 1))) (tCons (tVar 5) tNil)))) [some (.int r), some (.int c), some (.lst false fs), some (szT (szAt (r, c) fs k)), some (.int (1 + (k : Nat))), some d] (szF (szAft (szAt (r, c) fs k) d)) := fun {k d} hd => by
    have hf := hF d (List.mem_of_getElem? hd)
    rw [← szD_frz]
    exact ev_frz (ev_fn (ds := [.int (szAt (r, c) fs k).1, .int (szAt (r, c) fs k).2, d]) (ea_cons (ev_op (x := szT (szAt (r, c) fs k)) (ev_var rfl rfl) ev_c (ix_tp rfl)) (ea_cons (ev_op (x := szT (szAt (r, c) fs k)) (ev_var rfl rfl) ev_c (ix_tp rfl)) (ea_cons (ev_var rfl (D.shd_of hf.fr)) ea_nil)))
      ⟨_, _, d, by rw [D.frzs_cons, D.frzs_cons, D.frzs_cons, D.frzs_nil, hf.fr]; rfl, hf, rfl⟩)
  by_cases hg : good (r, c) fs < fs.length
  · have e : firstWrong (r, c) fs = some ((good (r, c) fs : Nat) + 1) := if_pos hg
    rw [e]
    obtain ⟨d, hd, hz⟩ := good_stop hg
    refine run_seq_rt (run_for hw Re (good (r, c) fs) (by simpa [enumS] using good_le) (by show Weak _ [some (.int r), some (.int c), some (.lst false fs), some (szT (szAt (r, c) fs 0)), none, none]; rw [h0]; exact Weak.refl _) (fun k x hk hx => ?_) (.ret (x := .tup false [.int (1 + (good (r, c) fs : Nat)), d]) ?_ (tk _ d) ?_))
    · obtain ⟨d', hd', rfl⟩ := enumS_get hx
      obtain ⟨d2, hd2, hs⟩ := good_step hk
      rw [hd'] at hd2
      cases hd2
      refine ⟨_, tk k d', .inl ?_⟩
      have a := asg hd'
      rw [hs] at a
      refine run_seq (run_asg a) (run_if (b := isNo (szT (szAt (r, c) fs (k + 1)))) (et_test (ev_op (ev_var rfl rfl) ev_c is_no)) (fun h => nomatch h) fun _ => run_weak run_next (.same (.same (.same (.same (.drop (.drop .nil)))))))
    · show (enumS 1 fs)[good (r, c) fs]? = _
      unfold enumS
      rw [List.getElem?_mapIdx, hd]
      rfl
    · have a := asg hd
      rw [hz] at a
      refine run_seq (run_asg a) (run_if (b := isNo .non) (et_test (ev_op (ev_var (d := D.non) rfl rfl) ev_c is_no)) (fun _ => ?_) (fun h => nomatch h))
      have e2 : D.int ((good (r, c) fs : Nat) + 1) = .int (1 + (good (r, c) fs : Nat)) := by rw [Int.add_comm]
      show FP.Run _ _ _ _ (.rt (.int ((good (r, c) fs : Nat) + 1)))
      rw [e2]
      exact run_ret (ev_var rfl rfl)
  · have hge : good (r, c) fs = fs.length := Nat.le_antisymm good_le (Nat.not_lt.mp hg)
    have e : firstWrong (r, c) fs = (if szAt (r, c) fs fs.length = (1, 1) then (none : Option Int) else some (((fs.length : Nat) : Int) + 1)) := if_neg hg
    rw [e]
    refine run_seq (run_for hw Re fs.length (by simp [enumS]) (by show Weak _ [some (.int r), some (.int c), some (.lst false fs), some (szT (szAt (r, c) fs 0)), none, none]; rw [h0]; exact Weak.refl _) (fun k x hk hx => ?_) (.all (by simp [enumS]))) ?_
    · obtain ⟨d', hd', rfl⟩ := enumS_get hx
      obtain ⟨d2, hd2, hs⟩ := good_step (p := (r, c)) (ds := fs) (k := k) (by omega)
      rw [hd'] at hd2
      cases hd2
      refine ⟨_, tk k d', .inl ?_⟩
      have a := asg hd'
      rw [hs] at a
      refine run_seq (run_asg a) (run_if (b := isNo (szT (szAt (r, c) fs (k + 1)))) (et_test (ev_op (ev_var rfl rfl) ev_c is_no)) (fun h => nomatch h) fun _ => run_weak run_next (.same (.same (.same (.same (.drop (.drop .nil)))))))
    · show FP.Run _ _ _ [some (.int r), some (.int c), some (.lst false fs), some (szT (szAt (r, c) fs fs.length)), none, none] _
      generalize szAt (r, c) fs fs.length = q
      obtain ⟨a, b⟩ := q
      have hne : Op2 K (rNee K) (.tup false [.int a, .int b]) (.tup true [.int 1, .int 1]) (.bl !decide ((a, b) = ((1 : Int), (1 : Int)))) := by
        have := ne_data (K := K) (n := 1) (m := 1) (d := .tup false [.int a, .int b]) (e := .tup true [.int 1, .int 1]) (fun d hd => ?_) (fun d hd => ?_) (by decide) (by decide)
        · rwa [eqD_pair] at this
        · simp only [List.mem_cons, List.not_mem_nil, or_false] at hd
          rcases hd with rfl | rfl <;> exact True.intro
        · simp only [List.mem_cons, List.not_mem_nil, or_false] at hd
          rcases hd with rfl | rfl <;> exact True.intro
      refine run_seq_if (et_test (ev_op (x := .tup false [.int a, .int b]) (ev_var rfl rfl) (ev_tup (ea_cons ev_c (ea_cons ev_c ea_nil)) (show 2 ≤ 1000000 by decide)) hne)) (fun h => ?_) (fun h => ?_)
      · rw [if_neg (of_decide_eq_false (by rwa [Bool.not_eq_true'] at h))]
        exact run_seq_rt (run_ret (ev_op (ev_call (ea_cons (ev_var rfl rfl) ea_nil) len_lst) ev_c plus_int))
      · rw [if_pos (of_decide_eq_true (by rwa [Bool.not_eq_false'] at h))]
        exact run_skip (run_ret ev_c)
end
end K02

namespace K02
open PySem PySem.Spec PyProof.Rows L2 FP
abbrev Tri := Str × Int × Str
def tD (t : Tri) : D := .tup false [.str t.1, .int t.2.1, .str t.2.2]
theorem atI_of {α : Type} {xs : List α} {i : Int} {j : Nat} {x : α} (h : xs[j]? = some x) (hi : i = (j : Nat)) : atI xs i = some x := by
  subst hi
  obtain ⟨hlt, hx⟩ := List.getElem?_eq_some_iff.mp h
  have c1 : (0 : Int) ≤ (j : Nat) := by omega
  unfold atI ixN
  first
  | (rw [if_pos c1]; simp [hlt, hx])
  | (simp [hlt, hx])
theorem at2 {α : Type} {a b : α} {i : Int} (h : i = 0 ∨ i = 1) : atI [a, b] i = some (if i = 0 then a else b) := by
  rcases h with rfl | rfl
  · exact atI_of (j := 0) rfl rfl
  · exact atI_of (j := 1) rfl rfl
def ownK (cells : List Int) (n : Int) (k : Nat) : Int := mixed (cells.getD (k % cells.length) 0) (7 + (k : Nat)) + n
def lvlK (p : Int × Int) (own : Int) : Bool := decide (1 < p.1) && (decide (p.2 = 1) || decide (own % 2 = 0))
def sideK (p : Int × Int) (own : Int) : Int := if lvlK p own = true then p.1 else p.2
def manyK (p : Int × Int) (own : Int) : Int := if own / 2 % 3 = 0 then sideK p own / 2 else 1 + own / 6 % (sideK p own / 2)
def edgeK (p : Int × Int) (own : Int) : Str := if lvlK p own = true then (if own / 100 % 2 = 0 then "top" else "bottom") else (if own / 100 % 2 = 0 then "left" else "right")
def wayK (own : Int) : Str := if own / 200 % 2 = 0 then "over" else "under"
def nextK (p : Int × Int) (own : Int) : Int × Int := if lvlK p own = true then (p.1 - manyK p own, p.2) else (p.1, p.2 - manyK p own)
def psK (p : Int × Int) (cells : List Int) (n : Int) : Nat → Int × Int
  | 0 => p
  | k + 1 => nextK (psK p cells n k) (ownK cells n k)
def trK (p : Int × Int) (cells : List Int) (n : Int) (k : Nat) : Tri := (edgeK (psK p cells n k) (ownK cells n k), manyK (psK p cells n k) (ownK cells n k), wayK (ownK cells n k))
def trs (p : Int × Int) (cells : List Int) (n : Int) (N : Nat) : List Tri := (List.range N).map (trK p cells n)
theorem side_ok {p : Int × Int} {own : Int} (h1 : 1 ≤ p.1) (h2 : 1 ≤ p.2) (hne : p ≠ (1, 1)) : 2 ≤ sideK p own := by
  unfold sideK
  cases hl : lvlK p own with
  | true =>
    rw [if_pos rfl]
    have := of_decide_eq_true (Bool.and_eq_true_iff.mp hl).1
    omega
  | false =>
    rw [if_neg (by decide)]
    unfold lvlK at hl
    by_cases hr : 1 < p.1
    · rw [decide_eq_true hr, Bool.true_and] at hl
      have := of_decide_eq_false (Bool.or_eq_false_iff.mp hl).1
      omega
    · have : p.2 ≠ 1 := fun z => hne (Prod.ext (by show p.1 = 1; omega) z)
      omega
theorem many_ok {p : Int × Int} {own : Int} (h1 : 1 ≤ p.1) (h2 : 1 ≤ p.2) (hne : p ≠ (1, 1)) : 1 ≤ manyK p own ∧ 2 * manyK p own ≤ sideK p own := by
  have hs := side_ok (own := own) h1 h2 hne
  unfold manyK
  generalize sideK p own = s at hs
  split
  · omega
  · have hq : 1 ≤ s / 2 := by omega
    have b1 := Int.emod_nonneg (own / 6) (b := s / 2) (by omega)
    have b2 := Int.emod_lt_of_pos (own / 6) (b := s / 2) (by omega)
    omega
theorem next_ok {p : Int × Int} {own : Int} (h1 : 1 ≤ p.1) (h2 : 1 ≤ p.2) (hne : p ≠ (1, 1)) : 1 ≤ (nextK p own).1 ∧ 1 ≤ (nextK p own).2 ∧ (nextK p own).1 ≤ p.1 ∧ (nextK p own).2 ≤ p.2 ∧ (nextK p own).1 + (nextK p own).2 < p.1 + p.2 := by
  obtain ⟨m1, m2⟩ := many_ok (own := own) h1 h2 hne
  unfold nextK
  cases hl : lvlK p own with
  | true =>
    rw [if_pos rfl]
    have : sideK p own = p.1 := by unfold sideK; rw [if_pos hl]
    simp only []
    omega
  | false =>
    rw [if_neg (by decide)]
    have : sideK p own = p.2 := by unfold sideK; rw [if_neg (by rw [hl]; decide)]
    simp only []
    omega
theorem ps_end (p : Int × Int) (cells : List Int) (n : Int) (h1 : 1 ≤ p.1) (h2 : 1 ≤ p.2) : ∃ N : Nat, (N : Int) + 2 ≤ p.1 + p.2 ∧ psK p cells n N = (1, 1) ∧ ∀ k, k < N → psK p cells n k ≠ (1, 1) ∧ 1 ≤ (psK p cells n k).1 ∧ 1 ≤ (psK p cells n k).2 ∧ (psK p cells n k).1 ≤ p.1 ∧ (psK p cells n k).2 ≤ p.2 := by
  have key : ∀ (m k : Nat), (psK p cells n k).1 + (psK p cells n k).2 = (m : Int) → 1 ≤ (psK p cells n k).1 → 1 ≤ (psK p cells n k).2 → (psK p cells n k).1 ≤ p.1 → (psK p cells n k).2 ≤ p.2 →
      ∃ N : Nat, k ≤ N ∧ (N : Int) + 2 ≤ k + m ∧ psK p cells n N = (1, 1) ∧ ∀ j, k ≤ j → j < N → psK p cells n j ≠ (1, 1) ∧ 1 ≤ (psK p cells n j).1 ∧ 1 ≤ (psK p cells n j).2 ∧ (psK p cells n j).1 ≤ p.1 ∧ (psK p cells n j).2 ≤ p.2 := by
    intro m
    induction m using Nat.strongRecOn with
    | _ m ih =>
      intro k hm a1 a2 a3 a4
      by_cases hp : psK p cells n k = (1, 1)
      · exact ⟨k, Nat.le_refl _, by omega, hp, fun j h1 h2 => absurd h2 (by omega)⟩
      · obtain ⟨b1, b2, b3, b4, b5⟩ := next_ok (own := ownK cells n k) a1 a2 hp
        have e : psK p cells n (k + 1) = nextK (psK p cells n k) (ownK cells n k) := rfl
        obtain ⟨N, c1, c2, c3, c4⟩ := ih ((psK p cells n (k + 1)).1 + (psK p cells n (k + 1)).2).toNat (by rw [e]; omega) (k + 1) (by rw [e]; omega) (by rw [e]; exact b1) (by rw [e]; exact b2) (by rw [e]; omega) (by rw [e]; omega)
        refine ⟨N, by omega, ?_, c3, fun j h1 h2 => ?_⟩
        · rw [e] at c2
          omega
        · by_cases hj : j = k
          · rw [hj]
            exact ⟨hp, a1, a2, a3, a4⟩
          · exact c4 j (by omega) h2
  obtain ⟨N, _, c2, c3, c4⟩ := key (p.1 + p.2).toNat 0 (by show p.1 + p.2 = _; omega) h1 h2 (Int.le_refl _) (Int.le_refl _)
  exact ⟨N, by omega, c3, fun k hk => c4 k (Nat.zero_le _) hk⟩
def R__law_folds : List D → D → Prop := fun ds z => ∃ (r c : Int) (cells : List Int) (n : Int) (N : Nat), ds = [.int r, .int c, .lst false (cells.map D.int), .int n] ∧ 1 ≤ r ∧ r ≤ 8 ∧ 1 ≤ c ∧ c ≤ 8 ∧ cells ≠ [] ∧ 0 ≤ n ∧ (N : Int) + 2 ≤ r + c ∧ psK (r, c) cells n N = (1, 1) ∧ (∀ k, k < N → psK (r, c) cells n k ≠ (1, 1) ∧ 1 ≤ (psK (r, c) cells n k).1 ∧ 1 ≤ (psK (r, c) cells n k).2 ∧ (psK (r, c) cells n k).1 ≤ r ∧ (psK (r, c) cells n k).2 ≤ c) ∧
  z = .lst true ((trs (r, c) cells n N).map tD)
theorem len__law_folds : ∀ ds z, R__law_folds ds z → ds.length = 4 := by
  rintro _ _ ⟨_, _, _, _, _, rfl, _⟩
  rfl
section
variable {P : Program} {w : World} {K : PySem.W.Frag} {mg : Str → Option Value} {base : Heap}
set_option maxHeartbeats 4000000 in
theorem ok__law_folds (T : Txt K mg) : FnOk P w K mg base CX0 2 T.f__law_folds T.fd__law_folds ["_law_rows", "_law_columns", "_law_cells", "_law_number"] (spF K R__law_folds) := by
  refine ok_of (N := ["_law_rows", "_law_columns", "_law_cells", "_law_number", "_law_folds_here", "_law_own", "_law_is_level", "_law_side", "_law_many", "_law_edge"]) T.F__law_folds sc__law_folds len__law_folds fun cdv A outer s H E hr => ⟨_, (pss_cons (ps_set (i := 4) sc__law_folds.nd rfl (by first | exact Or.inl rfl | exact Or.inr rfl) (pe_lst pa_nil))
      (pss_cons (ps_while PassesOwn.never (pt_cmpR (op_neeK (K := K) rfl hr.units) (pe_tup (pa_cons (pv 0) (pa_cons (pv 1) pa_nil))) (pe_tup (pa_cons pe_int (pa_cons pe_int pa_nil))) (nomark _))
      (pss_cons (ps_set (i := 5) sc__law_folds.nd rfl (by first | exact Or.inl rfl | exact Or.inr rfl) (pe_op (op_plusK (K := K) rfl) (pe_call (ok__law_mixed T) (hr.mono (by decide)) (by rfl) T.g__law_mixed T.F__law_mixed.kp T.b__law_mixed .nil pass0 (pa_cons (pe_ix (ix_seqK (K := K) rfl) (pv 2) (pe_op op_md (pe_callB (call_lennK (K := K) rfl) (by rfl) T.z_len (by decide +kernel) (pa_cons (pv 4) pa_nil)) (pe_callB (call_lennK (K := K) rfl) (by rfl) T.z_len (by decide +kernel) (pa_cons (pv 2) pa_nil))) (fun _ _ => rfl)) (pa_cons (pe_op (op_plusK (K := K) rfl) pe_int (pe_callB (call_lennK (K := K) rfl) (by rfl) T.z_len (by decide +kernel) (pa_cons (pv 4) pa_nil))) pa_nil))) (pv 3)))
      (pss_cons (ps_set (i := 6) sc__law_folds.nd rfl (by first | exact Or.inl rfl | exact Or.inr rfl) (pe_andTK (K := K) rfl (pe_cmpR op_gtt (pv 0) pe_int (nomark _)) (pe_one (pe_orTK (K := K) rfl (pe_cmpR (op_eqqK (K := K) rfl hr.units) (pv 1) pe_int (nomark _)) (pe_one (pe_cmpR (op_eqqK (K := K) rfl hr.units) (pe_op op_md (pv 5) pe_int) pe_int (nomark _)))))))
      (pss_cons (ps_set (i := 7) sc__law_folds.nd rfl (by first | exact Or.inl rfl | exact Or.inr rfl) (pe_ifExp (pt_truthK (K := K) rfl (pv 6) (by intro _; rfl)) (pv 0) (pv 1)))
      (pss_cons (ps_set (i := 8) sc__law_folds.nd rfl (by first | exact Or.inl rfl | exact Or.inr rfl) (pe_ifExp (pt_cmpR (op_eqqK (K := K) rfl hr.units) (pe_op op_md (pe_op op_fd (pv 5) pe_int) pe_int) pe_int (nomark _)) (pe_op op_fd (pv 7) pe_int) (pe_op (op_plusK (K := K) rfl) pe_int (pe_op op_md (pe_op op_fd (pv 5) pe_int) (pe_op op_fd (pv 7) pe_int)))))
      (pss_cons (ps_set (i := 9) sc__law_folds.nd rfl (by first | exact Or.inl rfl | exact Or.inr rfl) (pe_ix (ix_seqK (K := K) rfl) (pe_ix (ix_seqK (K := K) rfl) (pe_lst (pa_cons (pe_lst (pa_cons pe_str (pa_cons pe_str pa_nil))) (pa_cons (pe_lst (pa_cons pe_str (pa_cons pe_str pa_nil))) pa_nil))) (pe_callTy call_intt (by rfl) T.z_int (by decide +kernel) (pa_cons (pv 6) pa_nil)) (fun _ _ => rfl)) (pe_op op_md (pe_op op_fd (pv 5) pe_int) pe_int) (fun _ _ => rfl)))
      (pss_cons (ps_expr (pe_bmK (K := K) rfl PySem.F.plainAttrs_list PySem.F.slot_list_append PySem.F.type_list_append mt_append (pv 4) (pa_cons (pe_tup (pa_cons (pv 9) (pa_cons (pv 8) (pa_cons (pe_ix (ix_seqK (K := K) rfl) (pe_lst (pa_cons pe_str (pa_cons pe_str pa_nil))) (pe_op op_md (pe_op op_fd (pv 5) pe_int) pe_int) (fun _ _ => rfl)) pa_nil)))) pa_nil)))
      (pss_one (ps_if (pt_truthK (K := K) rfl (pv 6) (by intro _; rfl))
      (pss_one (ps_set (i := 0) sc__law_folds.nd rfl (by first | exact Or.inl rfl | exact Or.inr rfl) (pe_op op_sb (pv 0) (pv 8)))) (pss_one (ps_set (i := 1) sc__law_folds.nd rfl (by first | exact Or.inl rfl | exact Or.inr rfl) (pe_op op_sb (pv 1) (pv 8)))))))))))))
      (pss_one (ps_ret (pv 4))))), ?_⟩
  (try simp only [cxK])
  rintro _ _ ⟨r, c, cells, n, N, rfl, r1, r8, c1, c8, hne, n0, hN, hend, hk, rfl⟩
  refine ⟨.rt (.lst true ((trs (r, c) cells n N).map tD)), ?_, rfl⟩
  refine run_seq (run_asg (d := .lst true []) (ev_lst ea_nil (by decide))) ?_
  let Re : Nat → FP.Env := fun k => [some (.int (psK (r, c) cells n k).1), some (.int (psK (r, c) cells n k).2), some (.lst false (cells.map D.int)), some (.int n), some (.lst true ((trs (r, c) cells n k).map tD)), none, none, none, none, none]
  have hlen : ∀ k, ((trs (r, c) cells n k).map tD).length = k := fun k => by simp [trs]
  refine run_seq (run_while (ρ := Re 0) N Re (Weak.refl _) (fun k hkN => ?_) (fun k hkN => ?_)) (run_ret_own rfl)
  · have hne2 : ∀ a b : Int, Op2 K (rNee K) (.tup true [.int a, .int b]) (.tup true [.int 1, .int 1]) (.bl !decide ((a, b) = ((1 : Int), (1 : Int)))) := fun a b => by
      have := ne_data (K := K) (n := 1) (m := 1) (d := .tup true [.int a, .int b]) (e := .tup true [.int 1, .int 1]) (fun d hd => ?_) (fun d hd => ?_) (by decide) (by decide)
      · rwa [eqD_pair] at this
      · simp only [List.mem_cons, List.not_mem_nil, or_false] at hd
        rcases hd with rfl | rfl <;> exact True.intro
      · simp only [List.mem_cons, List.not_mem_nil, or_false] at hd
        rcases hd with rfl | rfl <;> exact True.intro
    have hd : (!decide (((psK (r, c) cells n k).1, (psK (r, c) cells n k).2) = ((1 : Int), (1 : Int)))) = decide (k < N) := by
      by_cases h : k < N
      · rw [decide_eq_true h, decide_eq_false (hk k h).1]
        rfl
      · have : k = N := by omega
        subst this
        rw [decide_eq_false h, decide_eq_true hend]
        rfl
    rw [← hd]
    exact et_test (ev_op (ev_tup (ea_cons (ev_var rfl rfl) (ea_cons (ev_var rfl rfl) ea_nil)) (show 2 ≤ 1000000 by decide)) (ev_tup (ea_cons ev_c (ea_cons ev_c ea_nil)) (show 2 ≤ 1000000 by decide)) (hne2 _ _))
  · obtain ⟨pne, p1, p2, p3, p4⟩ := hk k hkN
    obtain ⟨m1, m2⟩ := many_ok (own := ownK cells n k) p1 p2 pne
    have s2 := side_ok (own := ownK cells n k) p1 p2 pne
    have hcl : 0 < cells.length := List.length_pos_iff.mpr hne
    have hK : (N : Int) ≤ 14 := by omega
    have m0 := mixed_nn (cells.getD (k % cells.length) 0) (7 + (k : Nat))
    have hown : 0 ≤ ownK cells n k := by unfold ownK; omega
    have hsn : (trs (r, c) cells n (k + 1)).map tD = (trs (r, c) cells n k).map tD ++ [tD (trK (r, c) cells n k)] := by simp [trs, List.range_succ]
    have hs8 : sideK (psK (r, c) cells n k) (ownK cells n k) ≤ 8 := by unfold sideK; split <;> omega
    have e1 : psK (r, c) cells n (k + 1) = nextK (psK (r, c) cells n k) (ownK cells n k) := rfl
    have etr : trK (r, c) cells n k = (edgeK (psK (r, c) cells n k) (ownK cells n k), manyK (psK (r, c) cells n k) (ownK cells n k), wayK (ownK cells n k)) := rfl
    have hmo : ownK cells n k = mixed (cells.getD (k % cells.length) 0) (7 + (k : Nat)) + n := rfl
    have hat : atI (cells.map D.int) ((k : Int) % (cells.length : Int)) = some (.int (cells.getD (k % cells.length) 0)) := by
      have hj : k % cells.length < cells.length := Nat.mod_lt _ hcl
      refine atI_of (j := k % cells.length) ?_ (by omega)
      rw [List.getElem?_map, List.getD_eq_getElem?_getD, List.getElem?_eq_getElem hj]
      rfl
    show FP.Run _ _ _ [some (.int (psK (r, c) cells n k).1), some (.int (psK (r, c) cells n k).2), some (.lst false (cells.map D.int)), some (.int n), some (.lst true ((trs (r, c) cells n k).map tD)), none, none, none, none, none] (.nx [some (.int (psK (r, c) cells n (k + 1)).1), some (.int (psK (r, c) cells n (k + 1)).2), some (.lst false (cells.map D.int)), some (.int n), some (.lst true ((trs (r, c) cells n (k + 1)).map tD)), none, none, none, none, none])
    rw [hsn, e1, etr]
    have hlk := hlen k
    generalize hL : (trs (r, c) cells n k).map tD = L at hlk
    generalize psK (r, c) cells n k = p at *
    refine run_seq (run_asg (d := .int (ownK cells n k)) (ev_of ?_ rfl)) ?_
    · rw [hmo]
      refine ev_op (ev_fn (ds := [.int (cells.getD (k % cells.length) 0), .int (7 + (k : Nat))]) (ea_cons (ev_op (x := .lst false (cells.map D.int)) (y := .int ((k : Int) % (cells.length : Int))) (ev_var ?_ rfl) (ev_op (x := .int (k : Nat)) (y := .int (cells.length : Nat)) ?_ ?_ (md_int (by omega))) (ix_lst hat)) (ea_cons (ev_op (y := .int (k : Nat)) ev_c ?_ plus_int) ea_nil)) ⟨_, _, rfl, by omega, by omega, rfl⟩) (ev_var rfl rfl) plus_int
      · show some (some (D.frz (.lst false (cells.map D.int)))) = _
        rw [D.frz, D.frzs_ints]
      · have := ev_call (K := K) (ρ := frzE [some (.int p.1), some (.int p.2), some (.lst false (cells.map D.int)), some (.int n), some (.lst true L), none, none, none, none, none]) (ea_cons (ev_var (i := 4) (d := .lst false (D.frzs L)) (by show some (some (D.frz (.lst true L))) = _; rw [D.frz]) rfl) ea_nil) len_lst
        rw [D.frzs_map, List.length_map, hlk] at this
        exact this
      · have := ev_call (K := K) (ρ := frzE [some (.int p.1), some (.int p.2), some (.lst false (cells.map D.int)), some (.int n), some (.lst true L), none, none, none, none, none]) (ea_cons (ev_var (i := 2) (d := .lst false (cells.map D.int)) (by show some (some (D.frz (.lst false (cells.map D.int)))) = _; rw [D.frz, D.frzs_ints]) rfl) ea_nil) len_lst
        rw [List.length_map] at this
        exact this
      · have := ev_call (K := K) (ρ := frzE [some (.int p.1), some (.int p.2), some (.lst false (cells.map D.int)), some (.int n), some (.lst true L), none, none, none, none, none]) (ea_cons (ev_var (i := 4) (d := .lst false (D.frzs L)) (by show some (some (D.frz (.lst true L))) = _; rw [D.frz]) rfl) ea_nil) len_lst
        rw [D.frzs_map, List.length_map, hlk] at this
        exact this
    generalize ownK cells n k = own at *
    refine run_seq (run_asg (d := .bl (lvlK p own)) (ev_andT (d := .bl (decide (1 < p.1))) (ev_op (ev_var rfl rfl) ev_c gt_int') True.intro (fun h => ?_) (fun h => ?_))) ?_
    · unfold lvlK
      rw [show decide (1 < p.1) = true from h, Bool.true_and]
      refine ev_orT (d := .bl (decide (p.2 = 1))) (ev_op (ev_var rfl rfl) ev_c eq_int') True.intro (fun h => ?_) (fun h => ?_)
      · rw [show decide (p.2 = 1) = false from h, Bool.false_or]
        exact ev_op (ev_op (ev_var rfl rfl) ev_c (md_int (by decide))) ev_c eq_int'
      · rw [show decide (p.2 = 1) = true from h]
        rfl
    · unfold lvlK
      rw [show decide (1 < p.1) = false from h]
      rfl
    refine run_seq (run_asg (d := .int (sideK p own)) (ev_if (b := lvlK p own) (et_bl (ev_var rfl rfl)) (fun h => ?_) (fun h => ?_))) ?_
    · unfold sideK
      rw [if_pos h]
      exact ev_var rfl rfl
    · unfold sideK
      rw [if_neg (by rw [h]; decide)]
      exact ev_var rfl rfl
    refine run_seq (run_asg (d := .int (manyK p own)) (ev_if (b := decide (own / 2 % 3 = 0)) (et_test (ev_op (ev_op (ev_op (ev_var rfl rfl) ev_c (fd_int ⟨by decide, by decide⟩)) ev_c (md_int (by decide))) ev_c eq_int')) (fun h => ?_) (fun h => ?_))) ?_
    · unfold manyK
      rw [if_pos (of_decide_eq_true h)]
      exact ev_op (ev_var rfl rfl) ev_c (fd_int ⟨by decide, by decide⟩)
    · unfold manyK
      rw [if_neg (of_decide_eq_false h)]
      exact ev_op ev_c (ev_op (ev_op (ev_var rfl rfl) ev_c (fd_int ⟨by decide, by decide⟩)) (ev_op (ev_var rfl rfl) ev_c (fd_int ⟨by decide, by decide⟩)) (md_int (by omega))) plus_int
    have h100 : own / 100 % 2 = 0 ∨ own / 100 % 2 = 1 := by omega
    have h200 : own / 200 % 2 = 0 ∨ own / 200 % 2 = 1 := by omega
    refine run_seq (run_asg (d := .str (edgeK p own)) ?_) ?_
    · refine ev_op (y := .int (own / 100 % 2)) (ev_op (y := .int (if lvlK p own = true then 1 else 0)) (ev_lst (ea_cons (ev_lst (ea_cons ev_c (ea_cons ev_c ea_nil)) (show 2 ≤ 1000000 by decide)) (ea_cons (ev_lst (ea_cons ev_c (ea_cons ev_c ea_nil)) (show 2 ≤ 1000000 by decide)) ea_nil)) (show 2 ≤ 1000000 by decide)) (ev_call (ea_cons (ev_var rfl rfl) ea_nil) int_bl) (ix_lst (at2 (by split <;> simp)))) (ev_op (ev_op (ev_var rfl rfl) ev_c (fd_int ⟨by decide, by decide⟩)) ev_c (md_int (by decide))) ?_
      unfold edgeK
      cases hl : lvlK p own with
      | true =>
        show Op2 K (rIx K) (.lst true [.str "top", .str "bottom"]) (.int (own / 100 % 2)) (.str (if own / 100 % 2 = 0 then "top" else "bottom"))
        have := ix_lst (K := K) (o := true) (at2 (a := D.str "top") (b := D.str "bottom") h100)
        rw [show (if own / 100 % 2 = 0 then D.str "top" else D.str "bottom") = D.str (if own / 100 % 2 = 0 then "top" else "bottom") by split <;> rfl] at this
        exact this
      | false =>
        show Op2 K (rIx K) (.lst true [.str "left", .str "right"]) (.int (own / 100 % 2)) (.str (if own / 100 % 2 = 0 then "left" else "right"))
        have := ix_lst (K := K) (o := true) (at2 (a := D.str "left") (b := D.str "right") h100)
        rw [show (if own / 100 % 2 = 0 then D.str "left" else D.str "right") = D.str (if own / 100 % 2 = 0 then "left" else "right") by split <;> rfl] at this
        exact this
    refine run_seq (run_append (d := tD (edgeK p own, manyK p own, wayK own)) rfl (ev_frz (d := .tup true [.str (edgeK p own), .int (manyK p own), .str (wayK own)]) (ev_tup (ea_cons (ev_var rfl rfl) (ea_cons (ev_var rfl rfl) (ea_cons ?_ ea_nil))) (show 3 ≤ 1000000 by decide))) (by rw [hlk]; exact Nat.lt_of_le_of_lt (show k ≤ 100 by omega) (by decide))) ?_
    · refine ev_op (ev_lst (ea_cons ev_c (ea_cons ev_c ea_nil)) (show 2 ≤ 1000000 by decide)) (ev_op (ev_op (ev_var rfl rfl) ev_c (fd_int ⟨by decide, by decide⟩)) ev_c (md_int (by decide))) ?_
      have := ix_lst (K := K) (o := true) (at2 (a := D.str "over") (b := D.str "under") h200)
      unfold wayK
      rw [show (if own / 200 % 2 = 0 then D.str "over" else D.str "under") = D.str (if own / 200 % 2 = 0 then "over" else "under") by split <;> rfl] at this
      exact this
    refine run_if (b := lvlK p own) (et_bl (ev_var rfl rfl)) (fun h => ?_) (fun h => ?_)
    · unfold nextK
      rw [if_pos h]
      exact run_weak (run_asg (ev_op (ev_var rfl rfl) (ev_var rfl rfl) sub_int')) (.same (.same (.same (.same (.same (.drop (.drop (.drop (.drop (.drop .nil))))))))))
    · unfold nextK
      rw [if_neg (by rw [h]; decide)]
      exact run_weak (run_asg (ev_op (ev_var rfl rfl) (ev_var rfl rfl) sub_int')) (.same (.same (.same (.same (.same (.drop (.drop (.drop (.drop (.drop .nil))))))))))
end
end K02

namespace K02
open PySem PySem.Spec PyProof.Rows L2 FP
def badL (r c : Int) : List D := [.tup false [.str "left", .int (c / 2 + 1), .str "over"], .tup false [.str "right", .int (c / 2 + 1), .str "under"], .tup false [.str "top", .int (r / 2 + 1), .str "over"],
  .tup false [.str "bottom", .int (r / 2 + 1), .str "under"], .tup false [.str "left", .int 0, .str "over"], .tup false [.str "top", .int (-1), .str "under"], .tup false [.str "up", .int 1, .str "over"],
  .tup false [.str "left", .int 1, .str "beneath"], .tup false [.str "left", .int 1], .lst false [.str "left", .int 1, .str "over"], .tup false [.str "left", .bl true, .str "over"], .non,
  .tup false [.str "top", .str "1", .str "over"], .tup false [.lst false [.str "left"], .int 1, .str "over"], .tup false [.str "top", .int ((10 : Int) ^ (30 : Int).toNat), .str "under"]]
def R__law_bad_fold : List D → D → Prop := fun ds z => ∃ (n r c : Int) (j : Nat), ds = [.int n, .int r, .int c] ∧ n % 15 = (j : Nat) ∧ (badL r c)[j]? = some z
theorem len__law_bad_fold : ∀ ds z, R__law_bad_fold ds z → ds.length = 3 := by
  rintro _ _ ⟨_, _, _, _, rfl, _⟩
  rfl
section
variable {P : Program} {w : World} {K : PySem.W.Frag} {mg : Str → Option Value} {base : Heap}
set_option maxHeartbeats 4000000 in
theorem ok__law_bad_fold (T : Txt K mg) : FnOk P w K mg base CX0 1 T.f__law_bad_fold T.fd__law_bad_fold ["_law_number", "_law_rows", "_law_columns"] (spF K R__law_bad_fold) := by
  refine ok_of (N := ["_law_number", "_law_rows", "_law_columns", "_law_some"]) T.F__law_bad_fold sc__law_bad_fold len__law_bad_fold fun cdv A outer s H E hr => ⟨_, (pss_cons (ps_set (i := 3) sc__law_bad_fold.nd rfl (by first | exact Or.inl rfl | exact Or.inr rfl) (pe_lst (pa_cons (pe_tup (pa_cons pe_str (pa_cons (pe_op (op_plusK (K := K) rfl) (pe_op op_fd (pv 2) pe_int) pe_int) (pa_cons pe_str pa_nil)))) (pa_cons (pe_tup (pa_cons pe_str (pa_cons (pe_op (op_plusK (K := K) rfl) (pe_op op_fd (pv 2) pe_int) pe_int) (pa_cons pe_str pa_nil)))) (pa_cons (pe_tup (pa_cons pe_str (pa_cons (pe_op (op_plusK (K := K) rfl) (pe_op op_fd (pv 1) pe_int) pe_int) (pa_cons pe_str pa_nil)))) pa_nil)))))
      (pss_cons (ps_set (i := 3) sc__law_bad_fold.nd rfl (by first | exact Or.inl rfl | exact Or.inr rfl) (pe_op (op_plusK (K := K) rfl) (pv 3) (pe_lst (pa_cons (pe_tup (pa_cons pe_str (pa_cons (pe_op (op_plusK (K := K) rfl) (pe_op op_fd (pv 1) pe_int) pe_int) (pa_cons pe_str pa_nil)))) (pa_cons (pe_tup (pa_cons pe_str (pa_cons pe_int (pa_cons pe_str pa_nil)))) (pa_cons (pe_tup (pa_cons pe_str (pa_cons (pe_un un_ng pe_int) (pa_cons pe_str pa_nil)))) (pa_cons (pe_tup (pa_cons pe_str (pa_cons pe_int (pa_cons pe_str pa_nil)))) pa_nil)))))))
      (pss_cons (ps_set (i := 3) sc__law_bad_fold.nd rfl (by first | exact Or.inl rfl | exact Or.inr rfl) (pe_op (op_plusK (K := K) rfl) (pv 3) (pe_lst (pa_cons (pe_tup (pa_cons pe_str (pa_cons pe_int (pa_cons pe_str pa_nil)))) (pa_cons (pe_tup (pa_cons pe_str (pa_cons pe_int pa_nil))) (pa_cons (pe_lst (pa_cons pe_str (pa_cons pe_int (pa_cons pe_str pa_nil)))) (pa_cons (pe_tup (pa_cons pe_str (pa_cons pe_bl (pa_cons pe_str pa_nil)))) (pa_cons pe_non pa_nil))))))))
      (pss_one (ps_ret (pe_ix (ix_seqK (K := K) rfl) (pe_op (op_plusK (K := K) rfl) (pv 3) (pe_lst (pa_cons (pe_tup (pa_cons pe_str (pa_cons pe_str (pa_cons pe_str pa_nil)))) (pa_cons (pe_tup (pa_cons (pe_lst (pa_cons pe_str pa_nil)) (pa_cons pe_int (pa_cons pe_str pa_nil)))) (pa_cons (pe_tup (pa_cons pe_str (pa_cons (pe_op op_pw pe_int pe_int) (pa_cons pe_str pa_nil)))) pa_nil))))) (pe_op op_md (pv 0) pe_int) (fun _ _ => rfl))))))), ?_⟩
  (try simp only [cxK])
  rintro _ z ⟨n, r, c, j, rfl, hj, hz⟩
  refine ⟨.rt z, ?_, rfl⟩
  have two : (2 : Nat) ≤ 1000000 := by decide
  have one : (1 : Nat) ≤ 1000000 := by decide
  have thr : (3 : Nat) ≤ 1000000 := by decide
  have half : ∀ {i : Nat} {x : Int} {ρ : FP.Env}, ρ[i]? = some (some (.int x)) → EvS K (tOp (rPlus K) (tOp rFd (tVar i) (tC (.int 2))) (tC (.int 1))) ρ (.int (x / 2 + 1)) := fun h => ev_op (ev_op (ev_var h rfl) ev_c (fd_int ⟨by decide, by decide⟩)) ev_c plus_int
  have t3 : ∀ {a b c : TE} {x y w : D} {ρ : FP.Env}, EvS K a ρ x → EvS K b ρ y → EvS K c ρ w → EvS K (tTup (tCons a (tCons b (tCons c tNil)))) ρ (.tup true [x, y, w]) := fun h1 h2 h3 => ev_tup (ea_cons h1 (ea_cons h2 (ea_cons h3 ea_nil))) thr
  refine run_seq (run_asg (d := .lst false ((badL r c).take 3)) (ev_frz (d := .lst true [.tup true [.str "left", .int (c / 2 + 1), .str "over"], .tup true [.str "right", .int (c / 2 + 1), .str "under"], .tup true [.str "top", .int (r / 2 + 1), .str "over"]])
    (ev_lst (ea_cons (t3 ev_c (half rfl) ev_c) (ea_cons (t3 ev_c (half rfl) ev_c) (ea_cons (t3 ev_c (half rfl) ev_c) ea_nil))) thr))) ?_
  refine run_seq (run_asg (d := .lst false ((badL r c).take 7)) (ev_frz (d := .lst true (((badL r c).take 3) ++ [.tup true [.str "bottom", .int (r / 2 + 1), .str "under"], .tup true [.str "left", .int 0, .str "over"], .tup true [.str "top", .int (-1), .str "under"], .tup true [.str "up", .int 1, .str "over"]]))
    (ev_op (ev_var rfl rfl) (ev_lst (ea_cons (t3 ev_c (half rfl) ev_c) (ea_cons (t3 ev_c ev_c ev_c) (ea_cons (t3 ev_c (ev_un ev_c ng_int) ev_c) (ea_cons (t3 ev_c ev_c ev_c) ea_nil)))) (show 4 ≤ 1000000 by decide)) (plus_lst (by show 7 ≤ sizeLine; decide))))) ?_
  refine run_seq (run_asg (d := .lst false ((badL r c).take 12)) (ev_frz (d := .lst true (((badL r c).take 7) ++ [.tup true [.str "left", .int 1, .str "beneath"], .tup true [.str "left", .int 1], .lst true [.str "left", .int 1, .str "over"], .tup true [.str "left", .bl true, .str "over"], .non]))
    (ev_op (ev_var rfl rfl) (ev_lst (ea_cons (t3 ev_c ev_c ev_c) (ea_cons (ev_tup (ea_cons ev_c (ea_cons ev_c ea_nil)) two) (ea_cons (ev_lst (ea_cons ev_c (ea_cons ev_c (ea_cons ev_c ea_nil))) thr) (ea_cons (t3 ev_c ev_c ev_c) (ea_cons ev_c ea_nil))))) (show 5 ≤ 1000000 by decide)) (plus_lst (by show 12 ≤ sizeLine; decide))))) ?_
  refine run_ret (ev_op (x := .lst false (badL r c)) (y := .int (n % 15)) (ev_frz (d := .lst true (((badL r c).take 12) ++ [.tup true [.str "top", .str "1", .str "over"], .tup true [.lst true [.str "left"], .int 1, .str "over"], .tup true [.str "top", .int ((10 : Int) ^ (30 : Int).toNat), .str "under"]]))
    (ev_op (ev_var rfl rfl) (ev_lst (ea_cons (t3 ev_c ev_c ev_c) (ea_cons (t3 (ev_lst (ea_cons ev_c ea_nil) one) ev_c ev_c) (ea_cons (t3 ev_c (ev_op ev_c ev_c (pw_int ⟨by decide, by decide, by decide⟩)) ev_c) ea_nil))) thr) (plus_lst (by show 15 ≤ sizeLine; decide)))) (ev_op (ev_var rfl rfl) ev_c (md_int (by decide))) (ix_lst (atI_of hz hj)))
end
end K02

namespace K02
open PySem PySem.Spec PyProof.Rows L2 FP
def leftP (p : Int × Int) (t : Tri) : Int × Int := if t.1 ∈ (["left", "right"] : List Str) then (p.1, p.2 - t.2.1) else (p.1 - t.2.1, p.2)
def R__law_left : List D → D → Prop := fun ds z => ∃ (r c : Int) (ts : List Tri), ds = [.int r, .int c, .lst false (ts.map tD)] ∧ z = .tup true [.int (ts.foldl leftP (r, c)).1, .int (ts.foldl leftP (r, c)).2]
theorem len__law_left : ∀ ds z, R__law_left ds z → ds.length = 3 := by
  unfold R__law_left
  first
  | exact fun _ _ h => h.elim
  | (rintro ds z ⟨_, rfl, _⟩; rfl)
  | (rintro ds z ⟨_, _, rfl, _⟩; rfl)
  | (rintro ds z ⟨_, _, _, rfl, _⟩; rfl)
  | (rintro ds z ⟨_, _, _, _, rfl, _⟩; rfl)
section
variable {P : Program} {w : World} {K : PySem.W.Frag} {mg : Str → Option Value} {base : Heap}
set_option maxHeartbeats 4000000 in
theorem ok__law_left (T : Txt K mg) : FnOk P w K mg base CX0 1 T.f__law_left T.fd__law_left ["_law_rows", "_law_columns", "_law_folds_here"] (spF K R__law_left) := by
  refine ok_of (N := ["_law_rows", "_law_columns", "_law_folds_here", "_law_edge", "_law_many", "_law_way"]) T.F__law_left sc__law_left len__law_left fun cdv A outer s H E hr => ⟨_, (pss_cons (ps_for PassesOwn.never rfl (pi_listK (K := K) rfl (pv 2)) (pg_tupK (K := K) (n := 3) rfl rfl (pgs_cons (pg_name (i := 3) sc__law_left.nd rfl (by first | exact Or.inl rfl | exact Or.inr rfl)) (pgs_cons (pg_name (i := 4) sc__law_left.nd rfl (by first | exact Or.inl rfl | exact Or.inr rfl)) (pgs_cons (pg_name (i := 5) sc__law_left.nd rfl (by first | exact Or.inl rfl | exact Or.inr rfl)) pgs_nil))))
      (pss_one (ps_if (pt_cmpR (op_innK (K := K) rfl) (pv 3) (pe_tup (pa_cons pe_str (pa_cons pe_str pa_nil))) (by with_unfolding_all rfl))
      (pss_one (ps_set (i := 1) sc__law_left.nd rfl (by first | exact Or.inl rfl | exact Or.inr rfl) (pe_op op_sb (pv 1) (pv 4)))) (pss_one (ps_set (i := 0) sc__law_left.nd rfl (by first | exact Or.inl rfl | exact Or.inr rfl) (pe_op op_sb (pv 0) (pv 4)))))))
      (pss_one (ps_ret (pe_tup (pa_cons (pv 0) (pa_cons (pv 1) pa_nil)))))), ?_⟩
  (try simp only [cxK])
  rintro _ _ ⟨r, c, ts, rfl, rfl⟩
  refine ⟨.rt (.tup true [.int (ts.foldl leftP (r, c)).1, .int (ts.foldl leftP (r, c)).2]), ?_, rfl⟩
  let q : Nat → Int × Int := fun k => (ts.take k).foldl leftP (r, c)
  let Re : Nat → FP.Env := fun k => [some (.int (q k).1), some (.int (q k).2), some (.lst false (ts.map tD)), none, none, none]
  have hl : q ts.length = ts.foldl leftP (r, c) := by show (ts.take ts.length).foldl leftP (r, c) = _; rw [List.take_length]
  refine run_seq (run_forA (inj := tD) (xs := ts) (ρ := Re 0) (walks_list (ev_var rfl rfl)) Re (Weak.refl _) rfl fun k t ht => ?_) ?_
  · have e1 : q (k + 1) = leftP (q k) t := by
      show (ts.take (k + 1)).foldl leftP (r, c) = _
      rw [List.take_add_one, ht, List.foldl_append]
      rfl
    show ∃ ρ1, FP.Takes _ _ _ _ [some (.int (q k).1), some (.int (q k).2), some (.lst false (ts.map tD)), none, none, none] ρ1 ∧ (FP.Run _ _ _ ρ1 (.nx [some (.int (q (k + 1)).1), some (.int (q (k + 1)).2), some (.lst false (ts.map tD)), none, none, none]) ∨ FP.Run _ _ _ ρ1 (.ct [some (.int (q (k + 1)).1), some (.int (q (k + 1)).2), some (.lst false (ts.map tD)), none, none, none]))
    rw [e1]
    generalize q k = p
    obtain ⟨e, m, w⟩ := t
    refine ⟨_, takes_tup rfl (takes_cons (takes_name fun _ h => nomatch h) (takes_cons (takes_name fun _ h => nomatch h) (takes_cons (takes_name fun _ h => nomatch h) takes_nil))), .inl (run_if (b := decide (e ∈ (["left", "right"] : List Str))) (et_test (ev_op (x := .str e) (y := .tup true ((["left", "right"] : List Str).map D.str)) (ev_var rfl rfl) (ev_tup (ea_cons ev_c (ea_cons ev_c ea_nil)) (show 2 ≤ 1000000 by decide)) ?_)) (fun h => ?_) (fun h => ?_))⟩
    · have h2 := in_tp (K := K) (o := true) (x := .str e) (xs := (["left", "right"] : List Str).map V.str) rfl (flat_strs _)
      rw [inV_strs, List.map_map] at h2
      exact h2
    · unfold leftP
      rw [if_pos (of_decide_eq_true h)]
      exact run_weak (run_asg (ev_op (ev_var rfl rfl) (ev_var rfl rfl) sub_int')) (.same (.same (.same (.drop (.drop (.drop .nil))))))
    · unfold leftP
      rw [if_neg (of_decide_eq_false h)]
      exact run_weak (run_asg (ev_op (ev_var rfl rfl) (ev_var rfl rfl) sub_int')) (.same (.same (.same (.drop (.drop (.drop .nil))))))
  · rw [← hl]
    exact run_ret (ev_tup (ea_cons (ev_var rfl rfl) (ea_cons (ev_var rfl rfl) ea_nil)) (show 2 ≤ 1000000 by decide))
end
end K02

namespace K02
open PySem PySem.Spec PyProof.Rows L2 FP
def among (d : D) (l m : Int) : Bool := match d with
  | .sc (.int i) => decide (l ≤ i) && decide (i ≤ m)
  | _ => false
def R_is_among : List D → D → Prop := fun ds z => ∃ d l m, ds = [d, .int l, .int m] ∧ d.frz = d ∧ tyN d ≠ "" ∧ z = .bl (among d l m)
theorem len_is_among : ∀ ds z, R_is_among ds z → ds.length = 3 := by
  unfold R_is_among
  first
  | exact fun _ _ h => h.elim
  | (rintro ds z ⟨_, rfl, _⟩; rfl)
  | (rintro ds z ⟨_, _, rfl, _⟩; rfl)
  | (rintro ds z ⟨_, _, _, rfl, _⟩; rfl)
  | (rintro ds z ⟨_, _, _, _, rfl, _⟩; rfl)
section
variable {P : Program} {w : World} {K : PySem.W.Frag} {mg : Str → Option Value} {base : Heap}
set_option maxHeartbeats 4000000 in
theorem ok_is_among (T : Txt K mg) : FnOk P w K mg base CX0 2 T.f_is_among T.fd_is_among ["thing", "least", "most"] (spF K R_is_among) := by
  refine ok_of (N := ["thing", "least", "most"]) T.F_is_among sc_is_among len_is_among fun cdv A outer s H E hr => ⟨_, (pss_one (ps_ret (pe_andTK (K := K) rfl (pe_call (ok_is_whole T) (hr.mono (by decide)) (by rfl) T.g_is_whole T.F_is_whole.kp T.b_is_whole .nil pass0 (pa_cons (pv 0) pa_nil)) (pe_one (pe_chain op_lee op_lee (pv 1) (pv 0) (pv 2)))))), ?_⟩
  (try simp only [cxK])
  rintro _ _ ⟨d, l, m, rfl, hd, hn, rfl⟩
  refine ⟨.rt _, run_ret ?_, rfl⟩
  refine ev_andT (d := .bl (isInt d)) (ev_fn (ds := [d]) (ea_cons (ev_var rfl (D.shd_of hd)) ea_nil) ⟨d, D.frzs1 hd, hd, hn, rfl⟩) True.intro (fun h => ?_) (fun h => ?_)
  · cases d with
    | sc x =>
      cases x with
      | int i =>
        show EvS _ _ _ (.bl (decide (l ≤ i) && decide (i ≤ m)))
        exact ev_chain (ev_var rfl rfl) (ev_var rfl rfl) (fun H Q q => .inl ⟨l, i, rfl, rfl, q⟩) (fun _ => ev_var rfl rfl) (fun _ H Q q => .inl ⟨i, m, rfl, rfl, q⟩)
      | _ => cases h
    | _ => cases h
  · cases d with
    | sc x =>
      cases x with
      | int i => cases h
      | _ => rfl
    | _ => rfl
end
end K02

namespace K02
open PySem PySem.Spec PyProof.Rows L2 FP
def isSize (d e : D) : Bool := among d 1 8 && (among e 1 8 && (match d, e with
  | .sc (.int r), .sc (.int c) => decide (r * c ≤ 32)
  | _, _ => false))
theorem among_form {d : D} {l m : Int} (h : among d l m = true) : ∃ i, d = .int i ∧ l ≤ i ∧ i ≤ m := by
  cases d with
  | sc x => cases x with
    | int i =>
      obtain ⟨h1, h2⟩ := Bool.and_eq_true_iff.mp h
      exact ⟨i, rfl, of_decide_eq_true h1, of_decide_eq_true h2⟩
    | _ => cases h
  | _ => cases h
def R_is_size : List D → D → Prop := fun ds z => ∃ d e, ds = [d, e] ∧ d.frz = d ∧ tyN d ≠ "" ∧ e.frz = e ∧ tyN e ≠ "" ∧ z = .bl (isSize d e)
theorem len_is_size : ∀ ds z, R_is_size ds z → ds.length = 2 := by
  unfold R_is_size
  first
  | exact fun _ _ h => h.elim
  | (rintro ds z ⟨_, rfl, _⟩; rfl)
  | (rintro ds z ⟨_, _, rfl, _⟩; rfl)
  | (rintro ds z ⟨_, _, _, rfl, _⟩; rfl)
  | (rintro ds z ⟨_, _, _, _, rfl, _⟩; rfl)
section
variable {P : Program} {w : World} {K : PySem.W.Frag} {mg : Str → Option Value} {base : Heap}
set_option maxHeartbeats 4000000 in
theorem ok_is_size (T : Txt K mg) : FnOk P w K mg base CX0 3 T.f_is_size T.fd_is_size ["rows", "columns"] (spF K R_is_size) := by
  refine ok_of (N := ["rows", "columns"]) T.F_is_size sc_is_size len_is_size fun cdv A outer s H E hr => ⟨_, (pss_cons (ps_if (PW.pt (pw_or (pt_not (pt_truthK (K := K) rfl (pe_call (ok_is_among T) (hr.mono (by decide)) (by rfl) T.g_is_among T.F_is_among.kp T.b_is_among .nil pass0 (pa_cons (pv 0) (pa_cons pe_int (pa_cons (pe_glob (v := .int 8) (by rfl) T.c_MOST_LINES ⟨_, rfl⟩) pa_nil)))) (by intro _; rfl))) (pw_or1 (pt_not (pt_truthK (K := K) rfl (pe_call (ok_is_among T) (hr.mono (by decide)) (by rfl) T.g_is_among T.F_is_among.kp T.b_is_among .nil pass0 (pa_cons (pv 1) (pa_cons pe_int (pa_cons (pe_glob (v := .int 8) (by rfl) T.c_MOST_LINES ⟨_, rfl⟩) pa_nil)))) (by intro _; rfl))))))
      (pss_one (ps_ret pe_bl)) pss_nil)
      (pss_one (ps_ret (pe_cmpR op_lee (pe_op op_times (pv 0) (pv 1)) (pe_glob (v := .int 32) (by rfl) T.c_MOST_CELLS ⟨_, rfl⟩) (nomark _))))), ?_⟩
  (try simp only [cxK])
  rintro _ _ ⟨d, e, rfl, hd, nd, he, ne, rfl⟩
  refine ⟨.rt (.bl (isSize d e)), ?_, rfl⟩
  have amg : ∀ {i : Nat} {v : D} {ρ : FP.Env}, ρ[i]? = some (some v) → v.frz = v → tyN v ≠ "" → EvT K (tTruK K (tCall (spF K R_is_among) [] E0 (tCons (tVar i) (tCons (tC (.int 1)) (tCons (tC (.int 8)) tNil))))) ρ (among v 1 8) := fun h1 h2 h3 =>
    et_bl (ev_fn (ds := [_, .int 1, .int 8]) (ea_cons (ev_var h1 (D.shd_of h2)) (ea_cons ev_c (ea_cons ev_c ea_nil))) ⟨_, 1, 8, by rw [D.frzs_cons, h2]; rfl, h2, h3, rfl⟩)
  refine run_seq_if (b := (!among d 1 8) || (!among e 1 8)) (et_or (et_not (amg rfl hd nd)) fun _ => et_not (amg rfl he ne)) (fun h => ?_) (fun h => ?_)
  · have z : isSize d e = false := by
      unfold isSize
      rcases Bool.or_eq_true_iff.mp h with h | h
      · rw [show among d 1 8 = false by simpa using h]; rfl
      · rw [show among e 1 8 = false by simpa using h, Bool.false_and, Bool.and_false]
    rw [z]
    exact run_seq_rt (run_ret ev_c)
  · obtain ⟨h1, h2⟩ := Bool.or_eq_false_iff.mp h
    have h1 : among d 1 8 = true := by simpa using h1
    have h2 : among e 1 8 = true := by simpa using h2
    obtain ⟨r, rfl, _, _⟩ := among_form h1
    obtain ⟨c, rfl, _, _⟩ := among_form h2
    have z : isSize (.int r) (.int c) = decide (r * c ≤ 32) := by
      unfold isSize
      rw [h1, h2]
      rfl
    rw [z]
    exact run_skip (run_ret (ev_op (ev_op (ev_var rfl rfl) (ev_var rfl rfl) (times_int (.inl ⟨by omega, by omega⟩))) ev_c le_int'))
end
end K02

namespace K02
open PySem PySem.Spec PyProof.Rows L2 FP
theorem cut200 {α : Type} (ds : List α) (h : ds.length ≤ 200) : cutX ds none (some 200) = ds := by
  unfold cutX
  rw [show (some (200 : Int)) = some (((200 : Nat) : Int)) from rfl, HT.sIx_none, HT.sIx_nat, List.drop_zero, Nat.sub_zero, Nat.min_eq_right h, List.take_length]
def cellsOf (ns : List Int) : List Int := ns ++ [ns.sum + (ns.length : Nat)]
def wholeOf (ns : List Int) (k : Int) : Int := mixed (cellsOf ns).sum k
structure SchN (ns : List Int) (k : Int) (N : Nat) : Prop where
  le : (N : Int) + 2 ≤ (lawSize (wholeOf ns k)).1 + (lawSize (wholeOf ns k)).2
  fin : psK (lawSize (wholeOf ns k)) (cellsOf ns) (wholeOf ns k / 1000) N = (1, 1)
  go : ∀ j, j < N → psK (lawSize (wholeOf ns k)) (cellsOf ns) (wholeOf ns k / 1000) j ≠ (1, 1) ∧ 1 ≤ (psK (lawSize (wholeOf ns k)) (cellsOf ns) (wholeOf ns k / 1000) j).1 ∧ 1 ≤ (psK (lawSize (wholeOf ns k)) (cellsOf ns) (wholeOf ns k / 1000) j).2 ∧
    (psK (lawSize (wholeOf ns k)) (cellsOf ns) (wholeOf ns k / 1000) j).1 ≤ (lawSize (wholeOf ns k)).1 ∧ (psK (lawSize (wholeOf ns k)) (cellsOf ns) (wholeOf ns k / 1000) j).2 ≤ (lawSize (wholeOf ns k)).2
def R__law_scheme : List D → D → Prop := fun ds z => ∃ (ns : List Int) (k : Int) (N : Nat), ds = [.lst false (ns.map D.int), .int k] ∧ 0 ≤ k ∧ k < 1000 ∧ ns.length ≤ 63 ∧ SchN ns k N ∧
  z = .tup true [.int (lawSize (wholeOf ns k)).1, .int (lawSize (wholeOf ns k)).2, .lst true ((trs (lawSize (wholeOf ns k)) (cellsOf ns) (wholeOf ns k / 1000) N).map tD)]
theorem len__law_scheme : ∀ ds z, R__law_scheme ds z → ds.length = 2 := by
  rintro _ _ ⟨_, _, _, rfl, _⟩
  rfl
section
variable {P : Program} {w : World} {K : PySem.W.Frag} {mg : Str → Option Value} {base : Heap}
set_option maxHeartbeats 4000000 in
theorem ok__law_scheme (T : Txt K mg) : FnOk P w K mg base CX0 3 T.f__law_scheme T.fd__law_scheme ["_law_script", "_law_k"] (spF K R__law_scheme) := by
  refine ok_of (N := ["_law_script", "_law_k", "_law_cells", "_law_whole", "_law_rows", "_law_columns"]) T.F__law_scheme sc__law_scheme len__law_scheme fun cdv A outer s H E hr => ⟨_, (pss_cons (ps_set (i := 2) sc__law_scheme.nd rfl (by first | exact Or.inl rfl | exact Or.inr rfl) (pe_op (op_plusK (K := K) rfl) (pe_slice (sl_anyK (K := K) rfl) (pv 0) po_none (po_some pe_int)) (pe_lst (pa_cons (pe_op (op_plusK (K := K) rfl) (pe_callB (cr_sumK (K := K) rfl rfl) (by rfl) T.z_sum (by decide +kernel) (pa_cons (pv 0) pa_nil)) (pe_callB (call_lennK (K := K) rfl) (by rfl) T.z_len (by decide +kernel) (pa_cons (pv 0) pa_nil))) pa_nil))))
      (pss_cons (ps_set (i := 3) sc__law_scheme.nd rfl (by first | exact Or.inl rfl | exact Or.inr rfl) (pe_call (ok__law_mixed T) (hr.mono (by decide)) (by rfl) T.g__law_mixed T.F__law_mixed.kp T.b__law_mixed .nil pass0 (pa_cons (pe_callB (cr_sumK (K := K) rfl rfl) (by rfl) T.z_sum (by decide +kernel) (pa_cons (pv 2) pa_nil)) (pa_cons (pv 1) pa_nil))))
      (pss_cons (ps_asg (pe_call (ok__law_size T) (hr.mono (by decide)) (by rfl) T.g__law_size T.F__law_size.kp T.b__law_size .nil pass0 (pa_cons (pv 3) pa_nil)) (pg_tupK (K := K) (n := 2) rfl rfl (pgs_cons (pg_name (i := 4) sc__law_scheme.nd rfl (by first | exact Or.inl rfl | exact Or.inr rfl)) (pgs_cons (pg_name (i := 5) sc__law_scheme.nd rfl (by first | exact Or.inl rfl | exact Or.inr rfl)) pgs_nil))))
      (pss_one (ps_ret (pe_tup (pa_cons (pv 4) (pa_cons (pv 5) (pa_cons (pe_call (ok__law_folds T) (hr.mono (by decide)) (by rfl) T.g__law_folds T.F__law_folds.kp T.b__law_folds .nil pass0 (pa_cons (pv 4) (pa_cons (pv 5) (pa_cons (pv 2) (pa_cons (pe_op op_fd (pv 3) pe_int) pa_nil))))) pa_nil))))))))), ?_⟩
  (try simp only [cxK])
  rintro _ _ ⟨ns, k, N, rfl, k0, k1, hl, hS, rfl⟩
  have hcut : cutX (ns.map D.int) none (some 200) = ns.map D.int := cut200 _ (by rw [List.length_map]; omega)
  have e1 : (D.lst true (ns.map D.int ++ [D.int (ns.sum + (ns.length : Nat))])).frz = .lst false ((cellsOf ns).map D.int) := by
    rw [D.frz, ← D.frzs_ints (cellsOf ns)]
    congr 1
    rw [D.frzs_ints]
    show D.frzs (ns.map D.int ++ [D.int (ns.sum + (ns.length : Nat))]) = (ns ++ [ns.sum + (ns.length : Nat)]).map D.int
    rw [List.map_append, D.frzs_map, List.map_append, ← D.frzs_map, D.frzs_ints]
    rfl
  have hw0 := mixed_nn (cellsOf ns).sum k
  have hok := lawSize_ok (wholeOf ns k)
  refine ⟨.rt _, ?_, rfl⟩
  refine run_seq (run_asg (d := .lst false ((cellsOf ns).map D.int)) ?_) ?_
  · rw [← e1]
    refine ev_frz ?_
    have hsl := ev_sl (K := K) (ρ := (env0 ["_law_script", "_law_k", "_law_cells", "_law_whole", "_law_rows", "_law_columns"] [.lst false (ns.map D.int), .int k])) (te := tVar 0) (r := rSl K) (d := .lst false (ns.map D.int)) (z := .lst true (cutX (ns.map D.int) none (some 200))) (ev_var rfl rfl) eo_none (eo_some (ev_c (v := .int 200))) sl_lst
    rw [hcut] at hsl
    refine ev_op hsl (ev_lst (ea_cons (ev_op (ev_call (ea_cons (ev_var rfl rfl) ea_nil) sum_ints) (y := .int (ns.length : Nat)) ?_ plus_int) ea_nil) (show 1 ≤ 1000000 by decide)) (plus_lst ?_)
    · have := ev_call (K := K) (ρ := (env0 ["_law_script", "_law_k", "_law_cells", "_law_whole", "_law_rows", "_law_columns"] [.lst false (ns.map D.int), .int k])) (ea_cons (ev_var (i := 0) (d := .lst false (ns.map D.int)) rfl rfl) ea_nil) len_lst
      rw [List.length_map] at this
      exact this
    · rw [List.length_map]
      exact Nat.le_trans (show ns.length + 1 ≤ 100 by omega) (by decide)
  refine run_seq (run_asg (d := .int (wholeOf ns k)) (ev_fn (ds := [.int (cellsOf ns).sum, .int k]) (ea_cons (ev_call (ea_cons (ev_var rfl rfl) ea_nil) sum_ints) (ea_cons (ev_var rfl rfl) ea_nil)) ⟨_, _, rfl, k0, by omega, rfl⟩)) ?_
  refine run_seq (run_asgT (d := .tup false [.int (lawSize (wholeOf ns k)).1, .int (lawSize (wholeOf ns k)).2]) (ev_frz (d := .tup true [.int (lawSize (wholeOf ns k)).1, .int (lawSize (wholeOf ns k)).2]) (ev_fn (ds := [.int (wholeOf ns k)]) (ea_cons (ev_var rfl rfl) ea_nil) ⟨_, rfl, hw0, rfl⟩)) rfl (takes_tup rfl (takes_cons (takes_name fun _ h => nomatch h) (takes_cons (takes_name fun _ h => nomatch h) takes_nil)))) ?_
  refine run_ret (ev_tup (ea_cons (ev_var rfl rfl) (ea_cons (ev_var rfl rfl) (ea_cons (ev_fn (ds := [.int (lawSize (wholeOf ns k)).1, .int (lawSize (wholeOf ns k)).2, .lst false ((cellsOf ns).map D.int), .int (wholeOf ns k / 1000)]) (ea_cons (ev_var rfl rfl) (ea_cons (ev_var rfl rfl) (ea_cons (ev_var rfl rfl) (ea_cons (ev_op (ev_var rfl rfl) ev_c (fd_int ⟨by decide, by decide⟩)) ea_nil))))
    ⟨_, _, cellsOf ns, _, N, by rw [D.frzs_cons, D.frzs_cons, D.frzs_cons, D.frzs_cons, D.frzs_nil, D.frz_sc, D.frz_sc, D.frz_sc, D.frz, D.frzs_ints], hok.r1, hok.r8, hok.c1, hok.c8, by unfold cellsOf; simp, by unfold wholeOf; omega, hS.le, hS.fin, hS.go, rfl⟩) ea_nil))) (show 3 ≤ 1000000 by decide))
end
end K02

namespace K02
open PySem PySem.Spec PyProof.Rows L2 FP
def R__law_by_hand : List D → D → Prop := fun ds z => ∃ n, ds = [.int n] ∧ 0 ≤ n ∧ n < 1000 ∧ z = .bl true
theorem fit_ints (ns : List Int) : fit 1 (.lst true (ns.map D.int)) := fun x hx => by
  obtain ⟨n, _, rfl⟩ := List.mem_map.mp hx
  exact True.intro
theorem len__law_by_hand : ∀ ds z, R__law_by_hand ds z → ds.length = 1 := by
  unfold R__law_by_hand
  first
  | exact fun _ _ h => h.elim
  | (rintro ds z ⟨_, rfl, _⟩; rfl)
  | (rintro ds z ⟨_, _, rfl, _⟩; rfl)
  | (rintro ds z ⟨_, _, _, rfl, _⟩; rfl)
  | (rintro ds z ⟨_, _, _, _, rfl, _⟩; rfl)
section
variable {P : Program} {w : World} {K : PySem.W.Frag} {mg : Str → Option Value} {base : Heap}
set_option maxHeartbeats 4000000 in
theorem ok__law_by_hand (T : Txt K mg) : FnOk P w K mg base CX0 3 T.f__law_by_hand T.fd__law_by_hand ["_law_number"] (spF K R__law_by_hand) := by
  refine ok_of (N := ["_law_number", "_law_made", "_law_names", "_law_error", "_law_name"]) T.F__law_by_hand sc__law_by_hand len__law_by_hand fun cdv A outer s H E hr => ⟨_, (pss_cons (ps_set (i := 1) sc__law_by_hand.nd rfl (by first | exact Or.inl rfl | exact Or.inr rfl) (pe_lst (pa_cons (pe_mkV (pmk_oex T.ox_BadRow T.in_BadRow T.ft_BadRow___init__ (ok_BadRow___init__ T) (hr.mono (by decide)) T.b_BadRow___init__ .nil pass0 (by rfl) T.m_BadRow (pa_cons (pv 0) (pa_cons (pe_op (op_plusK (K := K) rfl) (pv 0) pe_int) pa_nil)))) (pa_cons (pe_mkV (pmk_oex T.ox_BadScheme T.in_BadScheme T.ft_BadScheme___init__ (ok_BadScheme___init__ T) (hr.mono (by decide)) T.b_BadScheme___init__ .nil pass0 (by rfl) T.m_BadScheme (pa_cons (pv 0) pa_nil))) pa_nil))))
      (pss_cons (ps_if (pt_cmpR (op_neeK (K := K) rfl hr.units) (pe_lst (pa_cons (pe_fldA (K := K) rfl (pe_ix (ix_seqK (K := K) rfl) (pv 1) pe_int (fun _ _ => rfl))) (pa_cons (pe_fldA (K := K) rfl (pe_ix (ix_seqK (K := K) rfl) (pv 1) pe_int (fun _ _ => rfl))) (pa_cons (pe_fldA (K := K) rfl (pe_ix (ix_seqK (K := K) rfl) (pv 1) pe_int (fun _ _ => rfl))) pa_nil)))) (pe_lst (pa_cons (pv 0) (pa_cons (pe_op (op_plusK (K := K) rfl) (pv 0) pe_int) (pa_cons (pv 0) pa_nil)))) (nomark _))
      (pss_one (ps_ret pe_bl)) pss_nil)
      (pss_cons (ps_set (i := 1) sc__law_by_hand.nd rfl (by first | exact Or.inl rfl | exact Or.inr rfl) (pe_op (op_plusK (K := K) rfl) (pv 1) (pe_lst (pa_cons (pe_mkV (pmk_own PySem.F.excBase_ValueError T.q_BadSheet T.m_BadSheet T.k_BadSheet (raises_own T.xs_BadSheet T.xt_BadSheet) (by rfl))) (pa_cons (pe_mkV (pmk_own PySem.F.excBase_ValueError T.q_BadBook T.m_BadBook T.k_BadBook (raises_own T.xs_BadBook T.xt_BadBook) (by rfl))) (pa_cons (pe_mkV (pmk_own PySem.F.excBase_ValueError T.q_TooGreat T.m_TooGreat T.k_TooGreat (raises_own T.xs_TooGreat T.xt_TooGreat) (by rfl))) (pa_cons (pe_mkV (pmk_own PySem.F.excBase_ValueError T.q_OutOfPlace T.m_OutOfPlace T.k_OutOfPlace (raises_own T.xs_OutOfPlace T.xt_OutOfPlace) (by rfl))) pa_nil)))))))
      (pss_cons (ps_set (i := 2) sc__law_by_hand.nd rfl (by first | exact Or.inl rfl | exact Or.inr rfl) (pe_lst (pa_cons pe_str (pa_cons pe_str (pa_cons pe_str (pa_cons pe_str (pa_cons pe_str (pa_cons pe_str pa_nil))))))))
      (pss_one (ps_ret (pe_cmpR (op_eqqK (K := K) rfl hr.units) (pe_lc (own := [("_law_error", 3)]) (by rfl) sc__law_by_hand.nd (pi_listK (K := K) rfl (pv 1)) (blkOk_by (own := [("_law_error", 3)]) (N := ["_law_number", "_law_made", "_law_names", "_law_error", "_law_name"]) (sc := defScope s__law_by_hand) (by decide +kernel)) (fun _ _ _ _ _ => (pg_name (i := 3) sc__law_by_hand.nd rfl (by first | exact Or.inl rfl | exact Or.inr rfl))) (fun _ _ _ _ _ => pts_nil) (fun _ _ _ _ _ => (pe_call (ok__law_kinds T) (hr.mono (by decide)) (by rfl) T.g__law_kinds T.F__law_kinds.kp T.b__law_kinds .nil pass0 (pa_cons (pv 3) pa_nil)))) (pe_lc (own := [("_law_name", 4)]) (by rfl) sc__law_by_hand.nd (pi_listK (K := K) rfl (pv 2)) (blkOk_by (own := [("_law_name", 4)]) (N := ["_law_number", "_law_made", "_law_names", "_law_error", "_law_name"]) (sc := defScope s__law_by_hand) (by decide +kernel)) (fun _ _ _ _ _ => (pg_name (i := 4) sc__law_by_hand.nd rfl (by first | exact Or.inl rfl | exact Or.inr rfl))) (fun _ _ _ _ _ => pts_nil) (fun _ _ _ _ _ => (pe_lst (pa_cons (pv 4) pa_nil)))) (nomark _)))))))), ?_⟩
  (try simp only [cxK])
  rintro _ _ ⟨n, rfl, n0, n1, rfl⟩
  refine ⟨.rt (.bl true), ?_, rfl⟩
  let exs : List (Addr × List (Str × V) × Str) := [(T.A_BadRow, fsRow n (n + 1), "row"), (T.A_BadScheme, fsAt n, "scheme"), (T.A_BadSheet, [], "sheet"), (T.A_BadBook, [], "book"), (T.A_TooGreat, [], "great"), (T.A_OutOfPlace, [], "place")]
  let exD : Addr × List (Str × V) × Str → D := fun p => .exc p.1 p.2.1
  refine run_seq (run_asg (d := .lst false [.exc T.A_BadRow (fsRow n (n + 1)), .exc T.A_BadScheme (fsAt n)]) (ev_frz (d := .lst true [.exc T.A_BadRow (fsRow n (n + 1)), .exc T.A_BadScheme (fsAt n)]) (ev_lst (ea_cons (ev_mkV (ev_mko (ws := [.int n, .int (n + 1)]) (ea_cons (ev_var rfl rfl) (ea_cons (ev_op (ev_var rfl rfl) ev_c plus_int) ea_nil)) (show 2 ≤ 1000 by decide) ⟨n, n + 1, rfl, n0, by omega, by omega, by omega, rfl⟩)) (ea_cons (ev_mkV (ev_mko (ws := [.int n]) (ea_cons (ev_var rfl rfl) ea_nil) (show 1 ≤ 1000 by decide) ⟨n, rfl, n0, by omega, rfl⟩)) ea_nil)) (show 2 ≤ 1000000 by decide)))) ?_
  have x0 : ∀ {ρ : FP.Env}, ρ[1]? = some (some (.lst false [.exc T.A_BadRow (fsRow n (n + 1)), .exc T.A_BadScheme (fsAt n)])) → EvS K (tOp (rIx K) (tVar 1) (tC (.int 0))) ρ (.exc T.A_BadRow (fsRow n (n + 1))) := fun h => ev_op (ev_var h rfl) ev_c (ix_lst rfl)
  have x1 : ∀ {ρ : FP.Env}, ρ[1]? = some (some (.lst false [.exc T.A_BadRow (fsRow n (n + 1)), .exc T.A_BadScheme (fsAt n)])) → EvS K (tOp (rIx K) (tVar 1) (tC (.int 1))) ρ (.exc T.A_BadScheme (fsAt n)) := fun h => ev_op (ev_var h rfl) ev_c (ix_lst rfl)
  refine run_seq_if (b := false) (et_test (ev_op (x := .lst true ([n, n + 1, n].map D.int)) (y := .lst true ([n, n + 1, n].map D.int)) (ev_lst (ea_cons (ev_efld (x0 rfl) T.xf_BadRow T.nf_BadRow_row rfl) (ea_cons (ev_efld (x0 rfl) T.xf_BadRow T.nf_BadRow_word rfl) (ea_cons (ev_efld (x1 rfl) T.xf_BadScheme T.nf_BadScheme_at rfl) ea_nil))) (show 3 ≤ 1000000 by decide)) (ev_lst (ea_cons (ev_var rfl rfl) (ea_cons (ev_op (ev_var rfl rfl) ev_c plus_int) (ea_cons (ev_var rfl rfl) ea_nil))) (show 3 ≤ 1000000 by decide)) ?_)) (fun h => nomatch h) fun _ => run_skip ?_
  · have := ne_data (K := K) (fit_ints [n, n + 1, n]) (fit_ints [n, n + 1, n]) (by decide) (by decide)
    rw [eqD_rfl (fit_ints [n, n + 1, n]) rfl] at this
    exact this
  refine run_seq (run_asg (d := .lst false (exs.map exD)) (ev_frz (d := .lst true ([.exc T.A_BadRow (fsRow n (n + 1)), .exc T.A_BadScheme (fsAt n)] ++ [.exc T.A_BadSheet [], .exc T.A_BadBook [], .exc T.A_TooGreat [], .exc T.A_OutOfPlace []])) (ev_op (ev_var rfl rfl) (ev_lst (ea_cons (ev_mkV ev_mkT) (ea_cons (ev_mkV ev_mkT) (ea_cons (ev_mkV ev_mkT) (ea_cons (ev_mkV ev_mkT) ea_nil)))) (show 4 ≤ 1000000 by decide)) (plus_lst (by show 6 ≤ sizeLine; decide))))) ?_
  let nms : List Str := ["row", "scheme", "sheet", "book", "great", "place"]
  refine run_seq (run_asg (d := .lst false (nms.map D.str)) (ev_frz (d := .lst true (nms.map D.str)) (ev_lst (ea_cons ev_c (ea_cons ev_c (ea_cons ev_c (ea_cons ev_c (ea_cons ev_c (ea_cons ev_c ea_nil)))))) (show 6 ≤ 1000000 by decide)))) ?_
  have kind : ∀ p ∈ exs, KindOf T p.1 p.2.2 := fun p hp => by
    simp only [exs, List.mem_cons, List.not_mem_nil, or_false] at hp
    rcases hp with rfl | rfl | rfl | rfl | rfl | rfl
    · exact .inl ⟨rfl, rfl⟩
    · exact .inr (.inl ⟨rfl, rfl⟩)
    · exact .inr (.inr (.inl ⟨rfl, rfl⟩))
    · exact .inr (.inr (.inr (.inl ⟨rfl, rfl⟩)))
    · exact .inr (.inr (.inr (.inr (.inl ⟨rfl, rfl⟩))))
    · exact .inr (.inr (.inr (.inr (.inr ⟨rfl, rfl⟩))))
  have hfit : fit 2 (.lst true (nms.map fun s => D.lst true [.str s])) := fun x hx => by
    obtain ⟨s, hs, rfl⟩ := List.mem_map.mp hx
    intro y hy
    rw [List.mem_singleton.mp hy]
    simp only [nms, List.mem_cons, List.not_mem_nil, or_false] at hs
    rcases hs with rfl | rfl | rfl | rfl | rfl | rfl <;> (show (PyData.str _).canLay0 = true; decide +kernel)
  refine run_ret (ev_op (x := .lst true (exs.map fun p => D.lst true [.str p.2.2])) (y := .lst true (nms.map fun s => D.lst true [.str s])) (ev_lcM (inj := exD) (walks_list (ev_var rfl rfl)) _ (show 6 ≤ 1000000 by decide) (by decide) fun p hp => ev_fn (ds := [exD p]) (ea_cons (ev_var rfl rfl) ea_nil) ⟨p.1, p.2.1, p.2.2, rfl, kind p hp, rfl⟩) (ev_lcM (inj := D.str) (walks_list (ev_var rfl rfl)) _ (show 6 ≤ 1000000 by decide) (by decide) fun s _ => ev_lst (ea_cons (ev_var rfl rfl) ea_nil) (show 1 ≤ 1000000 by decide)) ?_)
  have := eq_data (K := K) hfit hfit (by decide) (by decide)
  rw [eqD_rfl hfit rfl] at this
  exact this
end
end K02

namespace K02
open PySem PySem.Spec PyProof.Rows L2 FP
def initAt (d e f : D) : Option Int := if isSize d e = true then
    match d, e, f with
    | .sc (.int r), .sc (.int c), .lst _ fs => firstWrong (r, c) fs
    | _, _, _ => some 0
  else some 0
/-- a fold told anew -/
def anew : D → D
  | .tup _ es => .tup true es
  | d => d
def schO (r c : Int) (fs : List D) : List D := [.int r, .int c, .tup true (fs.map anew)]
structure FoldsD (f : D) : Prop where
  fr : f.frz = f
  ty : tyN f ≠ ""
  parts : ∀ o fs, f = .lst o fs → (∀ x ∈ fs, FoldD x) ∧ fs.length ≤ 1000
def InitR {K : PySem.W.Frag} {mg : Str → Option Value} (T : Txt K mg) (d e f : D) (r : Mkd) : Prop := match initAt d e f with
  | some k => r = .er T.A_BadScheme (fsAt k)
  | none => ∃ x y fs, d = .int x ∧ e = .int y ∧ f = .lst false fs ∧ r = .ok schF (schO x y fs)
def R_Scheme___init__ {K : PySem.W.Frag} {mg : Str → Option Value} (T : Txt K mg) : List D → Mkd → Prop := fun ds r => ∃ d e f, ds = [d, e, f] ∧ d.frz = d ∧ tyN d ≠ "" ∧ e.frz = e ∧ tyN e ≠ "" ∧ FoldsD f ∧ InitR T d e f r
theorem len_Scheme___init__ {K : PySem.W.Frag} {mg : Str → Option Value} (T : Txt K mg) : ∀ ds z, R_Scheme___init__ T ds z → ds.length + 1 = 4 := by
  rintro _ _ ⟨_, _, _, rfl, _⟩
  rfl
theorem frz_lst {o : Bool} {es : List D} (h : (D.lst o es).frz = .lst o es) : o = false ∧ D.frzs es = es := by
  rw [D.frz] at h
  injection h with h1 h2
  exact ⟨h1.symm, h2⟩
theorem szAft_fold {p q : Int × Int} {d : D} (h : szAft p d = some q) : isFold d = true := by
  unfold szAft at h
  split at h
  · assumption
  · cases h
theorem all_fold {p : Int × Int} {fs : List D} (h : good p fs = fs.length) : ∀ x ∈ fs, isFold x = true := fun x hx => by
  obtain ⟨k, hk, rfl⟩ := List.mem_iff_getElem.mp hx
  obtain ⟨d, h1, h2⟩ := good_step (p := p) (ds := fs) (k := k) (by omega)
  rw [List.getElem?_eq_getElem hk] at h1
  cases h1
  exact szAft_fold h2
theorem firstWrong_none {p : Int × Int} {fs : List D} (h : firstWrong p fs = none) : good p fs = fs.length ∧ szAt p fs fs.length = (1, 1) := by
  unfold firstWrong at h
  split at h
  · cases h
  · rename_i hg
    split at h
    · rename_i h1
      exact ⟨Nat.le_antisymm good_le (Nat.not_lt.mp hg), h1⟩
    · cases h
theorem firstWrong_le {p : Int × Int} {fs : List D} {k : Int} (h : firstWrong p fs = some k) : 1 ≤ k ∧ k ≤ fs.length + 1 := by
  unfold firstWrong at h
  split at h
  · cases h
    omega
  · split at h
    · cases h
    · cases h
      omega
theorem anew_frz {fs : List D} (h : ∀ z ∈ fs, ∃ e m w, z = .tup false [.str e, .int m, .str w]) : D.frzs (fs.map anew) = fs := by
  rw [D.frzs_map, List.map_map]
  refine (List.map_congr_left (g := id) fun z hz => ?_).trans (List.map_id fs)
  obtain ⟨e, m, w, rfl⟩ := h z hz
  rfl
section
variable {P : Program} {w : World} {K : PySem.W.Frag} {mg : Str → Option Value} {base : Heap}
set_option maxHeartbeats 4000000 in
theorem ok_Scheme___init__ (T : Txt K mg) : FnOk P w K mg base (L2.CX P w) 6 T.f_Scheme___init__ T.fd_Scheme___init__ ["self", "rows", "columns", "folds"] (spI K T.A_Scheme (R_Scheme___init__ T)) := by
  refine ok_ofI (N := ["self", "rows", "columns", "folds", "at", "edge", "many", "way"]) T.F_Scheme___init__ sc_Scheme___init__ (len_Scheme___init__ T) fun cdv A outer s H E hr => ⟨_, (pss_cons (ps_if (PW.pt (pw_or (pt_not (pt_truthK (K := K) rfl (pe_call (ok_is_size T) (hr.mono (by decide)) (by rfl) T.g_is_size T.F_is_size.kp T.b_is_size .nil pass0 (pa_cons (pv 1) (pa_cons (pv 2) pa_nil))) (by intro _; rfl))) (pw_or1 (pt_not (pt_truthK (K := K) rfl (pe_callB (call_isisK (K := K) rfl) (by rfl) T.z_isinstance (by decide +kernel) (pa_cons (pv 3) (pa_cons (pe_bltn (v := .ty "list") (by rfl) T.z_list (by decide +kernel) rfl) pa_nil))) (by intro _; rfl))))))
      (pss_one (ps_raise rfl (takes_of rfl rfl rfl rfl) (pmk_oex T.ox_BadScheme T.in_BadScheme T.ft_BadScheme___init__ (ok_BadScheme___init__ T) (hr.mono (by decide)) T.b_BadScheme___init__ .nil pass0 (by rfl) T.m_BadScheme (pa_cons pe_int pa_nil)))) pss_nil)
      (pss_cons (ps_set (i := 4) sc_Scheme___init__.nd rfl (by first | exact Or.inl rfl | exact Or.inr rfl) (pe_call (ok_first_wrong_fold T) (hr.mono (by decide)) (by rfl) T.g_first_wrong_fold T.F_first_wrong_fold.kp T.b_first_wrong_fold .nil pass0 (pa_cons (pv 1) (pa_cons (pv 2) (pa_cons (pv 3) pa_nil)))))
      (pss_cons (ps_if (pt_cmpR op_isn (pv 4) pe_non (nomark _))
      (pss_one (ps_raise rfl (takes_of rfl rfl rfl rfl) (pmk_oex T.ox_BadScheme T.in_BadScheme T.ft_BadScheme___init__ (ok_BadScheme___init__ T) (hr.mono (by decide)) T.b_BadScheme___init__ .nil pass0 (by rfl) T.m_BadScheme (pa_cons (pv 4) pa_nil)))) pss_nil)
      (pss_cons (ps_fld (pv 0) (pv 1) (by rfl))
      (pss_cons (ps_fld (pv 0) (pv 2) (by rfl))
      (pss_one (ps_fld (pv 0) (pe_callTy (call_tupOfK (K := K) rfl) (by rfl) T.z_tuple (by decide +kernel) (pa_cons (pe_lc (own := [("edge", 5), ("many", 6), ("way", 7)]) (by rfl) sc_Scheme___init__.nd (pi_listK (K := K) rfl (pv 3)) (blkOk_by (own := [("edge", 5), ("many", 6), ("way", 7)]) (N := ["self", "rows", "columns", "folds", "at", "edge", "many", "way"]) (sc := defScope s_Scheme___init__) (by decide +kernel)) (fun _ _ _ _ _ => (pg_tupK (K := K) (n := 3) rfl rfl (pgs_cons (pg_name (i := 5) sc_Scheme___init__.nd rfl (by first | exact Or.inl rfl | exact Or.inr rfl)) (pgs_cons (pg_name (i := 6) sc_Scheme___init__.nd rfl (by first | exact Or.inl rfl | exact Or.inr rfl)) (pgs_cons (pg_name (i := 7) sc_Scheme___init__.nd rfl (by first | exact Or.inl rfl | exact Or.inr rfl)) pgs_nil))))) (fun _ _ _ _ _ => pts_nil) (fun _ _ _ _ _ => (pe_tup (pa_cons (pv 5) (pa_cons (pv 6) (pa_cons (pv 7) pa_nil)))))) pa_nil)) (by rfl)))))))), ?_⟩
  (try simp only [cxK])
  rintro a _ res ⟨d, e, f, rfl, hd, nd, he, ne, hf, hR⟩
  have bad : ∀ {ρ : FP.Env} {te : TE} {k : Int}, EvS K te ρ (.int k) → 0 ≤ k → k < 1000000000 → EvM K (tMkO T.A_BadScheme (spE T.A_BadScheme R_BadScheme___init__) [] (tCons te tNil)) ρ T.A_BadScheme (fsAt k) := fun {ρ te k} h h0 h1 =>
    ev_mko (ws := [.int k]) (ea_cons h ea_nil) (show 1 ≤ 1000 by decide) ⟨k, rfl, h0, h1, rfl⟩
  have size : EvT K (tTruK K (tCall (spF K R_is_size) [] E0 (tCons (tVar 1) (tCons (tVar 2) tNil)))) (envI ["self", "rows", "columns", "folds", "at", "edge", "many", "way"] a T.A_Scheme [d, e, f]) (isSize d e) :=
    et_bl (ev_fn (ds := [d, e]) (ea_cons (ev_var rfl (D.shd_of hd)) (ea_cons (ev_var rfl (D.shd_of he)) ea_nil)) ⟨d, e, by rw [D.frzs_cons, D.frzs_cons, D.frzs_nil, hd, he], hd, nd, he, ne, rfl⟩)
  have lst : EvT K (tTruK K (tCB (rIsis K) (tCons (tVar 3) (tCons (tC (.ty "list")) tNil)))) (envI ["self", "rows", "columns", "folds", "at", "edge", "many", "way"] a T.A_Scheme [d, e, f]) (isLst f) :=
    et_truK (d := .bl _) (ev_isi rfl (D.shd_of hf.fr) hf.ty (kit_lst f hf.ty)) True.intro
  by_cases hs : isSize d e = true ∧ isLst f = true
  · obtain ⟨h1, h2⟩ := hs
    obtain ⟨x, rfl, _, _⟩ := among_form (show among d 1 8 = true from (Bool.and_eq_true_iff.mp h1).1)
    obtain ⟨y, rfl, _, _⟩ := among_form (show among e 1 8 = true from (Bool.and_eq_true_iff.mp (Bool.and_eq_true_iff.mp h1).2).1)
    obtain ⟨o, fs, rfl⟩ : ∃ o fs, f = .lst o fs := by
      cases f with
      | lst o fs => exact ⟨o, fs, rfl⟩
      | _ => cases h2
    obtain ⟨rfl, hfs⟩ := frz_lst hf.fr
    obtain ⟨hF, hlen⟩ := hf.parts _ _ rfl
    have hi : initAt (.int x) (.int y) (.lst false fs) = firstWrong (x, y) fs := by
      unfold initAt
      rw [if_pos h1]
    unfold InitR at hR
    rw [hi] at hR
    have call : EvS K (tCall (spF K R_first_wrong_fold) [] E0 (tCons (tVar 1) (tCons (tVar 2) (tCons (tVar 3) tNil)))) (envI ["self", "rows", "columns", "folds", "at", "edge", "many", "way"] a T.A_Scheme [.int x, .int y, .lst false fs]) (optD (firstWrong (x, y) fs)) :=
      ev_fn (ds := [.int x, .int y, .lst false fs]) (ea_cons (ev_var rfl rfl) (ea_cons (ev_var rfl rfl) (ea_cons (ev_var rfl rfl) ea_nil))) ⟨x, y, fs, by rw [D.frzs_cons, D.frzs_cons, D.frzs_cons, D.frzs_nil, D.frz_sc, D.frz_sc, hf.fr], hF, rfl⟩
    have test : EvT K (tOr (tNot (tTruK K (tCall (spF K R_is_size) [] E0 (tCons (tVar 1) (tCons (tVar 2) tNil))))) (tNot (tTruK K (tCB (rIsis K) (tCons (tVar 3) (tCons (tC (.ty "list")) tNil)))))) (envI ["self", "rows", "columns", "folds", "at", "edge", "many", "way"] a T.A_Scheme [.int x, .int y, .lst false fs]) false := by
      have := et_or (et_not size) fun _ => et_not lst
      rw [h1, h2] at this
      exact this
    cases hw : firstWrong (x, y) fs with
    | some k =>
      rw [hw] at hR call
      have hR : res = .er T.A_BadScheme (fsAt k) := hR
      subst hR
      obtain ⟨k1, k2⟩ := firstWrong_le hw
      refine ⟨.er T.A_BadScheme (fsAt k) [some (.ins (.at a) T.A_Scheme [] []), some (.int x), some (.int y), some (.lst false fs), some (.int k), none, none, none], ?_, _, rfl⟩
      refine run_seq_if test (fun h => nomatch h) fun _ => run_skip (run_seq (run_asg call) (run_seq_if (b := !isNo (.int k)) (et_test (ev_op (ev_var (d := D.int k) rfl rfl) ev_c isn_no)) (fun _ => run_seq_er (run_raise (bad (ev_var rfl rfl) (by omega) (by omega)))) fun h => nomatch h))
    | none =>
      rw [hw] at hR call
      obtain ⟨x', y', fs', ex, ey, ef, rfl⟩ := hR
      cases ex
      cases ey
      cases ef
      have hall := all_fold (firstWrong_none hw).1
      have form : ∀ z ∈ fs, ∃ e m w, z = .tup false [.str e, .int m, .str w] := fun z hz => by
        obtain ⟨o, e, m, w, rfl, _⟩ := isFold_form (hall z hz)
        obtain ⟨rfl, _⟩ := frz_tup (hF _ hz).fr
        exact ⟨e, m, w, rfl⟩
      refine ⟨.nx _, run_seq_if test (fun h => nomatch h) fun _ => run_skip (run_seq (run_asg call) (run_seq_if (b := !isNo .non) (et_test (ev_op (ev_var (d := D.non) rfl rfl) ev_c isn_no)) (fun h => nomatch h) fun _ => run_skip
        (run_seq (run_setf rfl rfl (ev_var (d := D.int x) rfl rfl) T.cl_Scheme T.na_Scheme__rows (show 0 < 1000 by decide))
          (run_seq (run_setf rfl rfl (ev_var (d := D.int y) rfl rfl) T.cl_Scheme T.na_Scheme__columns (show 1 < 1000 by decide))
            (run_setf (d := .tup true (fs.map anew)) rfl rfl ?_ T.cl_Scheme T.na_Scheme__folds (show 2 < 1000 by decide)))))), _, rfl, ?_⟩
      · refine ev_call (ea_cons (ev_lc0 (inj := fun z => z) (ds := fs) (walks_list (by rw [List.map_id']; exact ev_var rfl rfl)) (fun z => match z with
          | .tup _ [e, m, w] => [some (.ins (.at a) T.A_Scheme ["_rows", "_columns"] [.int x, .int y]), some (.int x), some (.int y), some (.lst false fs), some .non, some e, some m, some w]
          | _ => []) anew (by omega) (fun z hz => ?_) (fun z hz => ?_)) ea_nil) tup_lst
        · obtain ⟨e, m, w, rfl⟩ := form z hz
          exact takes_tup rfl (takes_cons (takes_name fun vs e => by cases e; decide) (takes_cons (takes_name fun vs e => by cases e; decide) (takes_cons (takes_name fun vs e => by cases e; decide) takes_nil)))
        · obtain ⟨e, m, w, rfl⟩ := form z hz
          exact ev_tup (ea_cons (ev_var rfl rfl) (ea_cons (ev_var rfl rfl) (ea_cons (ev_var rfl rfl) ea_nil))) (show 3 ≤ 1000000 by decide)
      · rfl
  · have hi : initAt d e f = some 0 := by
      unfold initAt
      split
      · rename_i h1
        split
        · exact absurd ⟨h1, rfl⟩ hs
        · rfl
      · rfl
    unfold InitR at hR
    rw [hi] at hR
    have hR : res = .er T.A_BadScheme (fsAt 0) := hR
    subst hR
    refine ⟨.er T.A_BadScheme (fsAt 0) (envI ["self", "rows", "columns", "folds", "at", "edge", "many", "way"] a T.A_Scheme [d, e, f]), run_seq_if (et_or (et_not size) fun _ => et_not lst) (fun _ => run_seq_er (run_raise (bad ev_c (by decide) (by decide)))) (fun h => ?_), _, rfl⟩
    simp only [Bool.or_eq_false_iff, Bool.not_eq_false'] at h
    exact absurd h hs
end
end K02

namespace K02
open PySem PySem.Spec PyProof.Rows L2 FP
def R__law_refused : List D → D → Prop := fun ds z => ∃ d e f, ds = [d, e, f] ∧ d.frz = d ∧ tyN d ≠ "" ∧ e.frz = e ∧ tyN e ≠ "" ∧ FoldsD f ∧ z = optD (initAt d e f)
theorem init_none {d e f : D} (h : initAt d e f = none) (hf : FoldsD f) : ∃ x y fs, d = .int x ∧ e = .int y ∧ f = .lst false fs := by
  unfold initAt at h
  split at h
  · rename_i h1
    obtain ⟨x, rfl, _, _⟩ := among_form (show among d 1 8 = true from (Bool.and_eq_true_iff.mp h1).1)
    obtain ⟨y, rfl, _, _⟩ := among_form (show among e 1 8 = true from (Bool.and_eq_true_iff.mp (Bool.and_eq_true_iff.mp h1).2).1)
    cases f with
    | lst o fs =>
      obtain ⟨rfl, _⟩ := frz_lst hf.fr
      exact ⟨x, y, fs, rfl, rfl, rfl⟩
    | _ => cases h
  · cases h
theorem fit_txt {s : Str} (h : (PyData.str s).canLay0 = true) : fit 0 (.str s) := h
theorem len__law_refused : ∀ ds z, R__law_refused ds z → ds.length = 3 := by
  unfold R__law_refused
  first
  | exact fun _ _ h => h.elim
  | (rintro ds z ⟨_, rfl, _⟩; rfl)
  | (rintro ds z ⟨_, _, rfl, _⟩; rfl)
  | (rintro ds z ⟨_, _, _, rfl, _⟩; rfl)
  | (rintro ds z ⟨_, _, _, _, rfl, _⟩; rfl)
section
variable {P : Program} {w : World} {K : PySem.W.Frag} {mg : Str → Option Value} {base : Heap}
set_option maxHeartbeats 4000000 in
theorem ok__law_refused (T : Txt K mg) : FnOk P w K mg base CX0 8 T.f__law_refused T.fd__law_refused ["_law_rows", "_law_columns", "_law_folds_here"] (spF K R__law_refused) := by
  refine ok_of (N := ["_law_rows", "_law_columns", "_law_folds_here", "_law_wrong", "e"]) T.F__law_refused sc__law_refused len__law_refused fun cdv A outer s H E hr => ⟨_, (pss_cons (ps_set (i := 3) sc__law_refused.nd rfl (by first | exact Or.inl rfl | exact Or.inr rfl) pe_non)
      (pss_cons (ps_keep (c := .ref T.A_PressError) (i := 4) (j := 3) rfl rfl rfl sc__law_refused.nd rfl rfl ⟨by rfl, by decide, Or.inl T.m_PressError⟩ (fun W pn xe tk _ => (pss_one (ps_expr (pe_makeS T.mk_Scheme (ok_Scheme___init__ T) (hr.mono (by decide)) (by rfl) T.m_Scheme T.b_Scheme___init__ (fun σ => passAt tk σ) (pa_cons (pv 0) (pa_cons (pv 1) (pa_cons (pv 2) pa_nil))))))) (fun a oe pn => pss_one (ps_set (i := 3) sc__law_refused.nd rfl (by first | exact Or.inl rfl | exact Or.inr rfl) (pv 4))))
      (pss_cons (ps_if (pt_cmpR op_iss (pv 3) pe_non (nomark _))
      (pss_one (ps_ret pe_non)) pss_nil)
      (pss_cons (ps_if (PW.pt (pw_or (pt_cmpR (op_neeK (K := K) rfl hr.units) (pe_call (ok__law_kinds T) (hr.mono (by decide)) (by rfl) T.g__law_kinds T.F__law_kinds.kp T.b__law_kinds .nil pass0 (pa_cons (pv 3) pa_nil)) (pe_lst (pa_cons pe_str pa_nil)) (nomark _)) (pw_or1 (pt_truthK (K := K) rfl (pe_callB (call_isisK (K := K) rfl) (by rfl) T.z_isinstance (by decide +kernel) (pa_cons (pe_fldA (K := K) rfl (pv 3)) (pa_cons (pe_bltn (v := .ty "bool") (by rfl) T.z_bool (by decide +kernel) rfl) pa_nil))) (by intro _; rfl)))))
      (pss_one (ps_ret (pe_un un_ng pe_int))) pss_nil)
      (pss_one (ps_ret (pe_fldA (K := K) rfl (pv 3)))))))), ?_⟩
  (try simp only [cxK])
  rintro _ _ ⟨d, e, f, rfl, hd, nd, he, ne, hf, rfl⟩
  refine ⟨.rt (optD (initAt d e f)), ?_, rfl⟩
  have args : ∀ {w : D}, EvA K (tCons (tVar 0) (tCons (tVar 1) (tCons (tVar 2) tNil))) [some d, some e, some f, some w, none] [d, e, f] := fun {w} => ea_cons (ev_var rfl (D.shd_of hd)) (ea_cons (ev_var rfl (D.shd_of he)) (ea_cons (ev_var rfl (D.shd_of hf.fr)) ea_nil))
  have hfr : D.frzs [d, e, f] = [d, e, f] := by rw [D.frzs_cons, D.frzs_cons, D.frzs_cons, D.frzs_nil, hd, he, hf.fr]
  refine run_seq (run_asg (d := .non) ev_c) ?_
  cases hi : initAt d e f with
  | none =>
    obtain ⟨x, y, fs, ex, ey, ef⟩ := init_none hi hf
    refine run_seq (run_keep_ok fun W => run_drop (d := .ins .ow T.A_Scheme schF (schO x y fs)) (ev_make args ?_)) (run_seq_if (b := isNo .non) (et_test (ev_op (ev_var (d := D.non) rfl rfl) ev_c is_no)) (fun _ => run_seq_rt (run_ret ev_c)) fun h => nomatch h)
    rw [hfr]
    refine ⟨d, e, f, rfl, hd, nd, he, ne, hf, ?_⟩
    unfold InitR
    rw [hi]
    exact ⟨x, y, fs, ex, ey, ef, rfl⟩
  | some k =>
    refine run_seq (ρ' := [some d, some e, some f, some (.exc T.A_BadScheme (fsAt k)), none]) (run_keep_er (ρ' := [some d, some e, some f, some .non, none]) (fun W => run_drop_er (evx_make args ?_)) T.ex_BadScheme_PressError) ?_
    · rw [hfr]
      refine ⟨d, e, f, rfl, hd, nd, he, ne, hf, ?_⟩
      unfold InitR
      rw [hi]
    refine run_seq_if (b := isNo (.exc T.A_BadScheme (fsAt k))) (et_test (ev_op (ev_var rfl rfl) ev_c is_no)) (fun h => nomatch h) fun _ => run_skip ?_
    have at_ : EvS K (tFldA K (tVar 3) "at") [some d, some e, some f, some (.exc T.A_BadScheme (fsAt k)), none] (.int k) := ev_efld (C := T.A_BadScheme) (fs := fsAt k) (ev_var rfl rfl) T.xf_BadScheme T.nf_BadScheme_at rfl
    refine run_seq_if (b := false || false) (et_or (et_test (ev_op (x := .lst true [.str "scheme"]) (y := .lst true [.str "scheme"]) (ev_fn (ds := [.exc T.A_BadScheme (fsAt k)]) (ea_cons (ev_var rfl rfl) ea_nil) ⟨T.A_BadScheme, fsAt k, "scheme", rfl, .inr (.inl ⟨rfl, rfl⟩), rfl⟩) (ev_lst (ea_cons ev_c ea_nil) (show 1 ≤ 1000000 by decide)) ?_)) fun _ => ?_) (fun h => nomatch h) fun _ => run_skip (run_ret at_)
    · have hfit : fit 1 (.lst true [.str "scheme"]) := fun x hx => by
        rw [List.mem_singleton.mp hx]
        exact fit_txt (by decide +kernel)
      have := ne_data (K := K) hfit hfit (by decide) (by decide)
      rw [eqD_rfl hfit rfl] at this
      exact this
    · exact et_bl (ev_call (ea_cons at_ (ea_cons ev_c ea_nil)) (isi_ty (d := .int k) (b := "bool") (by show ("int" : String) ≠ ""; decide) (by show kitB "int" "bool" = some false; decide +kernel)))
end
end K02

namespace K02
open PySem PySem.Spec PyProof.Rows L2 FP
def oddL : List D := [.int 0, .int 9, .int (-1), .non, .bl true, .str "2", .lst false [.int 2], .int ((10 : Int) ^ (30 : Int).toNat), .dK false [] []]
def R__law_sizes_refused : List D → D → Prop := fun ds z => ∃ (n r c : Int) (fs : List D), ds = [.int n, .int r, .int c, .lst false fs] ∧ 0 ≤ n ∧ SizeOk (r, c) ∧ FoldsD (.lst false fs) ∧ z = .bl true
theorem len__law_sizes_refused : ∀ ds z, R__law_sizes_refused ds z → ds.length = 4 := by
  rintro _ _ ⟨_, _, _, _, rfl, _⟩
  rfl
theorem odd_ok : ∀ d ∈ oddL, d.frz = d ∧ tyN d ≠ "" ∧ among d 1 8 = false := fun d hd => by
  simp only [oddL, List.mem_cons, List.not_mem_nil, or_false] at hd
  rcases hd with rfl | rfl | rfl | rfl | rfl | rfl | rfl | rfl | rfl
  · exact ⟨rfl, (by show ("int" : String) ≠ ""; decide), by decide⟩
  · exact ⟨rfl, (by show ("int" : String) ≠ ""; decide), by decide⟩
  · exact ⟨rfl, (by show ("int" : String) ≠ ""; decide), by decide⟩
  · exact ⟨rfl, (by show ("NoneType" : String) ≠ ""; decide), rfl⟩
  · exact ⟨rfl, (by show ("bool" : String) ≠ ""; decide), rfl⟩
  · exact ⟨rfl, (by show ("str" : String) ≠ ""; decide), rfl⟩
  · exact ⟨rfl, (by show ("list" : String) ≠ ""; decide), rfl⟩
  · refine ⟨rfl, (by show ("int" : String) ≠ ""; decide), ?_⟩
    show (decide ((1 : Int) ≤ 10 ^ (30 : Int).toNat) && decide ((10 : Int) ^ (30 : Int).toNat ≤ 8)) = false
    decide +kernel
  · exact ⟨rfl, (by show ("dict" : String) ≠ ""; decide), rfl⟩
theorem init_size {d e f : D} (h : isSize d e = false) : initAt d e f = some 0 := by
  unfold initAt
  rw [h]
  rfl
theorem init_list {d e f : D} (h : isLst f = false) : initAt d e f = some 0 := by
  unfold initAt
  split
  · split
    · cases h
    · rfl
  · rfl
section
variable {P : Program} {w : World} {K : PySem.W.Frag} {mg : Str → Option Value} {base : Heap}
set_option maxHeartbeats 4000000 in
theorem ok__law_sizes_refused (T : Txt K mg) : FnOk P w K mg base CX0 9 T.f__law_sizes_refused T.fd__law_sizes_refused ["_law_number", "_law_rows", "_law_columns", "_law_folds_here"] (spF K R__law_sizes_refused) := by
  refine ok_of (N := ["_law_number", "_law_rows", "_law_columns", "_law_folds_here", "_law_odd", "_law_other"]) T.F__law_sizes_refused sc__law_sizes_refused len__law_sizes_refused fun cdv A outer s H E hr => ⟨_, (pss_cons (ps_set (i := 4) sc__law_sizes_refused.nd rfl (by first | exact Or.inl rfl | exact Or.inr rfl) (pe_ix (ix_seqK (K := K) rfl) (pe_lst (pa_cons pe_int (pa_cons pe_int (pa_cons (pe_un un_ng pe_int) (pa_cons pe_non (pa_cons pe_bl (pa_cons pe_str (pa_cons (pe_lst (pa_cons pe_int pa_nil)) (pa_cons (pe_op op_pw pe_int pe_int) (pa_cons pe_dnewK pa_nil)))))))))) (pe_op op_md (pv 0) pe_int) (fun _ _ => rfl)))
      (pss_cons (ps_if (PW.pt (pw_or (pt_cmpR (op_neeK (K := K) rfl hr.units) (pe_call (ok__law_refused T) (hr.mono (by decide)) (by rfl) T.g__law_refused T.F__law_refused.kp T.b__law_refused .nil pass0 (pa_cons (pv 4) (pa_cons (pv 2) (pa_cons (pv 3) pa_nil)))) pe_int (nomark _)) (pw_or1 (pt_cmpR (op_neeK (K := K) rfl hr.units) (pe_call (ok__law_refused T) (hr.mono (by decide)) (by rfl) T.g__law_refused T.F__law_refused.kp T.b__law_refused .nil pass0 (pa_cons (pv 1) (pa_cons (pv 4) (pa_cons (pv 3) pa_nil)))) pe_int (nomark _)))))
      (pss_one (ps_ret pe_bl)) pss_nil)
      (pss_cons (ps_set (i := 5) sc__law_sizes_refused.nd rfl (by first | exact Or.inl rfl | exact Or.inr rfl) (pe_ix (ix_seqK (K := K) rfl) (pe_lst (pa_cons (pe_callTy (call_tupOfK (K := K) rfl) (by rfl) T.z_tuple (by decide +kernel) (pa_cons (pv 3) pa_nil)) (pa_cons pe_non (pa_cons pe_dnewK (pa_cons pe_str (pa_cons pe_int pa_nil)))))) (pe_op op_md (pe_op op_fd (pv 0) pe_int) pe_int) (fun _ _ => rfl)))
      (pss_one (ps_ret (pe_andTK (K := K) rfl (pe_cmpR (op_eqqK (K := K) rfl hr.units) (pe_call (ok__law_refused T) (hr.mono (by decide)) (by rfl) T.g__law_refused T.F__law_refused.kp T.b__law_refused .nil pass0 (pa_cons (pv 1) (pa_cons (pv 2) (pa_cons (pv 5) pa_nil)))) pe_int (nomark _)) (pe_one (pe_cmpR (op_eqqK (K := K) rfl hr.units) (pe_call (ok__law_refused T) (hr.mono (by decide)) (by rfl) T.g__law_refused T.F__law_refused.kp T.b__law_refused .nil pass0 (pa_cons pe_int (pa_cons pe_int (pa_cons (pv 3) pa_nil)))) pe_int (nomark _))))))))), ?_⟩
  (try simp only [cxK])
  rintro _ _ ⟨n, r, c, fs, rfl, n0, hS, hF, rfl⟩
  refine ⟨.rt (.bl true), ?_, rfl⟩
  obtain ⟨j, hj, hj9⟩ : ∃ j : Nat, n % 9 = (j : Nat) ∧ j < 9 := ⟨(n % 9).toNat, by omega, by omega⟩
  obtain ⟨od, hod⟩ : ∃ d, oddL[j]? = some d := ⟨oddL[j]'(by show j < 9; exact hj9), List.getElem?_eq_getElem _⟩
  obtain ⟨o1, o2, o3⟩ := odd_ok od (List.mem_of_getElem? hod)
  have i1 : tyN (.int r) ≠ "" := by show ("int" : String) ≠ ""; decide
  have i2 : tyN (.int c) ≠ "" := by show ("int" : String) ≠ ""; decide
  have s1 : isSize od (.int c) = false := by unfold isSize; rw [o3]; rfl
  have s2 : isSize (.int r) od = false := by unfold isSize; rw [o3, Bool.false_and, Bool.and_false]
  refine run_seq (run_asg (d := od) ?_) ?_
  · refine ev_op (x := .lst false oddL) (y := .int (n % 9)) (ev_frz (d := .lst true [.int 0, .int 9, .int (-1), .non, .bl true, .str "2", .lst true [.int 2], .int ((10 : Int) ^ (30 : Int).toNat), .dK true [] []])
      (ev_lst (ea_cons ev_c (ea_cons ev_c (ea_cons (ev_un ev_c ng_int) (ea_cons ev_c (ea_cons ev_c (ea_cons ev_c (ea_cons (ev_lst (ea_cons ev_c ea_nil) (show 1 ≤ 1000000 by decide)) (ea_cons (ev_op ev_c ev_c (pw_int ⟨by decide, by decide, by decide⟩)) (ea_cons ev_dnew ea_nil))))))))) (show 9 ≤ 1000000 by decide)))
      (ev_op (ev_var rfl rfl) ev_c (md_int (by decide))) (ix_lst (atI_of hod hj))
  have call : ∀ {a b e : TE} {x y w : D} {ρ : FP.Env}, EvS K a ρ x → EvS K b ρ y → EvS K e ρ w → x.frz = x → tyN x ≠ "" → y.frz = y → tyN y ≠ "" → FoldsD w → initAt x y w = some 0 → EvS K (tCall (spF K R__law_refused) [] E0 (tCons a (tCons b (tCons e tNil)))) ρ (.int 0) := fun h1 h2 h3 f1 t1 f2 t2 f3 hi =>
    ev_fn (ea_cons h1 (ea_cons h2 (ea_cons h3 ea_nil))) ⟨_, _, _, by rw [D.frzs_cons, D.frzs_cons, D.frzs_cons, D.frzs_nil, f1, f2, f3.fr], f1, t1, f2, t2, f3, by rw [hi]; rfl⟩
  refine run_seq_if (b := (!decide ((0 : Int) = 0)) || (!decide ((0 : Int) = 0))) (et_or (et_test (ev_op (call (ev_var rfl (D.shd_of o1)) (ev_var rfl rfl) (ev_var rfl rfl) o1 o2 rfl i2 hF (init_size s1)) ev_c ne_int')) fun _ => et_test (ev_op (call (ev_var rfl rfl) (ev_var rfl (D.shd_of o1)) (ev_var rfl rfl) rfl i1 o1 o2 hF (init_size s2)) ev_c ne_int')) (fun h => by simp at h) fun _ => run_skip ?_
  -- the other things
  let othL : List D := [.tup false fs, .non, .dK false [] [], .str "folds", .int 7]
  obtain ⟨j2, hj2, hj5⟩ : ∃ j : Nat, n / 9 % 5 = (j : Nat) ∧ j < 5 := ⟨(n / 9 % 5).toNat, by omega, by omega⟩
  obtain ⟨ot, hot⟩ : ∃ d, othL[j2]? = some d := ⟨othL[j2]'(by show j2 < 5; exact hj5), List.getElem?_eq_getElem _⟩
  obtain ⟨p1, p2⟩ : FoldsD ot ∧ isLst ot = false := by
    have hm := List.mem_of_getElem? hot
    simp only [othL, List.mem_cons, List.not_mem_nil, or_false] at hm
    rcases hm with rfl | rfl | rfl | rfl | rfl
    · exact ⟨⟨by rw [D.frz, (frz_lst hF.fr).2], (by show ("tuple" : String) ≠ ""; decide), fun _ _ e => nomatch e⟩, rfl⟩
    · exact ⟨⟨rfl, (by show ("NoneType" : String) ≠ ""; decide), fun _ _ e => nomatch e⟩, rfl⟩
    · exact ⟨⟨rfl, (by show ("dict" : String) ≠ ""; decide), fun _ _ e => nomatch e⟩, rfl⟩
    · exact ⟨⟨rfl, (by show ("str" : String) ≠ ""; decide), fun _ _ e => nomatch e⟩, rfl⟩
    · exact ⟨⟨rfl, (by show ("int" : String) ≠ ""; decide), fun _ _ e => nomatch e⟩, rfl⟩
  refine run_seq (run_asg (d := ot) ?_) ?_
  · refine ev_op (x := .lst false othL) (y := .int (n / 9 % 5)) ?_ (ev_op (ev_op (ev_var rfl rfl) ev_c (fd_int ⟨by decide, by decide⟩)) ev_c (md_int (by decide))) (ix_lst (atI_of hot hj2))
    have e1 : D.lst false othL = (D.lst true [.tup true fs, .non, .dK true [] [], .str "folds", .int 7]).frz := by
      rw [D.frz, D.frzs_cons, D.frz, (frz_lst hF.fr).2]
      rfl
    rw [e1]
    exact ev_frz (ev_lst (ea_cons (ev_call (ea_cons (ev_var (d := .lst false fs) rfl rfl) ea_nil) tup_lst) (ea_cons ev_c (ea_cons ev_dnew (ea_cons ev_c (ea_cons ev_c ea_nil))))) (show 5 ≤ 1000000 by decide))
  have s57 : isSize (.int 5) (.int 7) = false := by decide
  have i5 : ∀ k : Int, tyN (.int k) ≠ "" := fun k => by show ("int" : String) ≠ ""; decide
  refine run_ret (ev_andT (d := .bl (decide ((0 : Int) = 0))) (ev_op (call (ev_var rfl rfl) (ev_var rfl rfl) (ev_var rfl (D.shd_of p1.fr)) rfl i1 rfl i2 p1 (init_list p2)) ev_c eq_int') True.intro (fun _ => ?_) (fun h => by revert h; show decide ((0 : Int) = 0) = false → _; intro h; simp at h))
  have := ev_op (K := K) (call (ev_c (v := .int 5)) (ev_c (v := .int 7)) (ev_var (ρ := [some (.int n), some (.int r), some (.int c), some (.lst false fs), some od, some ot]) (i := 3) rfl rfl) rfl (i5 5) rfl (i5 7) hF (init_size s57)) (ev_c (v := .int 0)) eq_int'
  exact this
end
end K02

namespace K02
open PySem PySem.Spec PyProof.Rows L2 FP
theorem tD_ok (t : Tri) : FoldD (tD t) where
  fr := rfl
  ty := by show ("tuple" : String) ≠ ""; decide
  parts := fun o es e x hx => by
    cases e
    simp only [List.mem_cons, List.not_mem_nil, or_false] at hx
    rcases hx with rfl | rfl | rfl
    · show ("str" : String) ≠ ""; decide
    · show ("int" : String) ≠ ""; decide
    · show ("str" : String) ≠ ""; decide
theorem szAft_lev {p : Int × Int} {e : Str} {m : Int} {w : D} (he : e ∈ LEV) : szAft p (.tup false [.str e, .int m, w]) = if isFold (.tup false [.str e, .int m, w]) = true then (if 2 * m ≤ p.1 then some (p.1 - m, p.2) else none) else none := by
  unfold szAft
  split
  · show (if e ∈ LEV then (if 2 * m ≤ p.1 then some (p.1 - m, p.2) else none) else _) = _
    rw [if_pos he]
  · rfl
theorem szAft_col {p : Int × Int} {e : Str} {m : Int} {w : D} (he : e ∉ LEV) : szAft p (.tup false [.str e, .int m, w]) = if isFold (.tup false [.str e, .int m, w]) = true then (if 2 * m ≤ p.2 then some (p.1, p.2 - m) else none) else none := by
  unfold szAft
  split
  · show (if e ∈ LEV then _ else if 2 * m ≤ p.2 then some (p.1, p.2 - m) else none) = _
    rw [if_neg he]
  · rfl
theorem edge_cases (p : Int × Int) (own : Int) : (lvlK p own = true ∧ (edgeK p own = "top" ∨ edgeK p own = "bottom")) ∨ (lvlK p own = false ∧ (edgeK p own = "left" ∨ edgeK p own = "right")) := by
  unfold edgeK
  cases lvlK p own with
  | true =>
    refine .inl ⟨rfl, ?_⟩
    rw [if_pos rfl]
    split
    · exact .inl rfl
    · exact .inr rfl
  | false =>
    refine .inr ⟨rfl, ?_⟩
    rw [if_neg (by decide)]
    split
    · exact .inl rfl
    · exact .inr rfl
theorem way_cases (own : Int) : wayK own = "over" ∨ wayK own = "under" := by
  unfold wayK
  split
  · exact .inl rfl
  · exact .inr rfl
theorem isFold_tD {e w : Str} {m : Int} (h1 : e ∈ EDG) (h2 : 1 ≤ m) (h3 : w ∈ WYS) : isFold (.tup false [.str e, .int m, .str w]) = true := by
  show (decide (e ∈ EDG) && (decide (1 ≤ m) && decide (w ∈ WYS))) = true
  rw [decide_eq_true h1, decide_eq_true h2, decide_eq_true h3]
  rfl
theorem step_ok {p : Int × Int} {own : Int} (h1 : 1 ≤ p.1) (h2 : 1 ≤ p.2) (hne : p ≠ (1, 1)) : szAft p (tD (edgeK p own, manyK p own, wayK own)) = some (nextK p own) := by
  obtain ⟨m1, m2⟩ := many_ok (own := own) h1 h2 hne
  have hw : wayK own ∈ WYS := by rcases way_cases own with e | e <;> rw [e] <;> decide +kernel
  rcases edge_cases p own with ⟨hl, he⟩ | ⟨hl, he⟩
  · have hE : edgeK p own ∈ EDG := by rcases he with e | e <;> rw [e] <;> decide +kernel
    have hL : edgeK p own ∈ LEV := by rcases he with e | e <;> rw [e] <;> decide +kernel
    have hs : sideK p own = p.1 := by unfold sideK; rw [if_pos hl]
    have := szAft_lev (p := p) (m := manyK p own) (w := .str (wayK own)) hL
    rw [if_pos (isFold_tD hE m1 hw), if_pos (by omega)] at this
    unfold nextK
    rw [if_pos hl]
    exact this
  · have hE : edgeK p own ∈ EDG := by rcases he with e | e <;> rw [e] <;> decide +kernel
    have hL : edgeK p own ∉ LEV := by rcases he with e | e <;> rw [e] <;> decide +kernel
    have hs : sideK p own = p.2 := by unfold sideK; rw [if_neg (by rw [hl]; decide)]
    have := szAft_col (p := p) (m := manyK p own) (w := .str (wayK own)) hL
    rw [if_pos (isFold_tD hE m1 hw), if_pos (by omega)] at this
    unfold nextK
    rw [if_neg (by rw [hl]; decide)]
    exact this
theorem leftP_next {p : Int × Int} {own : Int} : leftP p (edgeK p own, manyK p own, wayK own) = nextK p own := by
  unfold leftP nextK
  rcases edge_cases p own with ⟨hl, he⟩ | ⟨hl, he⟩
  · rw [if_pos hl, if_neg (by rcases he with e | e <;> (show edgeK p own ∉ _; rw [e]; decide +kernel))]
  · rw [if_neg (show ¬ lvlK p own = true by rw [hl]; decide), if_pos (by rcases he with e | e <;> (show edgeK p own ∈ _; rw [e]; decide +kernel))]
theorem chain : ∀ (ds : List D) (p : Int × Int) (q : Nat → Int × Int) (m : Nat), q 0 = p → (∀ k, k < m → ∃ d, ds[k]? = some d ∧ szAft (q k) d = some (q (k + 1))) → m ≤ good p ds ∧ ∀ k, k ≤ m → szAt p ds k = q k
  | [], p, q, m, h0, h => by
    have hm : m = 0 := by
      cases m with
      | zero => rfl
      | succ m =>
        obtain ⟨d, hd, _⟩ := h 0 (Nat.succ_pos m)
        cases hd
    subst hm
    exact ⟨Nat.zero_le _, fun k hk => by
      obtain rfl : k = 0 := by omega
      rw [h0]
      rfl⟩
  | d :: ds, p, q, 0, h0, h => ⟨Nat.zero_le _, fun k hk => by
      obtain rfl : k = 0 := by omega
      rw [h0]
      rfl⟩
  | d :: ds, p, q, m + 1, h0, h => by
    obtain ⟨d', hd, hs⟩ := h 0 (Nat.succ_pos m)
    cases hd
    rw [h0] at hs
    obtain ⟨a, b⟩ := chain ds (q 1) (fun k => q (k + 1)) m rfl fun k hk => by
      obtain ⟨e, he, hz⟩ := h (k + 1) (Nat.succ_lt_succ hk)
      exact ⟨e, by simpa using he, hz⟩
    refine ⟨?_, fun k hk => ?_⟩
    · rw [good, hs]
      exact Nat.succ_le_succ a
    · cases k with
      | zero => rw [h0]; rfl
      | succ k =>
        rw [szAt, hs]
        exact b k (Nat.le_of_succ_le_succ hk)
theorem good_app {b : D} {post : List D} : ∀ (pre : List D) (p : Int × Int), good p pre = pre.length → szAft (szAt p pre pre.length) b = none → good p (pre ++ b :: post) = pre.length
  | [], p, _, hb => by
    have hb : szAft p b = none := hb
    show good p (b :: post) = 0
    rw [good, hb]
  | d :: ds, p, h, hb => by
    cases e : szAft p d with
    | none =>
      rw [good, e] at h
      cases h
    | some q =>
      rw [good, e] at h
      have h2 : good q ds = ds.length := Nat.succ.inj h
      have hb2 : szAft (szAt q ds ds.length) b = none := by
        have : szAt p (d :: ds) (ds.length + 1) = szAt q ds ds.length := by rw [szAt, e]
        rw [← this]
        exact hb
      show good p (d :: (ds ++ b :: post)) = ds.length + 1
      rw [good, e]
      exact congrArg (· + 1) (good_app ds q h2 hb2)
theorem fw_bad {p : Int × Int} {pre post : List D} {b : D} (h : good p pre = pre.length) (hb : szAft (szAt p pre pre.length) b = none) : firstWrong p (pre ++ b :: post) = some (((pre.length : Nat) : Int) + 1) := by
  unfold firstWrong
  have hlt : pre.length < (pre ++ b :: post).length := by rw [List.length_append, List.length_cons]; omega
  rw [good_app pre p h hb, if_pos hlt]
theorem fw_short {p : Int × Int} {pre : List D} (h : good p pre = pre.length) (hne : szAt p pre pre.length ≠ (1, 1)) : firstWrong p pre = some (((pre.length : Nat) : Int) + 1) := by
  unfold firstWrong
  rw [h, if_neg (Nat.lt_irrefl _), if_neg hne]
theorem fw_good {p : Int × Int} {pre : List D} (h : good p pre = pre.length) (he : szAt p pre pre.length = (1, 1)) : firstWrong p pre = none := by
  unfold firstWrong
  rw [h, if_neg (Nat.lt_irrefl _), if_pos he]
/-- the first j folds -/
abbrev foldsJ (p : Int × Int) (cells : List Int) (n : Int) (j : Nat) : List D := (trs p cells n j).map tD
theorem foldsJ_len (p : Int × Int) (cells : List Int) (n : Int) (j : Nat) : (foldsJ p cells n j).length = j := by simp [foldsJ, trs]
theorem foldsJ_take {p : Int × Int} {cells : List Int} {n : Int} {j N : Nat} (h : j ≤ N) : (foldsJ p cells n N).take j = foldsJ p cells n j := by
  unfold foldsJ trs
  rw [← List.map_take, ← List.map_take, List.take_range, Nat.min_eq_left h]
theorem foldsJ_good {p : Int × Int} {cells : List Int} {n : Int} {N j : Nat} (hj : j ≤ N) (hg : ∀ k, k < N → psK p cells n k ≠ (1, 1) ∧ 1 ≤ (psK p cells n k).1 ∧ 1 ≤ (psK p cells n k).2) :
    good p (foldsJ p cells n j) = (foldsJ p cells n j).length ∧ szAt p (foldsJ p cells n j) (foldsJ p cells n j).length = psK p cells n j := by
  obtain ⟨a, b⟩ := chain (foldsJ p cells n j) p (psK p cells n) j rfl fun k hk => by
    obtain ⟨h1, h2, h3⟩ := hg k (Nat.lt_of_lt_of_le hk hj)
    refine ⟨tD (trK p cells n k), ?_, step_ok h2 h3 h1⟩
    unfold foldsJ trs
    rw [List.getElem?_map, List.getElem?_map, List.getElem?_range hk]
    rfl
  have hl := foldsJ_len p cells n j
  exact ⟨Nat.le_antisymm good_le (by rw [hl]; exact a), by rw [hl]; exact b j (Nat.le_refl _)⟩
theorem left_ps {p : Int × Int} {cells : List Int} {n : Int} (j : Nat) : (trs p cells n j).foldl leftP p = psK p cells n j := by
  induction j with
  | zero => rfl
  | succ j ih =>
    have e : trs p cells n (j + 1) = trs p cells n j ++ [trK p cells n j] := by simp [trs, List.range_succ]
    rw [e, List.foldl_append, ih]
    exact leftP_next
theorem foldsD_of {fs : List D} (h : ∀ x ∈ fs, FoldD x) (hl : fs.length ≤ 1000) : FoldsD (.lst false fs) where
  fr := by rw [D.frz, frzs_fold h]
  ty := by show ("list" : String) ≠ ""; decide
  parts := fun o xs e => by
    cases e
    exact ⟨h, hl⟩
theorem foldsJ_fold {p : Int × Int} {cells : List Int} {n : Int} {j : Nat} : ∀ x ∈ foldsJ p cells n j, FoldD x := fun x hx => by
  obtain ⟨t, _, rfl⟩ := List.mem_map.mp hx
  exact tD_ok t
theorem foldD_tup {es : List D} (h : D.frzs es = es) (hp : ∀ e ∈ es, tyN e ≠ "") : FoldD (.tup false es) where
  fr := by rw [D.frz, h]
  ty := by show ("tuple" : String) ≠ ""; decide
  parts := fun o xs e => by
    cases e
    exact hp
theorem ty3 {a b c : D} (h1 : tyN a ≠ "") (h2 : tyN b ≠ "") (h3 : tyN c ≠ "") : ∀ e ∈ [a, b, c], tyN e ≠ "" := fun e he => by
  simp only [List.mem_cons, List.not_mem_nil, or_false] at he
  rcases he with rfl | rfl | rfl <;> assumption
theorem tyS (s : Str) : tyN (.str s) ≠ "" := by show ("str" : String) ≠ ""; decide
theorem tyI (i : Int) : tyN (.int i) ≠ "" := by show ("int" : String) ≠ ""; decide
theorem tyB (i : Bool) : tyN (.bl i) ≠ "" := by show ("bool" : String) ≠ ""; decide
theorem tyL (o : Bool) (i : List D) : tyN (.lst o i) ≠ "" := by show ("list" : String) ≠ ""; decide
theorem szAft_not {p : Int × Int} {d : D} (h : isFold d = false) : szAft p d = none := by
  unfold szAft
  rw [if_neg (by rw [h]; decide)]
theorem szAft_lev0 {p : Int × Int} {e : Str} {m : Int} {w : D} (he : e ∈ LEV) (h : ¬ 2 * m ≤ p.1) : szAft p (.tup false [.str e, .int m, w]) = none := by
  rw [szAft_lev he, if_neg h]
  split <;> rfl
theorem szAft_col0 {p : Int × Int} {e : Str} {m : Int} {w : D} (he : e ∉ LEV) (h : ¬ 2 * m ≤ p.2) : szAft p (.tup false [.str e, .int m, w]) = none := by
  rw [szAft_col he, if_neg h]
  split <;> rfl
theorem bad_ok {p : Int × Int} (h1 : 1 ≤ p.1 ∧ p.1 ≤ 8) (h2 : 1 ≤ p.2 ∧ p.2 ≤ 8) : ∀ b ∈ badL p.1 p.2, FoldD b ∧ szAft p b = none := fun b hb => by
  simp only [badL, List.mem_cons, List.not_mem_nil, or_false] at hb
  rcases hb with rfl | rfl | rfl | rfl | rfl | rfl | rfl | rfl | rfl | rfl | rfl | rfl | rfl | rfl | rfl
  · exact ⟨foldD_tup rfl (ty3 (tyS _) (tyI _) (tyS _)), szAft_col0 (by decide +kernel) (by omega)⟩
  · exact ⟨foldD_tup rfl (ty3 (tyS _) (tyI _) (tyS _)), szAft_col0 (by decide +kernel) (by omega)⟩
  · exact ⟨foldD_tup rfl (ty3 (tyS _) (tyI _) (tyS _)), szAft_lev0 (by decide +kernel) (by omega)⟩
  · exact ⟨foldD_tup rfl (ty3 (tyS _) (tyI _) (tyS _)), szAft_lev0 (by decide +kernel) (by omega)⟩
  · exact ⟨foldD_tup rfl (ty3 (tyS _) (tyI _) (tyS _)), szAft_not (by decide +kernel)⟩
  · exact ⟨foldD_tup rfl (ty3 (tyS _) (tyI _) (tyS _)), szAft_not (by decide +kernel)⟩
  · exact ⟨foldD_tup rfl (ty3 (tyS _) (tyI _) (tyS _)), szAft_not (by decide +kernel)⟩
  · exact ⟨foldD_tup rfl (ty3 (tyS _) (tyI _) (tyS _)), szAft_not (by decide +kernel)⟩
  · refine ⟨foldD_tup rfl (fun e he => ?_), szAft_not rfl⟩
    simp only [List.mem_cons, List.not_mem_nil, or_false] at he
    rcases he with rfl | rfl
    · exact tyS _
    · exact tyI _
  · exact ⟨⟨rfl, tyL _ _, fun _ _ e => nomatch e⟩, szAft_not rfl⟩
  · exact ⟨foldD_tup rfl (ty3 (tyS _) (tyB _) (tyS _)), szAft_not (by decide +kernel)⟩
  · exact ⟨⟨rfl, (by show ("NoneType" : String) ≠ ""; decide), fun _ _ e => nomatch e⟩, szAft_not rfl⟩
  · exact ⟨foldD_tup rfl (ty3 (tyS _) (tyS _) (tyS _)), szAft_not (by decide +kernel)⟩
  · exact ⟨foldD_tup rfl (ty3 (tyL _ _) (tyI _) (tyS _)), szAft_not rfl⟩
  · refine ⟨foldD_tup rfl (ty3 (tyS _) (tyI _) (tyS _)), szAft_lev0 (by decide +kernel) ?_⟩
    have : (8 : Int) < (10 : Int) ^ (30 : Int).toNat := by decide +kernel
    omega
theorem cut_to {α : Type} {ds : List α} {i : Int} {j : Nat} (hi : i = (j : Nat)) (h : j ≤ ds.length) : cutX ds none (some i) = ds.take j := by
  subst hi
  unfold cutX
  rw [HT.sIx_none, HT.sIx_nat, List.drop_zero, Nat.sub_zero, Nat.min_eq_left h]
theorem cut_from {α : Type} {ds : List α} {i : Int} {j : Nat} (hi : i = (j : Nat)) : cutX ds (some i) none = ds.drop j := by
  subst hi
  unfold cutX
  rw [HT.sIx_none, HT.sIx_nat]
  by_cases h : j ≤ ds.length
  · rw [Nat.min_eq_left h]
    exact List.take_of_length_le (by rw [List.length_drop]; omega)
  · rw [Nat.min_eq_right (by omega), List.drop_of_length_le (i := j) (by omega), List.drop_of_length_le (Nat.le_refl _), Nat.sub_self]
    rfl
theorem init_fw {p : Int × Int} {fs : List D} (h : SizeOk p) : initAt (.int p.1) (.int p.2) (.lst false fs) = firstWrong p fs := by
  unfold initAt
  have : isSize (.int p.1) (.int p.2) = true := by
    show ((decide (1 ≤ p.1) && decide (p.1 ≤ 8)) && ((decide (1 ≤ p.2) && decide (p.2 ≤ 8)) && decide (p.1 * p.2 ≤ 32))) = true
    rw [decide_eq_true h.r1, decide_eq_true h.r8, decide_eq_true h.c1, decide_eq_true h.c8, decide_eq_true h.rc]
    rfl
  rw [if_pos this]
theorem fit_tD (p : Int × Int) (own : Int) (m : Int) : fit 1 (tD (edgeK p own, m, wayK own)) := fun x hx => by
  simp only [List.mem_cons, List.not_mem_nil, or_false] at hx
  rcases hx with rfl | rfl | rfl
  · show (PyData.str (edgeK p own)).canLay0 = true
    rcases edge_cases p own with ⟨_, e | e⟩ | ⟨_, e | e⟩ <;> rw [e] <;> decide +kernel
  · exact True.intro
  · show (PyData.str (wayK own)).canLay0 = true
    rcases way_cases own with e | e <;> rw [e] <;> decide +kernel
theorem anew_closed {fs : List D} (h : ∀ z ∈ fs, ∃ e m w, z = .tup false [.str e, .int m, .str w]) : D.closeds (fs.map anew) = true := by
  induction fs with
  | nil => rfl
  | cons z fs ih =>
    obtain ⟨e, m, w, rfl⟩ := h z List.mem_cons_self
    rw [List.map_cons, D.closeds, ih fun z hz => h z (List.mem_cons_of_mem _ hz)]
    rfl
theorem frzL (o : Bool) (ds : List D) : (D.lst o ds).frz = .lst false (D.frzs ds) := by rw [D.frz]
theorem frzT (o : Bool) (ds : List D) : (D.tup o ds).frz = .tup false (D.frzs ds) := by rw [D.frz]
theorem frzI (o : Fl) (C : Addr) (f : List Str) (ds : List D) : (D.ins o C f ds).frz = .ins .sh C f (D.frzs ds) := by rw [D.frz]
def R_law : List D → D → Prop := fun ds z => ∃ ns : List Int, ds = [.lst false (ns.map D.int)] ∧ ns.length ≤ 63 ∧ z = .bl true
theorem len_law : ∀ ds z, R_law ds z → ds.length = 1 := by
  unfold R_law
  first
  | exact fun _ _ h => h.elim
  | (rintro ds z ⟨_, rfl, _⟩; rfl)
  | (rintro ds z ⟨_, _, rfl, _⟩; rfl)
  | (rintro ds z ⟨_, _, _, rfl, _⟩; rfl)
  | (rintro ds z ⟨_, _, _, _, rfl, _⟩; rfl)
section
variable {P : Program} {w : World} {K : PySem.W.Frag} {mg : Str → Option Value} {base : Heap}
set_option maxHeartbeats 4000000 in
theorem ok_law (T : Txt K mg) : FnOk P w K mg base CX0 11 T.f_law T.fd_law ["_law_script"] (spF K R_law) := by
  refine ok_of (N := ["_law_script", "_law_whole", "_law_handed", "_law_scheme_here", "_law_turn", "_law_rows", "_law_columns", "_law_folds_here", "_law_told", "_law_number", "_law_at", "_law_left_here", "_law_bad"]) T.F_law sc_law len_law fun cdv A outer s H E hr => ⟨_, (pss_cons (ps_set (i := 1) sc_law.nd rfl (by first | exact Or.inl rfl | exact Or.inr rfl) (pe_op (op_plusK (K := K) rfl) (pe_callB (cr_sumK (K := K) rfl rfl) (by rfl) T.z_sum (by decide +kernel) (pa_cons (pv 0) pa_nil)) (pe_callB (call_lennK (K := K) rfl) (by rfl) T.z_len (by decide +kernel) (pa_cons (pv 0) pa_nil))))
      (pss_cons (ps_asg (pe_call (ok__law_scheme T) (hr.mono (by decide)) (by rfl) T.g__law_scheme T.F__law_scheme.kp T.b__law_scheme .nil pass0 (pa_cons (pv 0) (pa_cons pe_int pa_nil))) (pg_tupK (K := K) (n := 3) rfl rfl (pgs_cons (pg_name (i := 5) sc_law.nd rfl (by first | exact Or.inl rfl | exact Or.inr rfl)) (pgs_cons (pg_name (i := 6) sc_law.nd rfl (by first | exact Or.inl rfl | exact Or.inr rfl)) (pgs_cons (pg_name (i := 7) sc_law.nd rfl (by first | exact Or.inl rfl | exact Or.inr rfl)) pgs_nil)))))
      (pss_cons (ps_set (i := 2) sc_law.nd rfl (by first | exact Or.inl rfl | exact Or.inr rfl) (pe_callTy (call_listOfK (K := K) rfl) (by rfl) T.z_list (by decide +kernel) (pa_cons (pv 7) pa_nil)))
      (pss_cons (ps_set (i := 3) sc_law.nd rfl (by first | exact Or.inl rfl | exact Or.inr rfl) (pe_makeS T.mk_Scheme (ok_Scheme___init__ T) (hr.mono (by decide)) (by rfl) T.m_Scheme T.b_Scheme___init__ (fun σ => passAt takes0 σ) (pa_cons (pv 5) (pa_cons (pv 6) (pa_cons (pv 2) pa_nil)))))
      (pss_cons (ps_expr (pe_bmK (K := K) rfl PySem.F.plainAttrs_list PySem.F.slot_list_append PySem.F.type_list_append mt_append (pv 2) (pa_cons pe_int pa_nil)))
      (pss_cons (ps_for PassesOwn.never rfl (pi_range1 (by rfl) T.z_range (pa_cons pe_int pa_nil)) (pg_name (i := 4) sc_law.nd rfl (by first | exact Or.inl rfl | exact Or.inr rfl))
      (pss_cons (ps_set (i := 8) sc_law.nd rfl (by first | exact Or.inl rfl | exact Or.inr rfl) (pe_meth0 (pv 3) T.cl_Scheme T.me_Scheme_told (ok_Scheme_told T) (hr.mono (by decide)) T.b_Scheme_told .nil pass0))
      (pss_cons (ps_if (PW.pt (pw_or (pt_not (pt_truthK (K := K) rfl (pe_callB (call_isisK (K := K) rfl) (by rfl) T.z_isinstance (by decide +kernel) (pa_cons (pv 8) (pa_cons (pe_bltn (v := .ty "tuple") (by rfl) T.z_tuple (by decide +kernel) rfl) pa_nil))) (by intro _; rfl))) (pw_or (pt_cmpR (op_neeK (K := K) rfl hr.units) (pv 8) (pe_tup (pa_cons (pv 5) (pa_cons (pv 6) (pa_cons (pv 7) pa_nil)))) (nomark _)) (pw_or1 (pt_not (pt_truthK (K := K) rfl (pe_callB (call_isisK (K := K) rfl) (by rfl) T.z_isinstance (by decide +kernel) (pa_cons (pe_ix (ix_seqK (K := K) rfl) (pv 8) pe_int (fun _ _ => rfl)) (pa_cons (pe_bltn (v := .ty "list") (by rfl) T.z_list (by decide +kernel) rfl) pa_nil))) (by intro _; rfl)))))))
      (pss_one (ps_ret pe_bl)) pss_nil)
      (pss_one (ps_expr (pe_bmK (K := K) rfl PySem.F.plainAttrs_list PySem.F.slot_list_append PySem.F.type_list_append mt_append (pe_ix (ix_seqK (K := K) rfl) (pv 8) pe_int (fun _ _ => rfl)) (pa_cons pe_int pa_nil)))))))
      (pss_cons (ps_for PassesOwn.never rfl (pi_range1 (by rfl) T.z_range (pa_cons pe_int pa_nil)) (pg_name (i := 4) sc_law.nd rfl (by first | exact Or.inl rfl | exact Or.inr rfl))
      (pss_cons (ps_set (i := 9) sc_law.nd rfl (by first | exact Or.inl rfl | exact Or.inr rfl) (pe_call (ok__law_mixed T) (hr.mono (by decide)) (by rfl) T.g__law_mixed T.F__law_mixed.kp T.b__law_mixed .nil pass0 (pa_cons (pv 1) (pa_cons (pe_op (op_plusK (K := K) rfl) pe_int (pv 4)) pa_nil))))
      (pss_cons (ps_set (i := 10) sc_law.nd rfl (by first | exact Or.inl rfl | exact Or.inr rfl) (pe_op op_md (pv 9) (pe_op (op_plusK (K := K) rfl) (pe_callB (call_lennK (K := K) rfl) (by rfl) T.z_len (by decide +kernel) (pa_cons (pv 7) pa_nil)) pe_int)))
      (pss_cons (ps_set (i := 11) sc_law.nd rfl (by first | exact Or.inl rfl | exact Or.inr rfl) (pe_call (ok__law_left T) (hr.mono (by decide)) (by rfl) T.g__law_left T.F__law_left.kp T.b__law_left .nil pass0 (pa_cons (pv 5) (pa_cons (pv 6) (pa_cons (pe_slice (sl_anyK (K := K) rfl) (pv 7) po_none (po_some (pv 10))) pa_nil)))))
      (pss_cons (ps_set (i := 12) sc_law.nd rfl (by first | exact Or.inl rfl | exact Or.inr rfl) (pe_op (op_plusK (K := K) rfl) (pe_op (op_plusK (K := K) rfl) (pe_slice (sl_anyK (K := K) rfl) (pv 7) po_none (po_some (pv 10))) (pe_lst (pa_cons (pe_call (ok__law_bad_fold T) (hr.mono (by decide)) (by rfl) T.g__law_bad_fold T.F__law_bad_fold.kp T.b__law_bad_fold .nil pass0 (pa_cons (pe_op op_fd (pv 9) pe_int) (pa_cons (pe_ix (ix_seqK (K := K) rfl) (pv 11) pe_int (fun _ _ => rfl)) (pa_cons (pe_ix (ix_seqK (K := K) rfl) (pv 11) pe_int (fun _ _ => rfl)) pa_nil)))) pa_nil))) (pe_slice (sl_anyK (K := K) rfl) (pv 7) (po_some (pe_op (op_plusK (K := K) rfl) (pv 10) (pe_op op_md (pe_op op_fd (pv 9) pe_int) pe_int))) po_none)))
      (pss_cons (ps_if (pt_cmpR (op_neeK (K := K) rfl hr.units) (pe_call (ok__law_refused T) (hr.mono (by decide)) (by rfl) T.g__law_refused T.F__law_refused.kp T.b__law_refused .nil pass0 (pa_cons (pv 5) (pa_cons (pv 6) (pa_cons (pv 12) pa_nil)))) (pe_op (op_plusK (K := K) rfl) (pv 10) pe_int) (nomark _))
      (pss_one (ps_ret pe_bl)) pss_nil)
      (pss_one (ps_if (PW.pt (pw_and (pt_cmpR (op_lttK (K := K) rfl hr.units0) (pv 10) (pe_callB (call_lennK (K := K) rfl) (by rfl) T.z_len (by decide +kernel) (pa_cons (pv 7) pa_nil)) (nomark _)) (pw_and1 (pt_cmpR (op_neeK (K := K) rfl hr.units) (pe_call (ok__law_refused T) (hr.mono (by decide)) (by rfl) T.g__law_refused T.F__law_refused.kp T.b__law_refused .nil pass0 (pa_cons (pv 5) (pa_cons (pv 6) (pa_cons (pe_slice (sl_anyK (K := K) rfl) (pv 7) po_none (po_some (pv 10))) pa_nil)))) (pe_op (op_plusK (K := K) rfl) (pv 10) pe_int) (nomark _)))))
      (pss_one (ps_ret pe_bl)) pss_nil))))))))
      (pss_cons (ps_if (pt_cmpR (op_neeK (K := K) rfl hr.units) (pe_call (ok__law_refused T) (hr.mono (by decide)) (by rfl) T.g__law_refused T.F__law_refused.kp T.b__law_refused .nil pass0 (pa_cons (pv 5) (pa_cons (pv 6) (pa_cons (pe_op (op_plusK (K := K) rfl) (pv 7) (pe_lst (pa_cons (pe_tup (pa_cons pe_str (pa_cons pe_int (pa_cons pe_str pa_nil)))) pa_nil))) pa_nil)))) (pe_op (op_plusK (K := K) rfl) (pe_callB (call_lennK (K := K) rfl) (by rfl) T.z_len (by decide +kernel) (pa_cons (pv 7) pa_nil)) pe_int) (nomark _))
      (pss_one (ps_ret pe_bl)) pss_nil)
      (pss_one (ps_ret (pe_andTK (K := K) rfl (pe_call (ok__law_sizes_refused T) (hr.mono (by decide)) (by rfl) T.g__law_sizes_refused T.F__law_sizes_refused.kp T.b__law_sizes_refused .nil pass0 (pa_cons (pe_call (ok__law_mixed T) (hr.mono (by decide)) (by rfl) T.g__law_mixed T.F__law_mixed.kp T.b__law_mixed .nil pass0 (pa_cons (pv 1) (pa_cons pe_int pa_nil))) (pa_cons (pv 5) (pa_cons (pv 6) (pa_cons (pv 7) pa_nil))))) (pe_one (pe_call (ok__law_by_hand T) (hr.mono (by decide)) (by rfl) T.g__law_by_hand T.F__law_by_hand.kp T.b__law_by_hand .nil pass0 (pa_cons (pe_op op_md (pv 1) pe_int) pa_nil)))))))))))))), ?_⟩
  (try simp only [cxK])
  rintro _ _ ⟨ns, rfl, hl, rfl⟩
  refine ⟨.rt (.bl true), ?_, rfl⟩
  have hok := lawSize_ok (wholeOf ns 3)
  obtain ⟨N, c1, c2, c3⟩ := ps_end (lawSize (wholeOf ns 3)) (cellsOf ns) (wholeOf ns 3 / 1000) hok.r1 hok.c1
  have hS : SchN ns 3 N := ⟨c1, c2, c3⟩
  generalize hp : lawSize (wholeOf ns 3) = p at *
  generalize hn : wholeOf ns 3 / 1000 = n at *
  generalize hcs : cellsOf ns = cells at *
  have hN : N ≤ 14 := by have := hok.r8; have := hok.c8; omega
  have hg : ∀ {j : Nat}, j ≤ N → good p (foldsJ p cells n j) = (foldsJ p cells n j).length ∧ szAt p (foldsJ p cells n j) (foldsJ p cells n j).length = psK p cells n j := fun hj => foldsJ_good hj fun k hk => ⟨(c3 k hk).1, (c3 k hk).2.1, (c3 k hk).2.2.1⟩
  have hgN := hg (Nat.le_refl N)
  obtain ⟨F, hF⟩ : ∃ F, F = foldsJ p cells n N := ⟨_, rfl⟩
  have hFl : F.length = N := by rw [hF]; exact foldsJ_len p cells n N
  have hFd : ∀ x ∈ F, FoldD x := by rw [hF]; exact foldsJ_fold
  have hFf : D.frzs F = F := frzs_fold hFd
  have hform : ∀ z ∈ F, ∃ e m w, z = .tup false [.str e, .int m, .str w] := fun z hz => by
    rw [hF] at hz
    obtain ⟨t, _, rfl⟩ := List.mem_map.mp hz
    exact ⟨_, _, _, rfl⟩
  have hfitF : ∀ x ∈ F, fit 1 x := fun x hx => by
    rw [hF] at hx
    obtain ⟨t, ht, rfl⟩ := List.mem_map.mp hx
    obtain ⟨k, _, rfl⟩ := List.mem_map.mp ht
    exact fit_tD _ _ _
  rw [← hF] at hgN
  obtain ⟨wh, hwh⟩ : ∃ wh : Int, wh = ns.sum + (ns.length : Nat) := ⟨_, rfl⟩
  have hbig : F.length < sizeLine := by rw [hFl]; exact Nat.lt_of_le_of_lt hN (by decide)
  -- the scheme
  refine run_seq (run_asg (d := .int wh) (hwh ▸ ev_op (ev_call (ea_cons (ev_var rfl rfl) ea_nil) sum_ints) (y := .int (ns.length : Nat)) ?_ plus_int)) ?_
  · have := ev_call (K := K) (ρ := (env0 ["_law_script", "_law_whole", "_law_handed", "_law_scheme_here", "_law_turn", "_law_rows", "_law_columns", "_law_folds_here", "_law_told", "_law_number", "_law_at", "_law_left_here", "_law_bad"] [.lst false (ns.map D.int)])) (ea_cons (ev_var (i := 0) (d := .lst false (ns.map D.int)) rfl rfl) ea_nil) len_lst
    rw [List.length_map] at this
    exact this
  have esch : (D.tup true [.int p.1, .int p.2, .lst true F]).frz = .tup false [.int p.1, .int p.2, .lst false F] := by
    rw [frzT, D.frzs_cons, D.frzs_cons, D.frzs_cons, D.frzs_nil, frzL, hFf, D.frz_sc, D.frz_sc]
  refine run_seq (run_asgT (d := .tup false [.int p.1, .int p.2, .lst false F]) ?_ rfl (takes_tup rfl (takes_cons (takes_name fun _ h => nomatch h) (takes_cons (takes_name fun _ h => nomatch h) (takes_cons (takes_name fun _ h => nomatch h) takes_nil))))) ?_
  · rw [← esch]
    refine ev_frz (ev_fn (ds := [.lst false (ns.map D.int), .int 3]) (ea_cons (ev_var rfl rfl) (ea_cons ev_c ea_nil)) ⟨ns, 3, N, by rw [D.frzs_cons, D.frzs_cons, D.frzs_nil, frzL, D.frzs_ints, D.frz_sc], by decide, by decide, hl, hS, ?_⟩)
    rw [hp, hn, hcs, hF]
  refine run_seq (run_asg (d := .lst true F) (ev_call (ea_cons (ev_var (d := .lst false F) rfl rfl) ea_nil) list_lst)) ?_
  have hfw : firstWrong p F = none := fw_good hgN.1 (hgN.2.trans c2)
  have hFD : FoldsD (.lst false F) := foldsD_of hFd (by omega)
  refine run_seq (run_asg (d := .ins .ow T.A_Scheme schF (schO p.1 p.2 F)) (ev_of (ev_make (ds := [.int p.1, .int p.2, .lst false F]) (ea_cons (ev_var rfl rfl) (ea_cons (ev_var rfl rfl) (ea_cons (ev_var ?_ rfl) ea_nil))) ?_) ?_)) ?_
  · show some (some (D.frz (.lst true F))) = _
    rw [frzL, hFf]
  · refine ⟨.int p.1, .int p.2, .lst false F, by rw [D.frzs_cons, D.frzs_cons, D.frzs_cons, D.frzs_nil, frzL, hFf, D.frz_sc, D.frz_sc], rfl, tyI _, rfl, tyI _, hFD, ?_⟩
    unfold InitR
    rw [init_fw hok, hfw]
    exact ⟨p.1, p.2, F, rfl, rfl, rfl, rfl⟩
  · simp [D.closed, D.closeds, Fl.isSh, schO, anew_closed hform]
  have hsd : D.frzs (schD p.1 p.2 F) = schD p.1 p.2 F := by
    unfold schD
    rw [D.frzs_cons, D.frzs_cons, D.frzs_cons, D.frzs_nil, frzT, hFf, D.frz_sc, D.frz_sc]
  have hso : (D.ins .ow T.A_Scheme schF (schO p.1 p.2 F)).frz = .ins .sh T.A_Scheme schF (schD p.1 p.2 F) := by
    rw [frzI]
    unfold schO schD
    rw [D.frzs_cons, D.frzs_cons, D.frzs_cons, D.frzs_nil, frzT, anew_frz hform, D.frz_sc, D.frz_sc]
  refine run_frz 3 (d := .ins .ow T.A_Scheme schF (schO p.1 p.2 F)) rfl ?_
  rw [hso]
  refine run_seq (run_append (i := 2) (ds := F) (d := .int 7) rfl ev_c hbig) ?_
  show FP.Run _ _ _ [some (.lst false (ns.map D.int)), some (.int wh), some (.lst true (F ++ [D.int 7])), some (.ins .sh T.A_Scheme schF (schD p.1 p.2 F)), none, some (.int p.1), some (.int p.2), some (.lst false F), none, none, none, none, none] _
  -- told, and told again
  refine run_seq (run_forN (inj := fun k : Nat => D.int (0 + (k : Nat))) (xs := List.range 2) (j := 4) (walks_rng1 (j := 2) (ea_cons ev_c ea_nil) (by decide) (by decide)) (fun _ => [some (.lst false (ns.map D.int)), some (.int wh), some (.lst true (F ++ [D.int 7])), some (.ins .sh T.A_Scheme schF (schD p.1 p.2 F)), none, some (.int p.1), some (.int p.2), some (.lst false F), none, none, none, none, none]) (Weak.refl _) rfl fun k x hx => ?_) ?_
  · refine run_weak (run_seq (run_asg (d := .tup true [.int p.1, .int p.2, .lst true F]) (ev_meth (C := T.A_Scheme) (fl := .sh) (fs := schF) (ds := schD p.1 p.2 F) (ev_var rfl rfl) (by decide +kernel) ea_nil ⟨p.1, p.2, F, by rw [D.frzs_cons, D.frzs_nil, frzI, hsd], rfl⟩)) (run_seq_if (b := (!true) || ((!true) || (!true))) (et_of (et_or (et_not ?_) fun _ => et_or (et_test ?_) fun _ => et_not ?_)) (fun h => nomatch h) fun _ => run_skip (run_append_tup (i := 8) (k := 2) (ds := [.int p.1, .int p.2, .lst true F]) (es := F) (d := .int 7) rfl rfl rfl ev_c hbig)))
      (.same (.same (.same (.same (.drop (.same (.same (.same (.drop (.same (.same (.same (.same .nil)))))))))))))
    · refine et_bl (ev_isi (d := .tup false [.int p.1, .int p.2, .lst false F]) (by show some (some (D.frz (.tup true [.int p.1, .int p.2, .lst true F]))) = _; rw [esch]) rfl (by show ("tuple" : String) ≠ ""; decide) (by show kitB "tuple" "tuple" = some true; decide +kernel))
    · have hf3 : fit 3 (.tup false [.int p.1, .int p.2, .lst false F]) := fun x hx => by
        simp only [List.mem_cons, List.not_mem_nil, or_false] at hx
        rcases hx with rfl | rfl | rfl
        · exact True.intro
        · exact True.intro
        · exact hfitF
      have hf4 : fit 3 (.tup true [.int p.1, .int p.2, .lst false F]) := hf3
      have hne := ne_data (K := K) hf3 hf4 (by decide) (by decide)
      rw [eqD_rfl (e := .tup true [.int p.1, .int p.2, .lst false F]) hf3 rfl] at hne
      exact ev_op (ev_var (by show some (some (D.frz (.tup true [.int p.1, .int p.2, .lst true F]))) = _; rw [esch]) rfl) (ev_tup (ea_cons (ev_var rfl rfl) (ea_cons (ev_var rfl rfl) (ea_cons (ev_var (by show some (some (D.frz (.lst false F))) = _; rw [frzL, hFf]) rfl) ea_nil))) (show 3 ≤ 1000000 by decide)) hne
    · exact et_bl (ev_call (ea_cons (ev_op (x := .tup false [.int p.1, .int p.2, .lst false F]) (ev_var (by show some (some (D.frz (.tup true [.int p.1, .int p.2, .lst true F]))) = _; rw [esch]) rfl) ev_c (ix_tp rfl)) (ea_cons ev_c ea_nil)) (isi_ty (d := .lst false F) (b := "list") (by show ("list" : String) ≠ ""; decide) (by show kitB "list" "list" = some true; decide +kernel)))
  have lenF : ∀ {ρ : FP.Env}, ρ[7]? = some (some (.lst false F)) → EvS K (tCB (rLen K) (tCons (tVar 7) tNil)) ρ (.int (N : Nat)) := fun h => by
    have := ev_call (K := K) (ea_cons (ev_var h rfl) ea_nil) len_lst
    rw [hFl] at this
    exact this
  have ref : ∀ {te : TE} {ρ : FP.Env} {d : D} {X : List D} {k : Int}, EvS K te ρ d → d.frz = .lst false X → (∀ x ∈ X, FoldD x) → X.length ≤ 1000 → firstWrong p X = some k → ρ[5]? = some (some (.int p.1)) → ρ[6]? = some (some (.int p.2)) → EvS K (tCall (spF K R__law_refused) [] E0 (tCons (tVar 5) (tCons (tVar 6) (tCons te tNil)))) ρ (.int k) := fun {te ρ d X k} h1 h2 h3 h4 h5 h6 h7 =>
    ev_fn (ds := [.int p.1, .int p.2, d]) (ea_cons (ev_var h6 rfl) (ea_cons (ev_var h7 rfl) (ea_cons h1 ea_nil))) ⟨.int p.1, .int p.2, .lst false X, by rw [D.frzs_cons, D.frzs_cons, D.frzs_cons, D.frzs_nil, h2, D.frz_sc, D.frz_sc], rfl, tyI _, rfl, tyI _, foldsD_of h3 h4, by rw [init_fw hok, h5]; rfl⟩
  -- six folds that can't be
  refine run_seq (run_forN (inj := fun k : Nat => D.int (0 + (k : Nat))) (xs := List.range 6) (j := 4) (walks_rng1 (j := 6) (ea_cons ev_c ea_nil) (by decide) (by decide)) (fun _ => [some (.lst false (ns.map D.int)), some (.int wh), some (.lst true (F ++ [D.int 7])), some (.ins .sh T.A_Scheme schF (schD p.1 p.2 F)), none, some (.int p.1), some (.int p.2), some (.lst false F), none, none, none, none, none]) (Weak.refl _) rfl fun k x hx => ?_) ?_
  · have hx6 : x < 6 := by
      have := List.mem_of_getElem? hx
      simpa using this
    obtain ⟨nb, hnb⟩ : ∃ nb, nb = mixed wh (30 + (0 + (x : Nat))) := ⟨_, rfl⟩
    have nb0 : 0 ≤ nb := by rw [hnb]; exact mixed_nn _ _
    obtain ⟨j, hj, hjN⟩ : ∃ j : Nat, nb % ((N : Nat) + 1) = (j : Nat) ∧ j ≤ N := by
      have b1 := Int.emod_nonneg nb (b := ((N : Nat) : Int) + 1) (by omega)
      have b2 := Int.emod_lt_of_pos nb (b := ((N : Nat) : Int) + 1) (by omega)
      exact ⟨(nb % ((N : Nat) + 1)).toNat, by omega, by omega⟩
    obtain ⟨s, hs⟩ : ∃ s : Nat, (j : Nat) + nb / 400 % 2 = (s : Int) := ⟨((j : Nat) + nb / 400 % 2).toNat, by omega⟩
    obtain ⟨jj, hjj, hjj15⟩ : ∃ jj : Nat, nb / 16 % 15 = (jj : Nat) ∧ jj < 15 := ⟨(nb / 16 % 15).toNat, by omega, by omega⟩
    obtain ⟨q, hq⟩ : ∃ q, q = psK p cells n j := ⟨_, rfl⟩
    have hqr : (1 ≤ q.1 ∧ q.1 ≤ 8) ∧ (1 ≤ q.2 ∧ q.2 ≤ 8) := by
      have := hok.r8
      have := hok.c8
      by_cases h : j < N
      · obtain ⟨_, a1, a2, a3, a4⟩ := c3 j h
        rw [← hq] at a1 a2 a3 a4
        omega
      · have : j = N := by omega
        rw [hq, this, c2]
        decide
    obtain ⟨b, hb⟩ : ∃ b, (badL q.1 q.2)[jj]? = some b := ⟨(badL q.1 q.2)[jj]'(by show jj < 15; exact hjj15), List.getElem?_eq_getElem _⟩
    obtain ⟨hbF, hbz⟩ := bad_ok hqr.1 hqr.2 b (List.mem_of_getElem? hb)
    have hgj := hg hjN
    have hjl := foldsJ_len p cells n j
    have cutj : ∀ {ρ : FP.Env}, ρ[7]? = some (some (.lst false F)) → ρ[10]? = some (some (.int (j : Nat))) → EvS K (tSl (rSl K) (tVar 7) (fun _ H Q => Q none H) (tPart (tVar 10))) ρ (.lst true (foldsJ p cells n j)) := fun h7 h10 => by
      have h := ev_sl (K := K) (r := rSl K) (d := .lst false F) (z := .lst true (cutX F none (some ((j : Nat) : Int)))) (ev_var h7 rfl) eo_none (eo_some (ev_var h10 rfl)) sl_lst
      rw [cut_to rfl (by omega), hF, foldsJ_take hjN] at h
      exact h
    have hX : ∀ y ∈ foldsJ p cells n j ++ b :: F.drop s, FoldD y := fun y hy => by
      rcases List.mem_append.mp hy with hy | hy
      · exact foldsJ_fold y hy
      · rcases List.mem_cons.mp hy with rfl | hy
        · exact hbF
        · exact hFd y (List.mem_of_mem_drop hy)
    have hXl : (foldsJ p cells n j ++ b :: F.drop s).length ≤ 1000 := by
      rw [List.length_append, List.length_cons, List.length_drop, hjl, hFl]
      omega
    have hXw : firstWrong p (foldsJ p cells n j ++ b :: F.drop s) = some ((j : Nat) + 1 : Int) := by
      have := fw_bad (post := F.drop s) hgj.1 (show szAft (szAt p (foldsJ p cells n j) (foldsJ p cells n j).length) b = none by rw [hgj.2, ← hq]; exact hbz)
      rw [hjl] at this
      exact this
    refine run_weak (ρ' := [some (.lst false (ns.map D.int)), some (.int wh), some (.lst true (F ++ [D.int 7])), some (.ins .sh T.A_Scheme schF (schD p.1 p.2 F)), some (.int (0 + (x : Nat))), some (.int p.1), some (.int p.2), some (.lst false F), none, some (.int nb), some (.int (j : Nat)), some (.tup false [.int q.1, .int q.2]), some (.lst false (foldsJ p cells n j ++ b :: F.drop s))]) ?_ (.same (.same (.same (.same (.drop (.same (.same (.same (.same (.drop (.drop (.drop (.drop .nil)))))))))))))
    refine run_seq (run_asg (d := .int nb) (hnb ▸ ev_fn (ds := [.int wh, .int (30 + (0 + (x : Nat)))]) (ea_cons (ev_var rfl rfl) (ea_cons (ev_op ev_c (ev_var rfl rfl) plus_int) ea_nil)) ⟨_, _, rfl, by omega, by omega, rfl⟩)) ?_
    refine run_seq (run_asg (d := .int (j : Nat)) ?_) ?_
    · rw [← hj]
      exact ev_op (y := .int ((N : Nat) + 1)) (ev_var rfl rfl) (ev_op (lenF rfl) ev_c plus_int) (md_int (by omega))
    refine run_seq (run_asg (d := .tup false [.int q.1, .int q.2]) (ev_frz (d := .tup true [.int q.1, .int q.2]) (ev_fn (ds := [.int p.1, .int p.2, .lst true (foldsJ p cells n j)]) (ea_cons (ev_var rfl rfl) (ea_cons (ev_var rfl rfl) (ea_cons (cutj rfl rfl) ea_nil))) ⟨p.1, p.2, trs p cells n j, ?_, ?_⟩))) ?_
    · rw [D.frzs_cons, D.frzs_cons, D.frzs_cons, D.frzs_nil, frzL, frzs_fold foldsJ_fold, D.frz_sc, D.frz_sc]
    · rw [hq]
      show _ = D.tup true [.int ((trs p cells n j).foldl leftP p).1, .int ((trs p cells n j).foldl leftP p).2]
      rw [left_ps]
    refine run_seq (run_asg (d := .lst false (foldsJ p cells n j ++ b :: F.drop s)) ?_) ?_
    · have e1 : (D.lst true ((foldsJ p cells n j ++ [b]) ++ F.drop s)).frz = .lst false (foldsJ p cells n j ++ b :: F.drop s) := by
        rw [frzL, List.append_assoc]
        exact congrArg (D.lst false) (frzs_fold hX)
      rw [← e1]
      have hsl : ∀ {ρ : FP.Env}, ρ[7]? = some (some (.lst false F)) → ρ[9]? = some (some (.int nb)) → ρ[10]? = some (some (.int (j : Nat))) → EvS K (tSl (rSl K) (tVar 7) (tPart (tOp (rPlus K) (tVar 10) (tOp rMd (tOp rFd (tVar 9) (tC (.int 400))) (tC (.int 2))))) (fun _ H Q => Q none H)) ρ (.lst true (F.drop s)) := fun h7 h9 h10 => by
        have h := ev_sl (K := K) (r := rSl K) (d := .lst false F) (z := .lst true (cutX F (some ((j : Nat) + nb / 400 % 2)) none)) (ev_var h7 rfl) (eo_some (ev_op (ev_var h10 rfl) (ev_op (ev_op (ev_var h9 rfl) ev_c (fd_int ⟨by decide, by decide⟩)) ev_c (md_int (by decide))) plus_int)) eo_none sl_lst
        rw [cut_from hs] at h
        exact h
      exact ev_frz (ev_op (ev_op (cutj rfl rfl) (ev_lst (ea_cons (ev_fn (ds := [.int (nb / 16), .int q.1, .int q.2]) (ea_cons (ev_op (ev_var rfl rfl) ev_c (fd_int ⟨by decide, by decide⟩)) (ea_cons (ev_op (x := .tup false [.int q.1, .int q.2]) (ev_var rfl rfl) ev_c (ix_tp rfl)) (ea_cons (ev_op (x := .tup false [.int q.1, .int q.2]) (ev_var rfl rfl) ev_c (ix_tp rfl)) ea_nil))) ⟨_, _, _, jj, rfl, hjj, hb⟩) ea_nil) (show 1 ≤ 1000000 by decide)) (plus_lst (by rw [hjl]; exact Nat.le_trans (show j + 1 ≤ 100 by omega) (by decide)))) (hsl rfl rfl rfl) (plus_lst (by
        rw [List.length_append, hjl, List.length_drop, hFl]
        exact Nat.le_trans (show j + 1 + (N - s) ≤ 100 by omega) (by decide))))
    refine run_seq_if (b := !decide (((j : Nat) + 1 : Int) = (j : Nat) + 1)) (et_test (ev_op (ref (d := .lst false (foldsJ p cells n j ++ b :: F.drop s)) (ev_var rfl rfl) (by rw [frzL, frzs_fold hX]) hX hXl hXw rfl rfl) (ev_op (ev_var rfl rfl) ev_c plus_int) ne_int')) (fun h => by simp at h) fun _ => run_skip ?_
    refine run_if (b := decide (((j : Nat) : Int) < (N : Nat)) && !decide (((j : Nat) + 1 : Int) = (j : Nat) + 1)) (et_and (et_test (ev_op (ev_var rfl rfl) (lenF rfl) lt_int')) fun h => et_test (ev_op (ref (X := foldsJ p cells n j) (cutj rfl rfl) (by rw [frzL, frzs_fold foldsJ_fold]) foldsJ_fold (by omega) ?_ rfl rfl) (ev_op (ev_var rfl rfl) ev_c plus_int) ne_int')) (fun h => by simp at h) fun _ => run_next
    have hlt : j < N := by
      have := of_decide_eq_true h
      omega
    have := fw_short hgj.1 (by rw [hgj.2]; exact (c3 j hlt).1)
    rw [hjl] at this
    exact this
  -- one fold more
  have hlast : firstWrong p (F ++ [.tup false [.str "left", .int 1, .str "over"]]) = some ((N : Nat) + 1 : Int) := by
    have := fw_bad (post := []) hgN.1 (show szAft (szAt p F F.length) (.tup false [.str "left", .int 1, .str "over"]) = none by rw [hgN.2, c2]; exact szAft_col0 (by decide +kernel) (by decide))
    rw [hFl] at this
    exact this
  have hlD : ∀ y ∈ F ++ [.tup false [.str "left", .int 1, .str "over"]], FoldD y := fun y hy => by
    rcases List.mem_append.mp hy with hy | hy
    · exact hFd y hy
    · rw [List.mem_singleton.mp hy]
      exact foldD_tup rfl (ty3 (tyS _) (tyI _) (tyS _))
  refine run_seq_if (b := !decide (((N : Nat) + 1 : Int) = (N : Nat) + 1)) (et_test (ev_op (ref (d := .lst true (F ++ [.tup true [.str "left", .int 1, .str "over"]])) (X := F ++ [.tup false [.str "left", .int 1, .str "over"]]) (ev_op (ev_var rfl rfl) (ev_lst (ea_cons (ev_tup (ea_cons ev_c (ea_cons ev_c (ea_cons ev_c ea_nil))) (show 3 ≤ 1000000 by decide)) ea_nil) (show 1 ≤ 1000000 by decide)) (plus_lst (by rw [hFl]; exact Nat.le_trans (show N + 1 ≤ 100 by omega) (by decide)))) ?_ hlD (by rw [List.length_append, hFl]; show N + 1 ≤ 1000; omega) hlast rfl rfl) (ev_op (lenF rfl) ev_c plus_int) ne_int')) (fun h => by simp at h) fun _ => run_skip (run_ret ?_)
  · rw [frzL, D.frzs_map, List.map_append, ← D.frzs_map, hFf]
    rfl
  refine ev_andT (d := .bl true) (ev_fn (ds := [.int (mixed wh 40), .int p.1, .int p.2, .lst false F]) (ea_cons (ev_fn (ds := [.int wh, .int 40]) (ea_cons (ev_var rfl rfl) (ea_cons ev_c ea_nil)) ⟨_, _, rfl, by decide, by decide, rfl⟩) (ea_cons (ev_var rfl rfl) (ea_cons (ev_var rfl rfl) (ea_cons (ev_var rfl rfl) ea_nil)))) ⟨_, p.1, p.2, F, by rw [D.frzs_cons, D.frzs_cons, D.frzs_cons, D.frzs_cons, D.frzs_nil, frzL, hFf, D.frz_sc, D.frz_sc, D.frz_sc], mixed_nn _ _, hok, hFD, rfl⟩) True.intro (fun _ => ?_) (fun h => nomatch h)
  exact ev_fn (ds := [.int (wh % 1000)]) (ea_cons (ev_op (ev_var rfl rfl) ev_c (md_int (by decide))) ea_nil) ⟨_, rfl, by omega, by omega, rfl⟩
end
end K02

end
namespace K02
open PySem PySem.Spec PyProof.Rows L2 FP
theorem ints_rp {K : PySem.W.Frag} {A : Own} {H : Hp} : ∀ ns : List Int, RpAll K A H (ns.map V.int) (ns.map D.int) []
  | [] => .nil
  | n :: ns => RpAll.cons (B := []) (C := []) (.sc _) (ints_rp ns) (fun _ h => nomatch h)
theorem sq_rp {K : PySem.W.Frag} {H : Hp} {a : Addr} {ns : List Int} (h : SqL K H a (ns.map V.int)) : Rp K Own.no H (.ref a) (.lst false (ns.map D.int)) [] :=
  .lstS (h.imp (fun h => ⟨h, fun z => z⟩) id) (by
    exact ints_rp ns)
theorem start_law {K : PySem.W.Frag} {H : Hp} {a : Addr} {ns : List Int} {E : XK} (hl : ns.length ≤ 63) (h : SqL K H a (ns.map V.int)) : spF K R_law [.ref a] H (fun v _ => v = .bl true) E :=
  ⟨Own.no, [.lst false (ns.map D.int)], .bl true, fun _ h => h.elim, RpAll.cons (B := []) (C := []) (sq_rp h) .nil (fun _ h => nomatch h), ⟨ns, rfl, hl, rfl⟩, fun v H2 C e f p => by cases p; rfl⟩
theorem all_mk {l : PySem.W.OpenLaw} {w : World} {K : PySem.W.Frag} {h : Heap} {mg : Str → Option Value} {fa : Addr} (X : K.In h) (G : h.Ns mainGlobals mg) (hfa : mg "law" = some (.ref fa))
    {f_BadRow___init__ f_BadScheme___init__ f_is_whole f_is_among f_Scheme___init__ f_Scheme_told f_is_size f_first_wrong_fold f_size_after f__is_fold f__is_word_of f__law_mixed f__law_kinds f__law_size f__law_folds f__law_scheme f__law_bad_fold f__law_left f__law_refused f__law_sizes_refused f__law_by_hand f_law A_PressError A_BadRow A_BadScheme A_BadSheet A_BadBook A_TooGreat A_OutOfPlace A_Scheme : Addr}
    (aC_PressError : PySem.W.nsIn K mainGlobals "PressError" = some (some (.ref A_PressError)))
    (aC_BadRow : PySem.W.nsIn K mainGlobals "BadRow" = some (some (.ref A_BadRow)))
    (aC_BadScheme : PySem.W.nsIn K mainGlobals "BadScheme" = some (some (.ref A_BadScheme)))
    (aC_BadSheet : PySem.W.nsIn K mainGlobals "BadSheet" = some (some (.ref A_BadSheet)))
    (aC_BadBook : PySem.W.nsIn K mainGlobals "BadBook" = some (some (.ref A_BadBook)))
    (aC_TooGreat : PySem.W.nsIn K mainGlobals "TooGreat" = some (some (.ref A_TooGreat)))
    (aC_OutOfPlace : PySem.W.nsIn K mainGlobals "OutOfPlace" = some (some (.ref A_OutOfPlace)))
    (aC_Scheme : PySem.W.nsIn K mainGlobals "Scheme" = some (some (.ref A_Scheme)))
    (in_BadRow : PySem.W.findIn K (.ref A_BadRow) "__init__" = some (some (.ref f_BadRow___init__)))
    (in_BadScheme : PySem.W.findIn K (.ref A_BadScheme) "__init__" = some (some (.ref f_BadScheme___init__)))
    (at_Scheme___init__ : PySem.W.findIn K (.ref A_Scheme) "__init__" = some (some (.ref f_Scheme___init__)))
    (at_Scheme_told : PySem.W.findIn K (.ref A_Scheme) "told" = some (some (.ref f_Scheme_told)))
    {od0 an0 : Option Addr} {sl0 : Array (Option Value)} {oc0 kV0 dc0 pm0 cd0 ct0 : Value} (l0 : K.lookup f_BadRow___init__ = some ⟨oc0, od0, .func (PySem.W.fnOf "__init__" "BadRow.__init__" (defArgs s_BadRow___init__) (defBody s_BadRow___init__) (defScope s_BadRow___init__) .none kV0 dc0 pm0 an0 cd0 ct0), sl0⟩) (c0 : PySem.W.codeIn K cd0 "BadRow.__init__" = true) (kk_BadRow___init__ : PySem.W.keepIn K (.ref f_BadRow___init__) = true)
    {od1 an1 : Option Addr} {sl1 : Array (Option Value)} {oc1 kV1 dc1 pm1 cd1 ct1 : Value} (l1 : K.lookup f_BadScheme___init__ = some ⟨oc1, od1, .func (PySem.W.fnOf "__init__" "BadScheme.__init__" (defArgs s_BadScheme___init__) (defBody s_BadScheme___init__) (defScope s_BadScheme___init__) .none kV1 dc1 pm1 an1 cd1 ct1), sl1⟩) (c1 : PySem.W.codeIn K cd1 "BadScheme.__init__" = true) (kk_BadScheme___init__ : PySem.W.keepIn K (.ref f_BadScheme___init__) = true)
    {od2 an2 : Option Addr} {sl2 : Array (Option Value)} {oc2 kV2 dc2 pm2 cd2 ct2 : Value} (a2 : PySem.W.nsIn K mainGlobals "is_whole" = some (some (.ref f_is_whole))) (l2 : K.lookup f_is_whole = some ⟨oc2, od2, .func (PySem.W.fnOf "is_whole" "is_whole" (defArgs s_is_whole) (defBody s_is_whole) (defScope s_is_whole) .none kV2 dc2 pm2 an2 cd2 ct2), sl2⟩) (c2 : PySem.W.codeIn K cd2 "is_whole" = true) (kk_is_whole : PySem.W.keepIn K (.ref f_is_whole) = true)
    {od3 an3 : Option Addr} {sl3 : Array (Option Value)} {oc3 kV3 dc3 pm3 cd3 ct3 : Value} (a3 : PySem.W.nsIn K mainGlobals "is_among" = some (some (.ref f_is_among))) (l3 : K.lookup f_is_among = some ⟨oc3, od3, .func (PySem.W.fnOf "is_among" "is_among" (defArgs s_is_among) (defBody s_is_among) (defScope s_is_among) .none kV3 dc3 pm3 an3 cd3 ct3), sl3⟩) (c3 : PySem.W.codeIn K cd3 "is_among" = true) (kk_is_among : PySem.W.keepIn K (.ref f_is_among) = true)
    {od4 an4 : Option Addr} {sl4 : Array (Option Value)} {oc4 kV4 dc4 pm4 cd4 ct4 : Value} (l4 : K.lookup f_Scheme___init__ = some ⟨oc4, od4, .func (PySem.W.fnOf "__init__" "Scheme.__init__" (defArgs s_Scheme___init__) (defBody s_Scheme___init__) (defScope s_Scheme___init__) .none kV4 dc4 pm4 an4 cd4 ct4), sl4⟩) (c4 : PySem.W.codeIn K cd4 "Scheme.__init__" = true) (kk_Scheme___init__ : PySem.W.keepIn K (.ref f_Scheme___init__) = true)
    {od5 an5 : Option Addr} {sl5 : Array (Option Value)} {oc5 kV5 dc5 pm5 cd5 ct5 : Value} (l5 : K.lookup f_Scheme_told = some ⟨oc5, od5, .func (PySem.W.fnOf "told" "Scheme.told" (defArgs s_Scheme_told) (defBody s_Scheme_told) (defScope s_Scheme_told) .none kV5 dc5 pm5 an5 cd5 ct5), sl5⟩) (c5 : PySem.W.codeIn K cd5 "Scheme.told" = true) (kk_Scheme_told : PySem.W.keepIn K (.ref f_Scheme_told) = true)
    {od6 an6 : Option Addr} {sl6 : Array (Option Value)} {oc6 kV6 dc6 pm6 cd6 ct6 : Value} (a6 : PySem.W.nsIn K mainGlobals "is_size" = some (some (.ref f_is_size))) (l6 : K.lookup f_is_size = some ⟨oc6, od6, .func (PySem.W.fnOf "is_size" "is_size" (defArgs s_is_size) (defBody s_is_size) (defScope s_is_size) .none kV6 dc6 pm6 an6 cd6 ct6), sl6⟩) (c6 : PySem.W.codeIn K cd6 "is_size" = true) (kk_is_size : PySem.W.keepIn K (.ref f_is_size) = true)
    {od7 an7 : Option Addr} {sl7 : Array (Option Value)} {oc7 kV7 dc7 pm7 cd7 ct7 : Value} (a7 : PySem.W.nsIn K mainGlobals "first_wrong_fold" = some (some (.ref f_first_wrong_fold))) (l7 : K.lookup f_first_wrong_fold = some ⟨oc7, od7, .func (PySem.W.fnOf "first_wrong_fold" "first_wrong_fold" (defArgs s_first_wrong_fold) (defBody s_first_wrong_fold) (defScope s_first_wrong_fold) .none kV7 dc7 pm7 an7 cd7 ct7), sl7⟩) (c7 : PySem.W.codeIn K cd7 "first_wrong_fold" = true) (kk_first_wrong_fold : PySem.W.keepIn K (.ref f_first_wrong_fold) = true)
    {od8 an8 : Option Addr} {sl8 : Array (Option Value)} {oc8 kV8 dc8 pm8 cd8 ct8 : Value} (a8 : PySem.W.nsIn K mainGlobals "size_after" = some (some (.ref f_size_after))) (l8 : K.lookup f_size_after = some ⟨oc8, od8, .func (PySem.W.fnOf "size_after" "size_after" (defArgs s_size_after) (defBody s_size_after) (defScope s_size_after) .none kV8 dc8 pm8 an8 cd8 ct8), sl8⟩) (c8 : PySem.W.codeIn K cd8 "size_after" = true) (kk_size_after : PySem.W.keepIn K (.ref f_size_after) = true)
    {od9 an9 : Option Addr} {sl9 : Array (Option Value)} {oc9 kV9 dc9 pm9 cd9 ct9 : Value} (a9 : PySem.W.nsIn K mainGlobals "_is_fold" = some (some (.ref f__is_fold))) (l9 : K.lookup f__is_fold = some ⟨oc9, od9, .func (PySem.W.fnOf "_is_fold" "_is_fold" (defArgs s__is_fold) (defBody s__is_fold) (defScope s__is_fold) .none kV9 dc9 pm9 an9 cd9 ct9), sl9⟩) (c9 : PySem.W.codeIn K cd9 "_is_fold" = true) (kk__is_fold : PySem.W.keepIn K (.ref f__is_fold) = true)
    {od10 an10 : Option Addr} {sl10 : Array (Option Value)} {oc10 kV10 dc10 pm10 cd10 ct10 : Value} (a10 : PySem.W.nsIn K mainGlobals "_is_word_of" = some (some (.ref f__is_word_of))) (l10 : K.lookup f__is_word_of = some ⟨oc10, od10, .func (PySem.W.fnOf "_is_word_of" "_is_word_of" (defArgs s__is_word_of) (defBody s__is_word_of) (defScope s__is_word_of) .none kV10 dc10 pm10 an10 cd10 ct10), sl10⟩) (c10 : PySem.W.codeIn K cd10 "_is_word_of" = true) (kk__is_word_of : PySem.W.keepIn K (.ref f__is_word_of) = true)
    {od11 an11 : Option Addr} {sl11 : Array (Option Value)} {oc11 kV11 dc11 pm11 cd11 ct11 : Value} (a11 : PySem.W.nsIn K mainGlobals "_law_mixed" = some (some (.ref f__law_mixed))) (l11 : K.lookup f__law_mixed = some ⟨oc11, od11, .func (PySem.W.fnOf "_law_mixed" "_law_mixed" (defArgs s__law_mixed) (defBody s__law_mixed) (defScope s__law_mixed) .none kV11 dc11 pm11 an11 cd11 ct11), sl11⟩) (c11 : PySem.W.codeIn K cd11 "_law_mixed" = true) (kk__law_mixed : PySem.W.keepIn K (.ref f__law_mixed) = true)
    {od12 an12 : Option Addr} {sl12 : Array (Option Value)} {oc12 kV12 dc12 pm12 cd12 ct12 : Value} (a12 : PySem.W.nsIn K mainGlobals "_law_kinds" = some (some (.ref f__law_kinds))) (l12 : K.lookup f__law_kinds = some ⟨oc12, od12, .func (PySem.W.fnOf "_law_kinds" "_law_kinds" (defArgs s__law_kinds) (defBody s__law_kinds) (defScope s__law_kinds) .none kV12 dc12 pm12 an12 cd12 ct12), sl12⟩) (c12 : PySem.W.codeIn K cd12 "_law_kinds" = true) (kk__law_kinds : PySem.W.keepIn K (.ref f__law_kinds) = true)
    {od13 an13 : Option Addr} {sl13 : Array (Option Value)} {oc13 kV13 dc13 pm13 cd13 ct13 : Value} (a13 : PySem.W.nsIn K mainGlobals "_law_size" = some (some (.ref f__law_size))) (l13 : K.lookup f__law_size = some ⟨oc13, od13, .func (PySem.W.fnOf "_law_size" "_law_size" (defArgs s__law_size) (defBody s__law_size) (defScope s__law_size) .none kV13 dc13 pm13 an13 cd13 ct13), sl13⟩) (c13 : PySem.W.codeIn K cd13 "_law_size" = true) (kk__law_size : PySem.W.keepIn K (.ref f__law_size) = true)
    {od14 an14 : Option Addr} {sl14 : Array (Option Value)} {oc14 kV14 dc14 pm14 cd14 ct14 : Value} (a14 : PySem.W.nsIn K mainGlobals "_law_folds" = some (some (.ref f__law_folds))) (l14 : K.lookup f__law_folds = some ⟨oc14, od14, .func (PySem.W.fnOf "_law_folds" "_law_folds" (defArgs s__law_folds) (defBody s__law_folds) (defScope s__law_folds) .none kV14 dc14 pm14 an14 cd14 ct14), sl14⟩) (c14 : PySem.W.codeIn K cd14 "_law_folds" = true) (kk__law_folds : PySem.W.keepIn K (.ref f__law_folds) = true)
    {od15 an15 : Option Addr} {sl15 : Array (Option Value)} {oc15 kV15 dc15 pm15 cd15 ct15 : Value} (a15 : PySem.W.nsIn K mainGlobals "_law_scheme" = some (some (.ref f__law_scheme))) (l15 : K.lookup f__law_scheme = some ⟨oc15, od15, .func (PySem.W.fnOf "_law_scheme" "_law_scheme" (defArgs s__law_scheme) (defBody s__law_scheme) (defScope s__law_scheme) .none kV15 dc15 pm15 an15 cd15 ct15), sl15⟩) (c15 : PySem.W.codeIn K cd15 "_law_scheme" = true) (kk__law_scheme : PySem.W.keepIn K (.ref f__law_scheme) = true)
    {od16 an16 : Option Addr} {sl16 : Array (Option Value)} {oc16 kV16 dc16 pm16 cd16 ct16 : Value} (a16 : PySem.W.nsIn K mainGlobals "_law_bad_fold" = some (some (.ref f__law_bad_fold))) (l16 : K.lookup f__law_bad_fold = some ⟨oc16, od16, .func (PySem.W.fnOf "_law_bad_fold" "_law_bad_fold" (defArgs s__law_bad_fold) (defBody s__law_bad_fold) (defScope s__law_bad_fold) .none kV16 dc16 pm16 an16 cd16 ct16), sl16⟩) (c16 : PySem.W.codeIn K cd16 "_law_bad_fold" = true) (kk__law_bad_fold : PySem.W.keepIn K (.ref f__law_bad_fold) = true)
    {od17 an17 : Option Addr} {sl17 : Array (Option Value)} {oc17 kV17 dc17 pm17 cd17 ct17 : Value} (a17 : PySem.W.nsIn K mainGlobals "_law_left" = some (some (.ref f__law_left))) (l17 : K.lookup f__law_left = some ⟨oc17, od17, .func (PySem.W.fnOf "_law_left" "_law_left" (defArgs s__law_left) (defBody s__law_left) (defScope s__law_left) .none kV17 dc17 pm17 an17 cd17 ct17), sl17⟩) (c17 : PySem.W.codeIn K cd17 "_law_left" = true) (kk__law_left : PySem.W.keepIn K (.ref f__law_left) = true)
    {od18 an18 : Option Addr} {sl18 : Array (Option Value)} {oc18 kV18 dc18 pm18 cd18 ct18 : Value} (a18 : PySem.W.nsIn K mainGlobals "_law_refused" = some (some (.ref f__law_refused))) (l18 : K.lookup f__law_refused = some ⟨oc18, od18, .func (PySem.W.fnOf "_law_refused" "_law_refused" (defArgs s__law_refused) (defBody s__law_refused) (defScope s__law_refused) .none kV18 dc18 pm18 an18 cd18 ct18), sl18⟩) (c18 : PySem.W.codeIn K cd18 "_law_refused" = true) (kk__law_refused : PySem.W.keepIn K (.ref f__law_refused) = true)
    {od19 an19 : Option Addr} {sl19 : Array (Option Value)} {oc19 kV19 dc19 pm19 cd19 ct19 : Value} (a19 : PySem.W.nsIn K mainGlobals "_law_sizes_refused" = some (some (.ref f__law_sizes_refused))) (l19 : K.lookup f__law_sizes_refused = some ⟨oc19, od19, .func (PySem.W.fnOf "_law_sizes_refused" "_law_sizes_refused" (defArgs s__law_sizes_refused) (defBody s__law_sizes_refused) (defScope s__law_sizes_refused) .none kV19 dc19 pm19 an19 cd19 ct19), sl19⟩) (c19 : PySem.W.codeIn K cd19 "_law_sizes_refused" = true) (kk__law_sizes_refused : PySem.W.keepIn K (.ref f__law_sizes_refused) = true)
    {od20 an20 : Option Addr} {sl20 : Array (Option Value)} {oc20 kV20 dc20 pm20 cd20 ct20 : Value} (a20 : PySem.W.nsIn K mainGlobals "_law_by_hand" = some (some (.ref f__law_by_hand))) (l20 : K.lookup f__law_by_hand = some ⟨oc20, od20, .func (PySem.W.fnOf "_law_by_hand" "_law_by_hand" (defArgs s__law_by_hand) (defBody s__law_by_hand) (defScope s__law_by_hand) .none kV20 dc20 pm20 an20 cd20 ct20), sl20⟩) (c20 : PySem.W.codeIn K cd20 "_law_by_hand" = true) (kk__law_by_hand : PySem.W.keepIn K (.ref f__law_by_hand) = true)
    {od21 an21 : Option Addr} {sl21 : Array (Option Value)} {oc21 kV21 dc21 pm21 cd21 ct21 : Value} (a21 : PySem.W.nsIn K mainGlobals "law" = some (some (.ref f_law))) (l21 : K.lookup f_law = some ⟨oc21, od21, .func (PySem.W.fnOf "law" "law" (defArgs s_law) (defBody s_law) (defScope s_law) .none kV21 dc21 pm21 an21 cd21 ct21), sl21⟩) (c21 : PySem.W.codeIn K cd21 "law" = true) (kk_law : PySem.W.keepIn K (.ref f_law) = true)
    (xs_PressError : PySem.W.subIn K (.ref A_PressError) (.type "BaseException") = some true)
    (xt_PressError : PySem.W.typeIn K (.ref A_PressError) = some (.type "type"))
    (xh_PressError : PySem.W.hasDictIn K A_PressError = true)
    (bs_PressError : PySem.W.specialIn K (.ref A_PressError) "__getattribute__" = some (some (.builtin "type.__getattribute__")))
    (br_PressError : PySem.W.readsIn K A_PressError (.type "type") = true)
    (bf_PressError : PySem.W.findCls K (.ref A_PressError) (.type "type") "__init__" = some (.val (.builtin "ValueError.__init__")))
    {nm_BadRow qq_BadRow : Str} {N_BadRow : Addr} {bs_BadRow : List Value} {sn_BadRow : List Str} {su_BadRow : List Value} {ab_BadRow : Bool} {co_BadRow : Option Bool} {dd_BadRow : Option Addr} {k0_BadRow k1_BadRow k2_BadRow k3_BadRow k5_BadRow : Option Value}
    (xs_BadRow : PySem.W.subIn K (.ref A_BadRow) (.type "BaseException") = some true)
    (xt_BadRow : PySem.W.typeIn K (.ref A_BadRow) = some (.type "type"))
    (xh_BadRow : PySem.W.hasDictIn K A_BadRow = true)
    (k_BadRow : PySem.W.keepIn K (.ref A_BadRow) = true)
    (hg_BadRow : PySem.W.findIn K (.ref A_BadRow) "__getattribute__" = some (some (.builtin "BaseException.__getattribute__")))
    (hk_BadRow : PySem.W.findIn K (.ref A_BadRow) "__getattr__" = some none)
    (ha_BadRow : PySem.W.findIn K (.ref A_BadRow) "__class__" = some (some (.builtin "object.__class__")))
    (hn_BadRow : PySem.W.specialIn K (.builtin "object.__class__") "__get__" = some (some (.builtin "getset_descriptor.__get__")))
    (ht_BadRow : PySem.W.takesIn K (.builtin "object.__class__") = some true)
    (hm_BadRow : PySem.W.mroIn K A_BadRow (.type "object") = some true)
    (xc_PressError_BadRow : PySem.W.subIn K (.ref A_BadRow) (.ref A_PressError) = some true)
    (sa_BadRow : PySem.W.findIn K (.ref A_BadRow) "__setattr__" = some (some (.builtin "object.__setattr__")))
    (xl_BadRow : K.lookup A_BadRow = some (excClassObj nm_BadRow qq_BadRow A_BadRow N_BadRow bs_BadRow [.ref A_PressError, .type "ValueError", .type "Exception", .type "BaseException", .type "object"] true sn_BadRow su_BadRow ab_BadRow co_BadRow dd_BadRow k0_BadRow k1_BadRow k2_BadRow k3_BadRow k5_BadRow "ValueError.__new__"))
    (ft_BadRow___init__ : PySem.W.typeIn K (.ref f_BadRow___init__) = some (.type "function"))
    (nf_row_BadRow : PySem.W.findIn K (.ref A_BadRow) "row" = some none)
    (nf_word_BadRow : PySem.W.findIn K (.ref A_BadRow) "word" = some none)
    {nm_BadScheme qq_BadScheme : Str} {N_BadScheme : Addr} {bs_BadScheme : List Value} {sn_BadScheme : List Str} {su_BadScheme : List Value} {ab_BadScheme : Bool} {co_BadScheme : Option Bool} {dd_BadScheme : Option Addr} {k0_BadScheme k1_BadScheme k2_BadScheme k3_BadScheme k5_BadScheme : Option Value}
    (xs_BadScheme : PySem.W.subIn K (.ref A_BadScheme) (.type "BaseException") = some true)
    (xt_BadScheme : PySem.W.typeIn K (.ref A_BadScheme) = some (.type "type"))
    (xh_BadScheme : PySem.W.hasDictIn K A_BadScheme = true)
    (k_BadScheme : PySem.W.keepIn K (.ref A_BadScheme) = true)
    (hg_BadScheme : PySem.W.findIn K (.ref A_BadScheme) "__getattribute__" = some (some (.builtin "BaseException.__getattribute__")))
    (hk_BadScheme : PySem.W.findIn K (.ref A_BadScheme) "__getattr__" = some none)
    (ha_BadScheme : PySem.W.findIn K (.ref A_BadScheme) "__class__" = some (some (.builtin "object.__class__")))
    (hn_BadScheme : PySem.W.specialIn K (.builtin "object.__class__") "__get__" = some (some (.builtin "getset_descriptor.__get__")))
    (ht_BadScheme : PySem.W.takesIn K (.builtin "object.__class__") = some true)
    (hm_BadScheme : PySem.W.mroIn K A_BadScheme (.type "object") = some true)
    (xc_PressError_BadScheme : PySem.W.subIn K (.ref A_BadScheme) (.ref A_PressError) = some true)
    (sa_BadScheme : PySem.W.findIn K (.ref A_BadScheme) "__setattr__" = some (some (.builtin "object.__setattr__")))
    (xl_BadScheme : K.lookup A_BadScheme = some (excClassObj nm_BadScheme qq_BadScheme A_BadScheme N_BadScheme bs_BadScheme [.ref A_PressError, .type "ValueError", .type "Exception", .type "BaseException", .type "object"] true sn_BadScheme su_BadScheme ab_BadScheme co_BadScheme dd_BadScheme k0_BadScheme k1_BadScheme k2_BadScheme k3_BadScheme k5_BadScheme "ValueError.__new__"))
    (ft_BadScheme___init__ : PySem.W.typeIn K (.ref f_BadScheme___init__) = some (.type "function"))
    (nf_at_BadScheme : PySem.W.findIn K (.ref A_BadScheme) "at" = some none)
    (xs_BadSheet : PySem.W.subIn K (.ref A_BadSheet) (.type "BaseException") = some true)
    (xt_BadSheet : PySem.W.typeIn K (.ref A_BadSheet) = some (.type "type"))
    (xh_BadSheet : PySem.W.hasDictIn K A_BadSheet = true)
    (k_BadSheet : PySem.W.keepIn K (.ref A_BadSheet) = true)
    (hg_BadSheet : PySem.W.findIn K (.ref A_BadSheet) "__getattribute__" = some (some (.builtin "BaseException.__getattribute__")))
    (hk_BadSheet : PySem.W.findIn K (.ref A_BadSheet) "__getattr__" = some none)
    (ha_BadSheet : PySem.W.findIn K (.ref A_BadSheet) "__class__" = some (some (.builtin "object.__class__")))
    (hn_BadSheet : PySem.W.specialIn K (.builtin "object.__class__") "__get__" = some (some (.builtin "getset_descriptor.__get__")))
    (ht_BadSheet : PySem.W.takesIn K (.builtin "object.__class__") = some true)
    (hm_BadSheet : PySem.W.mroIn K A_BadSheet (.type "object") = some true)
    (xc_PressError_BadSheet : PySem.W.subIn K (.ref A_BadSheet) (.ref A_PressError) = some true)
    (q_BadSheet : PySem.W.excIn K A_BadSheet [.type "ValueError", .type "Exception", .type "BaseException", .type "object"] "ValueError.__new__" = true)
    (xs_BadBook : PySem.W.subIn K (.ref A_BadBook) (.type "BaseException") = some true)
    (xt_BadBook : PySem.W.typeIn K (.ref A_BadBook) = some (.type "type"))
    (xh_BadBook : PySem.W.hasDictIn K A_BadBook = true)
    (k_BadBook : PySem.W.keepIn K (.ref A_BadBook) = true)
    (hg_BadBook : PySem.W.findIn K (.ref A_BadBook) "__getattribute__" = some (some (.builtin "BaseException.__getattribute__")))
    (hk_BadBook : PySem.W.findIn K (.ref A_BadBook) "__getattr__" = some none)
    (ha_BadBook : PySem.W.findIn K (.ref A_BadBook) "__class__" = some (some (.builtin "object.__class__")))
    (hn_BadBook : PySem.W.specialIn K (.builtin "object.__class__") "__get__" = some (some (.builtin "getset_descriptor.__get__")))
    (ht_BadBook : PySem.W.takesIn K (.builtin "object.__class__") = some true)
    (hm_BadBook : PySem.W.mroIn K A_BadBook (.type "object") = some true)
    (xc_PressError_BadBook : PySem.W.subIn K (.ref A_BadBook) (.ref A_PressError) = some true)
    (q_BadBook : PySem.W.excIn K A_BadBook [.type "ValueError", .type "Exception", .type "BaseException", .type "object"] "ValueError.__new__" = true)
    (xs_TooGreat : PySem.W.subIn K (.ref A_TooGreat) (.type "BaseException") = some true)
    (xt_TooGreat : PySem.W.typeIn K (.ref A_TooGreat) = some (.type "type"))
    (xh_TooGreat : PySem.W.hasDictIn K A_TooGreat = true)
    (k_TooGreat : PySem.W.keepIn K (.ref A_TooGreat) = true)
    (hg_TooGreat : PySem.W.findIn K (.ref A_TooGreat) "__getattribute__" = some (some (.builtin "BaseException.__getattribute__")))
    (hk_TooGreat : PySem.W.findIn K (.ref A_TooGreat) "__getattr__" = some none)
    (ha_TooGreat : PySem.W.findIn K (.ref A_TooGreat) "__class__" = some (some (.builtin "object.__class__")))
    (hn_TooGreat : PySem.W.specialIn K (.builtin "object.__class__") "__get__" = some (some (.builtin "getset_descriptor.__get__")))
    (ht_TooGreat : PySem.W.takesIn K (.builtin "object.__class__") = some true)
    (hm_TooGreat : PySem.W.mroIn K A_TooGreat (.type "object") = some true)
    (xc_PressError_TooGreat : PySem.W.subIn K (.ref A_TooGreat) (.ref A_PressError) = some true)
    (q_TooGreat : PySem.W.excIn K A_TooGreat [.type "ValueError", .type "Exception", .type "BaseException", .type "object"] "ValueError.__new__" = true)
    (xs_OutOfPlace : PySem.W.subIn K (.ref A_OutOfPlace) (.type "BaseException") = some true)
    (xt_OutOfPlace : PySem.W.typeIn K (.ref A_OutOfPlace) = some (.type "type"))
    (xh_OutOfPlace : PySem.W.hasDictIn K A_OutOfPlace = true)
    (k_OutOfPlace : PySem.W.keepIn K (.ref A_OutOfPlace) = true)
    (hg_OutOfPlace : PySem.W.findIn K (.ref A_OutOfPlace) "__getattribute__" = some (some (.builtin "BaseException.__getattribute__")))
    (hk_OutOfPlace : PySem.W.findIn K (.ref A_OutOfPlace) "__getattr__" = some none)
    (ha_OutOfPlace : PySem.W.findIn K (.ref A_OutOfPlace) "__class__" = some (some (.builtin "object.__class__")))
    (hn_OutOfPlace : PySem.W.specialIn K (.builtin "object.__class__") "__get__" = some (some (.builtin "getset_descriptor.__get__")))
    (ht_OutOfPlace : PySem.W.takesIn K (.builtin "object.__class__") = some true)
    (hm_OutOfPlace : PySem.W.mroIn K A_OutOfPlace (.type "object") = some true)
    (xc_PressError_OutOfPlace : PySem.W.subIn K (.ref A_OutOfPlace) (.ref A_PressError) = some true)
    (q_OutOfPlace : PySem.W.excIn K A_OutOfPlace [.type "ValueError", .type "Exception", .type "BaseException", .type "object"] "ValueError.__new__" = true)
    (pg_Scheme : PySem.W.plainGet K A_Scheme Str.empty = true)
    (hd_Scheme : PySem.W.hasDictIn K A_Scheme = true)
    (po_Scheme : PySem.W.plainOver K A_Scheme = true)
    (sa_Scheme : PySem.W.findIn K (.ref A_Scheme) "__setattr__" = some (some (.builtin "object.__setattr__")))
    (na__rows_Scheme : PySem.W.findIn K (.ref A_Scheme) "_rows" = some none)
    (na__columns_Scheme : PySem.W.findIn K (.ref A_Scheme) "_columns" = some none)
    (na__folds_Scheme : PySem.W.findIn K (.ref A_Scheme) "_folds" = some none)
    (fn_Scheme___init__ : PySem.W.isFn K (.ref f_Scheme___init__) = true)
    (mi_Scheme : PySem.W.makesIn K A_Scheme = true)
    (kc_Scheme : PySem.W.keepIn K (.ref A_Scheme) = true)
    (fn_Scheme_told : PySem.W.isFn K (.ref f_Scheme_told) = true)
    (ki_BadRow_BadRow : PySem.W.kitOne K (.ref A_BadRow) (.ref A_BadRow) = some true)
    (ki_BadRow_BadScheme : PySem.W.kitOne K (.ref A_BadRow) (.ref A_BadScheme) = some false)
    (ki_BadRow_BadSheet : PySem.W.kitOne K (.ref A_BadRow) (.ref A_BadSheet) = some false)
    (ki_BadRow_BadBook : PySem.W.kitOne K (.ref A_BadRow) (.ref A_BadBook) = some false)
    (ki_BadRow_TooGreat : PySem.W.kitOne K (.ref A_BadRow) (.ref A_TooGreat) = some false)
    (ki_BadRow_OutOfPlace : PySem.W.kitOne K (.ref A_BadRow) (.ref A_OutOfPlace) = some false)
    (ki_BadRow_ValueError : PySem.W.kitOne K (.ref A_BadRow) (.type "ValueError") = some true)
    (ki_BadRow_PressError : PySem.W.kitOne K (.ref A_BadRow) (.ref A_PressError) = some true)
    (ki_BadScheme_BadRow : PySem.W.kitOne K (.ref A_BadScheme) (.ref A_BadRow) = some false)
    (ki_BadScheme_BadScheme : PySem.W.kitOne K (.ref A_BadScheme) (.ref A_BadScheme) = some true)
    (ki_BadScheme_BadSheet : PySem.W.kitOne K (.ref A_BadScheme) (.ref A_BadSheet) = some false)
    (ki_BadScheme_BadBook : PySem.W.kitOne K (.ref A_BadScheme) (.ref A_BadBook) = some false)
    (ki_BadScheme_TooGreat : PySem.W.kitOne K (.ref A_BadScheme) (.ref A_TooGreat) = some false)
    (ki_BadScheme_OutOfPlace : PySem.W.kitOne K (.ref A_BadScheme) (.ref A_OutOfPlace) = some false)
    (ki_BadScheme_ValueError : PySem.W.kitOne K (.ref A_BadScheme) (.type "ValueError") = some true)
    (ki_BadScheme_PressError : PySem.W.kitOne K (.ref A_BadScheme) (.ref A_PressError) = some true)
    (ki_BadSheet_BadRow : PySem.W.kitOne K (.ref A_BadSheet) (.ref A_BadRow) = some false)
    (ki_BadSheet_BadScheme : PySem.W.kitOne K (.ref A_BadSheet) (.ref A_BadScheme) = some false)
    (ki_BadSheet_BadSheet : PySem.W.kitOne K (.ref A_BadSheet) (.ref A_BadSheet) = some true)
    (ki_BadSheet_BadBook : PySem.W.kitOne K (.ref A_BadSheet) (.ref A_BadBook) = some false)
    (ki_BadSheet_TooGreat : PySem.W.kitOne K (.ref A_BadSheet) (.ref A_TooGreat) = some false)
    (ki_BadSheet_OutOfPlace : PySem.W.kitOne K (.ref A_BadSheet) (.ref A_OutOfPlace) = some false)
    (ki_BadSheet_ValueError : PySem.W.kitOne K (.ref A_BadSheet) (.type "ValueError") = some true)
    (ki_BadSheet_PressError : PySem.W.kitOne K (.ref A_BadSheet) (.ref A_PressError) = some true)
    (ki_BadBook_BadRow : PySem.W.kitOne K (.ref A_BadBook) (.ref A_BadRow) = some false)
    (ki_BadBook_BadScheme : PySem.W.kitOne K (.ref A_BadBook) (.ref A_BadScheme) = some false)
    (ki_BadBook_BadSheet : PySem.W.kitOne K (.ref A_BadBook) (.ref A_BadSheet) = some false)
    (ki_BadBook_BadBook : PySem.W.kitOne K (.ref A_BadBook) (.ref A_BadBook) = some true)
    (ki_BadBook_TooGreat : PySem.W.kitOne K (.ref A_BadBook) (.ref A_TooGreat) = some false)
    (ki_BadBook_OutOfPlace : PySem.W.kitOne K (.ref A_BadBook) (.ref A_OutOfPlace) = some false)
    (ki_BadBook_ValueError : PySem.W.kitOne K (.ref A_BadBook) (.type "ValueError") = some true)
    (ki_BadBook_PressError : PySem.W.kitOne K (.ref A_BadBook) (.ref A_PressError) = some true)
    (ki_TooGreat_BadRow : PySem.W.kitOne K (.ref A_TooGreat) (.ref A_BadRow) = some false)
    (ki_TooGreat_BadScheme : PySem.W.kitOne K (.ref A_TooGreat) (.ref A_BadScheme) = some false)
    (ki_TooGreat_BadSheet : PySem.W.kitOne K (.ref A_TooGreat) (.ref A_BadSheet) = some false)
    (ki_TooGreat_BadBook : PySem.W.kitOne K (.ref A_TooGreat) (.ref A_BadBook) = some false)
    (ki_TooGreat_TooGreat : PySem.W.kitOne K (.ref A_TooGreat) (.ref A_TooGreat) = some true)
    (ki_TooGreat_OutOfPlace : PySem.W.kitOne K (.ref A_TooGreat) (.ref A_OutOfPlace) = some false)
    (ki_TooGreat_ValueError : PySem.W.kitOne K (.ref A_TooGreat) (.type "ValueError") = some true)
    (ki_TooGreat_PressError : PySem.W.kitOne K (.ref A_TooGreat) (.ref A_PressError) = some true)
    (ki_OutOfPlace_BadRow : PySem.W.kitOne K (.ref A_OutOfPlace) (.ref A_BadRow) = some false)
    (ki_OutOfPlace_BadScheme : PySem.W.kitOne K (.ref A_OutOfPlace) (.ref A_BadScheme) = some false)
    (ki_OutOfPlace_BadSheet : PySem.W.kitOne K (.ref A_OutOfPlace) (.ref A_BadSheet) = some false)
    (ki_OutOfPlace_BadBook : PySem.W.kitOne K (.ref A_OutOfPlace) (.ref A_BadBook) = some false)
    (ki_OutOfPlace_TooGreat : PySem.W.kitOne K (.ref A_OutOfPlace) (.ref A_TooGreat) = some false)
    (ki_OutOfPlace_OutOfPlace : PySem.W.kitOne K (.ref A_OutOfPlace) (.ref A_OutOfPlace) = some true)
    (ki_OutOfPlace_ValueError : PySem.W.kitOne K (.ref A_OutOfPlace) (.type "ValueError") = some true)
    (ki_OutOfPlace_PressError : PySem.W.kitOne K (.ref A_OutOfPlace) (.ref A_PressError) = some true)
    (z0 : PySem.W.nsIn K mainGlobals "ValueError" = some none)
    (z1 : PySem.W.nsIn K mainGlobals "bool" = some none)
    (z2 : PySem.W.nsIn K mainGlobals "enumerate" = some none)
    (z3 : PySem.W.nsIn K mainGlobals "int" = some none)
    (z4 : PySem.W.nsIn K mainGlobals "isinstance" = some none)
    (z5 : PySem.W.nsIn K mainGlobals "len" = some none)
    (z6 : PySem.W.nsIn K mainGlobals "list" = some none)
    (z7 : PySem.W.nsIn K mainGlobals "min" = some none)
    (z8 : PySem.W.nsIn K mainGlobals "range" = some none)
    (z9 : PySem.W.nsIn K mainGlobals "str" = some none)
    (z10 : PySem.W.nsIn K mainGlobals "sum" = some none)
    (z11 : PySem.W.nsIn K mainGlobals "tuple" = some none)
    {p0 : Addr} {dd0 : Option Addr} {n0 : Nat} {sk0 : Array (Option Value)} {u0_0 u0_1 u0_2 u0_3 : Tok} (q0 : PySem.W.nsIn K mainGlobals "EDGES" = some (some (.ref p0))) (w0 : K.lookup p0 = some ⟨.type "tuple", dd0, .seq #[.str "left" u0_0, .str "right" u0_1, .str "top" u0_2, .str "bottom" u0_3] n0, sk0⟩)
    {p1 : Addr} {dd1 : Option Addr} {n1 : Nat} {sk1 : Array (Option Value)} {u1_0 u1_1 : Tok} (q1 : PySem.W.nsIn K mainGlobals "LEVEL_EDGES" = some (some (.ref p1))) (w1 : K.lookup p1 = some ⟨.type "tuple", dd1, .seq #[.str "top" u1_0, .str "bottom" u1_1] n1, sk1⟩)
    {t2 : Tok} (q2 : PySem.W.nsIn K mainGlobals "MOST_CELLS" = some (some (.int 32 t2)))
    {t3 : Tok} (q3 : PySem.W.nsIn K mainGlobals "MOST_LINES" = some (some (.int 8 t3)))
    {p4 : Addr} {dd4 : Option Addr} {n4 : Nat} {sk4 : Array (Option Value)} {u4_0 u4_1 : Tok} (q4 : PySem.W.nsIn K mainGlobals "WAYS" = some (some (.ref p4))) (w4 : K.lookup p4 = some ⟨.type "tuple", dd4, .seq #[.str "over" u4_0, .str "under" u4_1] n4, sk4⟩) :
    ∃ fd : FuncData, (∀ (s : Shared) (v : Value), BindsTo s fd ⟨[v], []⟩ [("_law_script", v)]) ∧ ∀ base : Heap, K.In base → base.Ns mainGlobals mg → FnOk l.prog w K mg base CX0 11 fa fd ["_law_script"] (spF K R_law) := by
  have e := hfa.symm.trans (PySem.W.mg_of X G a21)
  cases e
  have F0 := fun_mk (st := s_BadRow___init__) l0 c0 kk_BadRow___init__
  have F1 := fun_mk (st := s_BadScheme___init__) l1 c1 kk_BadScheme___init__
  have F2 := fun_mk (st := s_is_whole) l2 c2 kk_is_whole
  have F3 := fun_mk (st := s_is_among) l3 c3 kk_is_among
  have F4 := fun_mk (st := s_Scheme___init__) l4 c4 kk_Scheme___init__
  have F5 := fun_mk (st := s_Scheme_told) l5 c5 kk_Scheme_told
  have F6 := fun_mk (st := s_is_size) l6 c6 kk_is_size
  have F7 := fun_mk (st := s_first_wrong_fold) l7 c7 kk_first_wrong_fold
  have F8 := fun_mk (st := s_size_after) l8 c8 kk_size_after
  have F9 := fun_mk (st := s__is_fold) l9 c9 kk__is_fold
  have F10 := fun_mk (st := s__is_word_of) l10 c10 kk__is_word_of
  have F11 := fun_mk (st := s__law_mixed) l11 c11 kk__law_mixed
  have F12 := fun_mk (st := s__law_kinds) l12 c12 kk__law_kinds
  have F13 := fun_mk (st := s__law_size) l13 c13 kk__law_size
  have F14 := fun_mk (st := s__law_folds) l14 c14 kk__law_folds
  have F15 := fun_mk (st := s__law_scheme) l15 c15 kk__law_scheme
  have F16 := fun_mk (st := s__law_bad_fold) l16 c16 kk__law_bad_fold
  have F17 := fun_mk (st := s__law_left) l17 c17 kk__law_left
  have F18 := fun_mk (st := s__law_refused) l18 c18 kk__law_refused
  have F19 := fun_mk (st := s__law_sizes_refused) l19 c19 kk__law_sizes_refused
  have F20 := fun_mk (st := s__law_by_hand) l20 c20 kk__law_by_hand
  have F21 := fun_mk (st := s_law) l21 c21 kk_law
  let T : Txt K mg := { f_BadRow___init__ := f_BadRow___init__, fd_BadRow___init__ := _, F_BadRow___init__ := F0, b_BadRow___init__ := F0.binds (ps := ["self", "row", "word"]) (fun _ _ _ _ _ _ us hl => match us, hl with | [_, _, _], _ => rfl), f_BadScheme___init__ := f_BadScheme___init__, fd_BadScheme___init__ := _, F_BadScheme___init__ := F1, b_BadScheme___init__ := F1.binds (ps := ["self", "at"]) (fun _ _ _ _ _ _ us hl => match us, hl with | [_, _], _ => rfl), f_is_whole := f_is_whole, fd_is_whole := _, F_is_whole := F2, g_is_whole := PySem.W.mg_of X G a2, b_is_whole := F2.binds (ps := ["thing"]) (fun _ _ _ _ _ _ us hl => match us, hl with | [_], _ => rfl), f_is_among := f_is_among, fd_is_among := _, F_is_among := F3, g_is_among := PySem.W.mg_of X G a3, b_is_among := F3.binds (ps := ["thing", "least", "most"]) (fun _ _ _ _ _ _ us hl => match us, hl with | [_, _, _], _ => rfl), f_Scheme___init__ := f_Scheme___init__, fd_Scheme___init__ := _, F_Scheme___init__ := F4, b_Scheme___init__ := F4.binds (ps := ["self", "rows", "columns", "folds"]) (fun _ _ _ _ _ _ us hl => match us, hl with | [_, _, _, _], _ => rfl), f_Scheme_told := f_Scheme_told, fd_Scheme_told := _, F_Scheme_told := F5, b_Scheme_told := F5.binds (ps := ["self"]) (fun _ _ _ _ _ _ us hl => match us, hl with | [_], _ => rfl), f_is_size := f_is_size, fd_is_size := _, F_is_size := F6, g_is_size := PySem.W.mg_of X G a6, b_is_size := F6.binds (ps := ["rows", "columns"]) (fun _ _ _ _ _ _ us hl => match us, hl with | [_, _], _ => rfl), f_first_wrong_fold := f_first_wrong_fold, fd_first_wrong_fold := _, F_first_wrong_fold := F7, g_first_wrong_fold := PySem.W.mg_of X G a7, b_first_wrong_fold := F7.binds (ps := ["rows", "columns", "folds"]) (fun _ _ _ _ _ _ us hl => match us, hl with | [_, _, _], _ => rfl), f_size_after := f_size_after, fd_size_after := _, F_size_after := F8, g_size_after := PySem.W.mg_of X G a8, b_size_after := F8.binds (ps := ["rows", "columns", "fold"]) (fun _ _ _ _ _ _ us hl => match us, hl with | [_, _, _], _ => rfl), f__is_fold := f__is_fold, fd__is_fold := _, F__is_fold := F9, g__is_fold := PySem.W.mg_of X G a9, b__is_fold := F9.binds (ps := ["fold"]) (fun _ _ _ _ _ _ us hl => match us, hl with | [_], _ => rfl), f__is_word_of := f__is_word_of, fd__is_word_of := _, F__is_word_of := F10, g__is_word_of := PySem.W.mg_of X G a10, b__is_word_of := F10.binds (ps := ["thing", "words"]) (fun _ _ _ _ _ _ us hl => match us, hl with | [_, _], _ => rfl), f__law_mixed := f__law_mixed, fd__law_mixed := _, F__law_mixed := F11, g__law_mixed := PySem.W.mg_of X G a11, b__law_mixed := F11.binds (ps := ["_law_cell", "_law_k"]) (fun _ _ _ _ _ _ us hl => match us, hl with | [_, _], _ => rfl), f__law_kinds := f__law_kinds, fd__law_kinds := _, F__law_kinds := F12, g__law_kinds := PySem.W.mg_of X G a12, b__law_kinds := F12.binds (ps := ["_law_error"]) (fun _ _ _ _ _ _ us hl => match us, hl with | [_], _ => rfl), f__law_size := f__law_size, fd__law_size := _, F__law_size := F13, g__law_size := PySem.W.mg_of X G a13, b__law_size := F13.binds (ps := ["_law_number"]) (fun _ _ _ _ _ _ us hl => match us, hl with | [_], _ => rfl), f__law_folds := f__law_folds, fd__law_folds := _, F__law_folds := F14, g__law_folds := PySem.W.mg_of X G a14, b__law_folds := F14.binds (ps := ["_law_rows", "_law_columns", "_law_cells", "_law_number"]) (fun _ _ _ _ _ _ us hl => match us, hl with | [_, _, _, _], _ => rfl), f__law_scheme := f__law_scheme, fd__law_scheme := _, F__law_scheme := F15, g__law_scheme := PySem.W.mg_of X G a15, b__law_scheme := F15.binds (ps := ["_law_script", "_law_k"]) (fun _ _ _ _ _ _ us hl => match us, hl with | [_, _], _ => rfl), f__law_bad_fold := f__law_bad_fold, fd__law_bad_fold := _, F__law_bad_fold := F16, g__law_bad_fold := PySem.W.mg_of X G a16, b__law_bad_fold := F16.binds (ps := ["_law_number", "_law_rows", "_law_columns"]) (fun _ _ _ _ _ _ us hl => match us, hl with | [_, _, _], _ => rfl), f__law_left := f__law_left, fd__law_left := _, F__law_left := F17, g__law_left := PySem.W.mg_of X G a17, b__law_left := F17.binds (ps := ["_law_rows", "_law_columns", "_law_folds_here"]) (fun _ _ _ _ _ _ us hl => match us, hl with | [_, _, _], _ => rfl), f__law_refused := f__law_refused, fd__law_refused := _, F__law_refused := F18, g__law_refused := PySem.W.mg_of X G a18, b__law_refused := F18.binds (ps := ["_law_rows", "_law_columns", "_law_folds_here"]) (fun _ _ _ _ _ _ us hl => match us, hl with | [_, _, _], _ => rfl), f__law_sizes_refused := f__law_sizes_refused, fd__law_sizes_refused := _, F__law_sizes_refused := F19, g__law_sizes_refused := PySem.W.mg_of X G a19, b__law_sizes_refused := F19.binds (ps := ["_law_number", "_law_rows", "_law_columns", "_law_folds_here"]) (fun _ _ _ _ _ _ us hl => match us, hl with | [_, _, _, _], _ => rfl), f__law_by_hand := f__law_by_hand, fd__law_by_hand := _, F__law_by_hand := F20, g__law_by_hand := PySem.W.mg_of X G a20, b__law_by_hand := F20.binds (ps := ["_law_number"]) (fun _ _ _ _ _ _ us hl => match us, hl with | [_], _ => rfl), f_law := fa, fd_law := _, F_law := F21, g_law := PySem.W.mg_of X G a21, b_law := F21.binds (ps := ["_law_script"]) (fun _ _ _ _ _ _ us hl => match us, hl with | [_], _ => rfl), A_PressError := A_PressError, m_PressError := PySem.W.mg_of X G aC_PressError, A_BadRow := A_BadRow, m_BadRow := PySem.W.mg_of X G aC_BadRow, A_BadScheme := A_BadScheme, m_BadScheme := PySem.W.mg_of X G aC_BadScheme, A_BadSheet := A_BadSheet, m_BadSheet := PySem.W.mg_of X G aC_BadSheet, A_BadBook := A_BadBook, m_BadBook := PySem.W.mg_of X G aC_BadBook, A_TooGreat := A_TooGreat, m_TooGreat := PySem.W.mg_of X G aC_TooGreat, A_OutOfPlace := A_OutOfPlace, m_OutOfPlace := PySem.W.mg_of X G aC_OutOfPlace, A_Scheme := A_Scheme, m_Scheme := PySem.W.mg_of X G aC_Scheme, xs_PressError := xs_PressError, xt_PressError := xt_PressError, xh_PressError := xh_PressError, ba_PressError := ⟨bs_PressError, br_PressError, bf_PressError⟩, xs_BadRow := xs_BadRow, xt_BadRow := xt_BadRow, xh_BadRow := xh_BadRow, k_BadRow := k_BadRow, ec_BadRow := ⟨hg_BadRow, hk_BadRow, xs_BadRow, xh_BadRow, ha_BadRow, hn_BadRow, ht_BadRow, hm_BadRow⟩, xf_BadRow := ⟨hg_BadRow, hk_BadRow, xs_BadRow, xh_BadRow⟩, ex_BadRow_PressError := PySem.W.exm_ref xs_PressError xh_PressError xt_PressError xc_PressError_BadRow, ox_BadRow := ⟨⟨_, _, _, _, _, _, _, _, _, _, _, _, _, _, _, xl_BadRow, by rfl⟩, sa_BadRow, xs_BadRow, xt_BadRow, k_BadRow⟩, in_BadRow := in_BadRow, ft_BadRow___init__ := ft_BadRow___init__, nf_BadRow_row := nf_row_BadRow, nf_BadRow_word := nf_word_BadRow, xs_BadScheme := xs_BadScheme, xt_BadScheme := xt_BadScheme, xh_BadScheme := xh_BadScheme, k_BadScheme := k_BadScheme, ec_BadScheme := ⟨hg_BadScheme, hk_BadScheme, xs_BadScheme, xh_BadScheme, ha_BadScheme, hn_BadScheme, ht_BadScheme, hm_BadScheme⟩, xf_BadScheme := ⟨hg_BadScheme, hk_BadScheme, xs_BadScheme, xh_BadScheme⟩, ex_BadScheme_PressError := PySem.W.exm_ref xs_PressError xh_PressError xt_PressError xc_PressError_BadScheme, ox_BadScheme := ⟨⟨_, _, _, _, _, _, _, _, _, _, _, _, _, _, _, xl_BadScheme, by rfl⟩, sa_BadScheme, xs_BadScheme, xt_BadScheme, k_BadScheme⟩, in_BadScheme := in_BadScheme, ft_BadScheme___init__ := ft_BadScheme___init__, nf_BadScheme_at := nf_at_BadScheme, xs_BadSheet := xs_BadSheet, xt_BadSheet := xt_BadSheet, xh_BadSheet := xh_BadSheet, k_BadSheet := k_BadSheet, ec_BadSheet := ⟨hg_BadSheet, hk_BadSheet, xs_BadSheet, xh_BadSheet, ha_BadSheet, hn_BadSheet, ht_BadSheet, hm_BadSheet⟩, xf_BadSheet := ⟨hg_BadSheet, hk_BadSheet, xs_BadSheet, xh_BadSheet⟩, ex_BadSheet_PressError := PySem.W.exm_ref xs_PressError xh_PressError xt_PressError xc_PressError_BadSheet, q_BadSheet := q_BadSheet, xs_BadBook := xs_BadBook, xt_BadBook := xt_BadBook, xh_BadBook := xh_BadBook, k_BadBook := k_BadBook, ec_BadBook := ⟨hg_BadBook, hk_BadBook, xs_BadBook, xh_BadBook, ha_BadBook, hn_BadBook, ht_BadBook, hm_BadBook⟩, xf_BadBook := ⟨hg_BadBook, hk_BadBook, xs_BadBook, xh_BadBook⟩, ex_BadBook_PressError := PySem.W.exm_ref xs_PressError xh_PressError xt_PressError xc_PressError_BadBook, q_BadBook := q_BadBook, xs_TooGreat := xs_TooGreat, xt_TooGreat := xt_TooGreat, xh_TooGreat := xh_TooGreat, k_TooGreat := k_TooGreat, ec_TooGreat := ⟨hg_TooGreat, hk_TooGreat, xs_TooGreat, xh_TooGreat, ha_TooGreat, hn_TooGreat, ht_TooGreat, hm_TooGreat⟩, xf_TooGreat := ⟨hg_TooGreat, hk_TooGreat, xs_TooGreat, xh_TooGreat⟩, ex_TooGreat_PressError := PySem.W.exm_ref xs_PressError xh_PressError xt_PressError xc_PressError_TooGreat, q_TooGreat := q_TooGreat, xs_OutOfPlace := xs_OutOfPlace, xt_OutOfPlace := xt_OutOfPlace, xh_OutOfPlace := xh_OutOfPlace, k_OutOfPlace := k_OutOfPlace, ec_OutOfPlace := ⟨hg_OutOfPlace, hk_OutOfPlace, xs_OutOfPlace, xh_OutOfPlace, ha_OutOfPlace, hn_OutOfPlace, ht_OutOfPlace, hm_OutOfPlace⟩, xf_OutOfPlace := ⟨hg_OutOfPlace, hk_OutOfPlace, xs_OutOfPlace, xh_OutOfPlace⟩, ex_OutOfPlace_PressError := PySem.W.exm_ref xs_PressError xh_PressError xt_PressError xc_PressError_OutOfPlace, q_OutOfPlace := q_OutOfPlace, cl_Scheme := ⟨pg_Scheme, hd_Scheme, po_Scheme, sa_Scheme⟩, na_Scheme__rows := na__rows_Scheme, na_Scheme__columns := na__columns_Scheme, na_Scheme__folds := na__folds_Scheme, mk_Scheme := ⟨mi_Scheme, at_Scheme___init__, fn_Scheme___init__, kc_Scheme⟩, me_Scheme_told := ⟨at_Scheme_told, fn_Scheme_told, kk_Scheme_told⟩, ki_BadRow_BadRow := ki_BadRow_BadRow, ki_BadRow_BadScheme := ki_BadRow_BadScheme, ki_BadRow_BadSheet := ki_BadRow_BadSheet, ki_BadRow_BadBook := ki_BadRow_BadBook, ki_BadRow_TooGreat := ki_BadRow_TooGreat, ki_BadRow_OutOfPlace := ki_BadRow_OutOfPlace, ki_BadRow_ValueError := ki_BadRow_ValueError, ki_BadRow_PressError := ki_BadRow_PressError, ki_BadScheme_BadRow := ki_BadScheme_BadRow, ki_BadScheme_BadScheme := ki_BadScheme_BadScheme, ki_BadScheme_BadSheet := ki_BadScheme_BadSheet, ki_BadScheme_BadBook := ki_BadScheme_BadBook, ki_BadScheme_TooGreat := ki_BadScheme_TooGreat, ki_BadScheme_OutOfPlace := ki_BadScheme_OutOfPlace, ki_BadScheme_ValueError := ki_BadScheme_ValueError, ki_BadScheme_PressError := ki_BadScheme_PressError, ki_BadSheet_BadRow := ki_BadSheet_BadRow, ki_BadSheet_BadScheme := ki_BadSheet_BadScheme, ki_BadSheet_BadSheet := ki_BadSheet_BadSheet, ki_BadSheet_BadBook := ki_BadSheet_BadBook, ki_BadSheet_TooGreat := ki_BadSheet_TooGreat, ki_BadSheet_OutOfPlace := ki_BadSheet_OutOfPlace, ki_BadSheet_ValueError := ki_BadSheet_ValueError, ki_BadSheet_PressError := ki_BadSheet_PressError, ki_BadBook_BadRow := ki_BadBook_BadRow, ki_BadBook_BadScheme := ki_BadBook_BadScheme, ki_BadBook_BadSheet := ki_BadBook_BadSheet, ki_BadBook_BadBook := ki_BadBook_BadBook, ki_BadBook_TooGreat := ki_BadBook_TooGreat, ki_BadBook_OutOfPlace := ki_BadBook_OutOfPlace, ki_BadBook_ValueError := ki_BadBook_ValueError, ki_BadBook_PressError := ki_BadBook_PressError, ki_TooGreat_BadRow := ki_TooGreat_BadRow, ki_TooGreat_BadScheme := ki_TooGreat_BadScheme, ki_TooGreat_BadSheet := ki_TooGreat_BadSheet, ki_TooGreat_BadBook := ki_TooGreat_BadBook, ki_TooGreat_TooGreat := ki_TooGreat_TooGreat, ki_TooGreat_OutOfPlace := ki_TooGreat_OutOfPlace, ki_TooGreat_ValueError := ki_TooGreat_ValueError, ki_TooGreat_PressError := ki_TooGreat_PressError, ki_OutOfPlace_BadRow := ki_OutOfPlace_BadRow, ki_OutOfPlace_BadScheme := ki_OutOfPlace_BadScheme, ki_OutOfPlace_BadSheet := ki_OutOfPlace_BadSheet, ki_OutOfPlace_BadBook := ki_OutOfPlace_BadBook, ki_OutOfPlace_TooGreat := ki_OutOfPlace_TooGreat, ki_OutOfPlace_OutOfPlace := ki_OutOfPlace_OutOfPlace, ki_OutOfPlace_ValueError := ki_OutOfPlace_ValueError, ki_OutOfPlace_PressError := ki_OutOfPlace_PressError, z_ValueError := PySem.W.mg_none_of X G z0, z_bool := PySem.W.mg_none_of X G z1, z_enumerate := PySem.W.mg_none_of X G z2, z_int := PySem.W.mg_none_of X G z3, z_isinstance := PySem.W.mg_none_of X G z4, z_len := PySem.W.mg_none_of X G z5, z_list := PySem.W.mg_none_of X G z6, z_min := PySem.W.mg_none_of X G z7, z_range := PySem.W.mg_none_of X G z8, z_str := PySem.W.mg_none_of X G z9, z_sum := PySem.W.mg_none_of X G z10, z_tuple := PySem.W.mg_none_of X G z11, a_EDGES := p0, c_EDGES := PySem.W.mg_of X G q0, k_EDGES := ⟨_, #[.str "left" u0_0, .str "right" u0_1, .str "top" u0_2, .str "bottom" u0_3], n0, w0, rfl, rfl, (show 4 ≤ sizeLine by decide), .cons ⟨_, rfl⟩ (.cons ⟨_, rfl⟩ (.cons ⟨_, rfl⟩ (.cons ⟨_, rfl⟩ (.nil))))⟩, a_LEVEL_EDGES := p1, c_LEVEL_EDGES := PySem.W.mg_of X G q1, k_LEVEL_EDGES := ⟨_, #[.str "top" u1_0, .str "bottom" u1_1], n1, w1, rfl, rfl, (show 2 ≤ sizeLine by decide), .cons ⟨_, rfl⟩ (.cons ⟨_, rfl⟩ (.nil))⟩, t_MOST_CELLS := t2, c_MOST_CELLS := PySem.W.mg_of X G q2, t_MOST_LINES := t3, c_MOST_LINES := PySem.W.mg_of X G q3, a_WAYS := p4, c_WAYS := PySem.W.mg_of X G q4, k_WAYS := ⟨_, #[.str "over" u4_0, .str "under" u4_1], n4, w4, rfl, rfl, (show 2 ≤ sizeLine by decide), .cons ⟨_, rfl⟩ (.cons ⟨_, rfl⟩ (.nil))⟩ }
  exact ⟨T.fd_law, fun s v => .of_eq rfl, fun base _ _ => ok_law T⟩
end K02
open PySem PySem.W PyProof.Rows
set_option maxHeartbeats 0 in
theorem PySem.Challenge.cw_foldpress_k02_schemes_made_holds : PySem.Challenge.rw_foldpress_k02_schemes_made.Holds := by
  w_on; o_law; k_head; (case hw => w_witness2)
  k_fill
  refine L2.walk_of (l := PySem.Challenge.rw_foldpress_k02_schemes_made) (n := 63) (k := 11) (x := "_law_script") (CX := fun _ => L2.CX0) (sp := fun w => FP.spF _ K02.R_law) rfl (by decide) rfl ⟨rfl, by decide, by decide⟩ (fun w h Y => PySem.W.kIn_of Y) ?F (fun _ _ a ns hl _ hS => K02.start_law hl hS) (fun _ _ _ _ _ h => h)
  case F =>
    intro w mg fa h KX G hmg
    refine' K02.all_mk KX G hmg ?aC_PressError ?aC_BadRow ?aC_BadScheme ?aC_BadSheet ?aC_BadBook ?aC_TooGreat ?aC_OutOfPlace ?aC_Scheme ?in_BadRow ?in_BadScheme ?at_Scheme___init__ ?at_Scheme_told ?l0 ?c0 ?kk_BadRow___init__ ?l1 ?c1 ?kk_BadScheme___init__ ?a2 ?l2 ?c2 ?kk_is_whole ?a3 ?l3 ?c3 ?kk_is_among ?l4 ?c4 ?kk_Scheme___init__ ?l5 ?c5 ?kk_Scheme_told ?a6 ?l6 ?c6 ?kk_is_size ?a7 ?l7 ?c7 ?kk_first_wrong_fold ?a8 ?l8 ?c8 ?kk_size_after ?a9 ?l9 ?c9 ?kk__is_fold ?a10 ?l10 ?c10 ?kk__is_word_of ?a11 ?l11 ?c11 ?kk__law_mixed ?a12 ?l12 ?c12 ?kk__law_kinds ?a13 ?l13 ?c13 ?kk__law_size ?a14 ?l14 ?c14 ?kk__law_folds ?a15 ?l15 ?c15 ?kk__law_scheme ?a16 ?l16 ?c16 ?kk__law_bad_fold ?a17 ?l17 ?c17 ?kk__law_left ?a18 ?l18 ?c18 ?kk__law_refused ?a19 ?l19 ?c19 ?kk__law_sizes_refused ?a20 ?l20 ?c20 ?kk__law_by_hand ?a21 ?l21 ?c21 ?kk_law ?xs_PressError ?xt_PressError ?xh_PressError ?bs_PressError ?br_PressError ?bf_PressError ?xs_BadRow ?xt_BadRow ?xh_BadRow ?k_BadRow ?hg_BadRow ?hk_BadRow ?ha_BadRow ?hn_BadRow ?ht_BadRow ?hm_BadRow ?xc_PressError_BadRow ?sa_BadRow ?xl_BadRow ?ft_BadRow___init__ ?nf_row_BadRow ?nf_word_BadRow ?xs_BadScheme ?xt_BadScheme ?xh_BadScheme ?k_BadScheme ?hg_BadScheme ?hk_BadScheme ?ha_BadScheme ?hn_BadScheme ?ht_BadScheme ?hm_BadScheme ?xc_PressError_BadScheme ?sa_BadScheme ?xl_BadScheme ?ft_BadScheme___init__ ?nf_at_BadScheme ?xs_BadSheet ?xt_BadSheet ?xh_BadSheet ?k_BadSheet ?hg_BadSheet ?hk_BadSheet ?ha_BadSheet ?hn_BadSheet ?ht_BadSheet ?hm_BadSheet ?xc_PressError_BadSheet ?q_BadSheet ?xs_BadBook ?xt_BadBook ?xh_BadBook ?k_BadBook ?hg_BadBook ?hk_BadBook ?ha_BadBook ?hn_BadBook ?ht_BadBook ?hm_BadBook ?xc_PressError_BadBook ?q_BadBook ?xs_TooGreat ?xt_TooGreat ?xh_TooGreat ?k_TooGreat ?hg_TooGreat ?hk_TooGreat ?ha_TooGreat ?hn_TooGreat ?ht_TooGreat ?hm_TooGreat ?xc_PressError_TooGreat ?q_TooGreat ?xs_OutOfPlace ?xt_OutOfPlace ?xh_OutOfPlace ?k_OutOfPlace ?hg_OutOfPlace ?hk_OutOfPlace ?ha_OutOfPlace ?hn_OutOfPlace ?ht_OutOfPlace ?hm_OutOfPlace ?xc_PressError_OutOfPlace ?q_OutOfPlace ?pg_Scheme ?hd_Scheme ?po_Scheme ?sa_Scheme ?na__rows_Scheme ?na__columns_Scheme ?na__folds_Scheme ?fn_Scheme___init__ ?mi_Scheme ?kc_Scheme ?fn_Scheme_told ?ki_BadRow_BadRow ?ki_BadRow_BadScheme ?ki_BadRow_BadSheet ?ki_BadRow_BadBook ?ki_BadRow_TooGreat ?ki_BadRow_OutOfPlace ?ki_BadRow_ValueError ?ki_BadRow_PressError ?ki_BadScheme_BadRow ?ki_BadScheme_BadScheme ?ki_BadScheme_BadSheet ?ki_BadScheme_BadBook ?ki_BadScheme_TooGreat ?ki_BadScheme_OutOfPlace ?ki_BadScheme_ValueError ?ki_BadScheme_PressError ?ki_BadSheet_BadRow ?ki_BadSheet_BadScheme ?ki_BadSheet_BadSheet ?ki_BadSheet_BadBook ?ki_BadSheet_TooGreat ?ki_BadSheet_OutOfPlace ?ki_BadSheet_ValueError ?ki_BadSheet_PressError ?ki_BadBook_BadRow ?ki_BadBook_BadScheme ?ki_BadBook_BadSheet ?ki_BadBook_BadBook ?ki_BadBook_TooGreat ?ki_BadBook_OutOfPlace ?ki_BadBook_ValueError ?ki_BadBook_PressError ?ki_TooGreat_BadRow ?ki_TooGreat_BadScheme ?ki_TooGreat_BadSheet ?ki_TooGreat_BadBook ?ki_TooGreat_TooGreat ?ki_TooGreat_OutOfPlace ?ki_TooGreat_ValueError ?ki_TooGreat_PressError ?ki_OutOfPlace_BadRow ?ki_OutOfPlace_BadScheme ?ki_OutOfPlace_BadSheet ?ki_OutOfPlace_BadBook ?ki_OutOfPlace_TooGreat ?ki_OutOfPlace_OutOfPlace ?ki_OutOfPlace_ValueError ?ki_OutOfPlace_PressError ?z0 ?z1 ?z2 ?z3 ?z4 ?z5 ?z6 ?z7 ?z8 ?z9 ?z10 ?z11 ?q0 ?w0 ?q1 ?w1 ?q2 ?q3 ?q4 ?w4
    (case aC_PressError => k_is); (case aC_BadRow => k_is); (case aC_BadScheme => k_is); (case aC_BadSheet => k_is); (case aC_BadBook => k_is); (case aC_TooGreat => k_is); (case aC_OutOfPlace => k_is); (case aC_Scheme => k_is); (case in_BadRow => k_is); (case in_BadScheme => k_is); (case at_Scheme___init__ => k_is); (case at_Scheme_told => k_is); (case l0 => k_is); (case c0 => k_is); (case kk_BadRow___init__ => k_is); (case l1 => k_is); (case c1 => k_is); (case kk_BadScheme___init__ => k_is); (case a2 => k_is); (case l2 => k_is); (case c2 => k_is); (case kk_is_whole => k_is); (case a3 => k_is); (case l3 => k_is); (case c3 => k_is); (case kk_is_among => k_is); (case l4 => k_is); (case c4 => k_is); (case kk_Scheme___init__ => k_is); (case l5 => k_is); (case c5 => k_is); (case kk_Scheme_told => k_is); (case a6 => k_is); (case l6 => k_is); (case c6 => k_is); (case kk_is_size => k_is); (case a7 => k_is); (case l7 => k_is); (case c7 => k_is); (case kk_first_wrong_fold => k_is); (case a8 => k_is); (case l8 => k_is); (case c8 => k_is); (case kk_size_after => k_is); (case a9 => k_is); (case l9 => k_is); (case c9 => k_is); (case kk__is_fold => k_is); (case a10 => k_is); (case l10 => k_is); (case c10 => k_is); (case kk__is_word_of => k_is); (case a11 => k_is); (case l11 => k_is); (case c11 => k_is); (case kk__law_mixed => k_is); (case a12 => k_is); (case l12 => k_is); (case c12 => k_is); (case kk__law_kinds => k_is); (case a13 => k_is); (case l13 => k_is); (case c13 => k_is); (case kk__law_size => k_is); (case a14 => k_is); (case l14 => k_is); (case c14 => k_is); (case kk__law_folds => k_is); (case a15 => k_is); (case l15 => k_is); (case c15 => k_is); (case kk__law_scheme => k_is); (case a16 => k_is); (case l16 => k_is); (case c16 => k_is); (case kk__law_bad_fold => k_is); (case a17 => k_is); (case l17 => k_is); (case c17 => k_is); (case kk__law_left => k_is); (case a18 => k_is); (case l18 => k_is); (case c18 => k_is); (case kk__law_refused => k_is); (case a19 => k_is); (case l19 => k_is); (case c19 => k_is); (case kk__law_sizes_refused => k_is); (case a20 => k_is); (case l20 => k_is); (case c20 => k_is); (case kk__law_by_hand => k_is); (case a21 => k_is); (case l21 => k_is); (case c21 => k_is); (case kk_law => k_is); (case xs_PressError => k_is); (case xt_PressError => k_is); (case xh_PressError => k_is); (case bs_PressError => k_is); (case br_PressError => k_is); (case bf_PressError => k_is); (case xs_BadRow => k_is); (case xt_BadRow => k_is); (case xh_BadRow => k_is); (case k_BadRow => k_is); (case hg_BadRow => k_is); (case hk_BadRow => k_is); (case ha_BadRow => k_is); (case hn_BadRow => k_is); (case ht_BadRow => k_is); (case hm_BadRow => k_is); (case xc_PressError_BadRow => k_is); (case sa_BadRow => k_is); (case xl_BadRow => k_is); (case ft_BadRow___init__ => k_is); (case nf_row_BadRow => k_is); (case nf_word_BadRow => k_is); (case xs_BadScheme => k_is); (case xt_BadScheme => k_is); (case xh_BadScheme => k_is); (case k_BadScheme => k_is); (case hg_BadScheme => k_is); (case hk_BadScheme => k_is); (case ha_BadScheme => k_is); (case hn_BadScheme => k_is); (case ht_BadScheme => k_is); (case hm_BadScheme => k_is); (case xc_PressError_BadScheme => k_is); (case sa_BadScheme => k_is); (case xl_BadScheme => k_is); (case ft_BadScheme___init__ => k_is); (case nf_at_BadScheme => k_is); (case xs_BadSheet => k_is); (case xt_BadSheet => k_is); (case xh_BadSheet => k_is); (case k_BadSheet => k_is); (case hg_BadSheet => k_is); (case hk_BadSheet => k_is); (case ha_BadSheet => k_is); (case hn_BadSheet => k_is); (case ht_BadSheet => k_is); (case hm_BadSheet => k_is); (case xc_PressError_BadSheet => k_is); (case q_BadSheet => k_exc); (case xs_BadBook => k_is); (case xt_BadBook => k_is); (case xh_BadBook => k_is); (case k_BadBook => k_is); (case hg_BadBook => k_is); (case hk_BadBook => k_is); (case ha_BadBook => k_is); (case hn_BadBook => k_is); (case ht_BadBook => k_is); (case hm_BadBook => k_is); (case xc_PressError_BadBook => k_is); (case q_BadBook => k_exc); (case xs_TooGreat => k_is); (case xt_TooGreat => k_is); (case xh_TooGreat => k_is); (case k_TooGreat => k_is); (case hg_TooGreat => k_is); (case hk_TooGreat => k_is); (case ha_TooGreat => k_is); (case hn_TooGreat => k_is); (case ht_TooGreat => k_is); (case hm_TooGreat => k_is); (case xc_PressError_TooGreat => k_is); (case q_TooGreat => k_exc); (case xs_OutOfPlace => k_is); (case xt_OutOfPlace => k_is); (case xh_OutOfPlace => k_is); (case k_OutOfPlace => k_is); (case hg_OutOfPlace => k_is); (case hk_OutOfPlace => k_is); (case ha_OutOfPlace => k_is); (case hn_OutOfPlace => k_is); (case ht_OutOfPlace => k_is); (case hm_OutOfPlace => k_is); (case xc_PressError_OutOfPlace => k_is); (case q_OutOfPlace => k_exc); (case pg_Scheme => k_is); (case hd_Scheme => k_is); (case po_Scheme => k_is); (case sa_Scheme => k_is); (case na__rows_Scheme => k_is); (case na__columns_Scheme => k_is); (case na__folds_Scheme => k_is); (case fn_Scheme___init__ => k_is); (case mi_Scheme => k_is); (case kc_Scheme => k_is); (case fn_Scheme_told => k_is); (case ki_BadRow_BadRow => kit_is); (case ki_BadRow_BadScheme => kit_is); (case ki_BadRow_BadSheet => kit_is); (case ki_BadRow_BadBook => kit_is); (case ki_BadRow_TooGreat => kit_is); (case ki_BadRow_OutOfPlace => kit_is); (case ki_BadRow_ValueError => kit_is); (case ki_BadRow_PressError => kit_is); (case ki_BadScheme_BadRow => kit_is); (case ki_BadScheme_BadScheme => kit_is); (case ki_BadScheme_BadSheet => kit_is); (case ki_BadScheme_BadBook => kit_is); (case ki_BadScheme_TooGreat => kit_is); (case ki_BadScheme_OutOfPlace => kit_is); (case ki_BadScheme_ValueError => kit_is); (case ki_BadScheme_PressError => kit_is); (case ki_BadSheet_BadRow => kit_is); (case ki_BadSheet_BadScheme => kit_is); (case ki_BadSheet_BadSheet => kit_is); (case ki_BadSheet_BadBook => kit_is); (case ki_BadSheet_TooGreat => kit_is); (case ki_BadSheet_OutOfPlace => kit_is); (case ki_BadSheet_ValueError => kit_is); (case ki_BadSheet_PressError => kit_is); (case ki_BadBook_BadRow => kit_is); (case ki_BadBook_BadScheme => kit_is); (case ki_BadBook_BadSheet => kit_is); (case ki_BadBook_BadBook => kit_is); (case ki_BadBook_TooGreat => kit_is); (case ki_BadBook_OutOfPlace => kit_is); (case ki_BadBook_ValueError => kit_is); (case ki_BadBook_PressError => kit_is); (case ki_TooGreat_BadRow => kit_is); (case ki_TooGreat_BadScheme => kit_is); (case ki_TooGreat_BadSheet => kit_is); (case ki_TooGreat_BadBook => kit_is); (case ki_TooGreat_TooGreat => kit_is); (case ki_TooGreat_OutOfPlace => kit_is); (case ki_TooGreat_ValueError => kit_is); (case ki_TooGreat_PressError => kit_is); (case ki_OutOfPlace_BadRow => kit_is); (case ki_OutOfPlace_BadScheme => kit_is); (case ki_OutOfPlace_BadSheet => kit_is); (case ki_OutOfPlace_BadBook => kit_is); (case ki_OutOfPlace_TooGreat => kit_is); (case ki_OutOfPlace_OutOfPlace => kit_is); (case ki_OutOfPlace_ValueError => kit_is); (case ki_OutOfPlace_PressError => kit_is); (case z0 => k_is); (case z1 => k_is); (case z2 => k_is); (case z3 => k_is); (case z4 => k_is); (case z5 => k_is); (case z6 => k_is); (case z7 => k_is); (case z8 => k_is); (case z9 => k_is); (case z10 => k_is); (case z11 => k_is); (case q0 => k_is); (case w0 => k_is); (case q1 => k_is); (case w1 => k_is); (case q2 => k_is); (case q3 => k_is); (case q4 => k_is); (case w4 => k_is)
