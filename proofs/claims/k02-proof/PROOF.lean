import PyProof.Rows.All
import Wide.All
import OpenK.AllK
import Wide.FinOn
import HandS.ForMost
import HandS.Wide
import HandS.WideBits
import HandS.Gcd
import HandS.Flow
import HandS.TupAny
import HandS.Style
import HandS.Defaults
import HandS.IsInst
import HandS.Zip
import KE.GoesMore
import KE.KRevSl
import HandS.EndBits
import HandS.HeadEnd
import HandS.SetFor
import HandS.TupSets
import HandS.DictComp
import HandS.SortInts
import HandS.HeadHook2
import HandS.RaiseMore
import KE.KStateDown
import HandS.More
import HandS.Words
import HandS.WordsExc
import HandS.Head0
import HandS.Head1
import HandS.Head2
import HandS.Head3
import HandS.HeadHook1
import PySem.Challenge.RW_samegaps_k02_whole_rows_and_heaps_of_any
section
set_option Elab.async false
set_option linter.all false
set_option maxRecDepth 100000
/-! A layer of values over the hand layer: what a body's reading does, said over plain data. Data that nobody changes are trees;
a list or dict that its slot alone owns is a box; what a def does is a function of its parameters' cells. -/
namespace DL
open PySem L2

abbrev D := PyData

/-! ### data at a value: every address it is read through satisfies ok (or is the module's own) -/
def KLs (K : PySem.W.Frag) (a : Addr) (xs : List V) : Prop :=
  ∃ (o : Obj) (its : Array Value) (n : Nat), K.lookup a = some o ∧ o.cls = .type "list" ∧ o.dict = none ∧ o.data = .seq its n ∧ its.size ≤ sizeLine ∧ Vals xs its.toList
def KTp (K : PySem.W.Frag) (a : Addr) (xs : List V) : Prop :=
  ∃ (o : Obj) (its : Array Value) (n : Nat), K.lookup a = some o ∧ o.cls = .type "tuple" ∧ o.data = .seq its n ∧ its.size ≤ sizeLine ∧ Vals xs its.toList
mutual
inductive Sh (K : PySem.W.Frag) (ok : Addr → Prop) (H : Hp) : V → D → Prop
  | non : Sh K ok H .non .none
  | bl (b : Bool) : Sh K ok H (.bl b) (.bool b)
  | int (i : Int) : Sh K ok H (.int i) (.int i)
  | str (x : Str) : Sh K ok H (.str x) (.str x)
  | lst {a : Addr} {xs : List V} {ds : List D} : Rd H a (.lst xs) → ok a → ShAll K ok H xs ds → Sh K ok H (.ref a) (.list ds)
  | lstK {a : Addr} {xs : List V} {ds : List D} : KLs K a xs → ShAll K ok H xs ds → Sh K ok H (.ref a) (.list ds)
  | tup {a : Addr} {xs : List V} {ds : List D} : Rd H a (.tup xs) → ok a → ShAll K ok H xs ds → Sh K ok H (.ref a) (.tuple ds)
  | tupK {a : Addr} {xs : List V} {ds : List D} : KTp K a xs → ShAll K ok H xs ds → Sh K ok H (.ref a) (.tuple ds)
  /-- some dict, nothing known of it -/
  | dct {a : Addr} {ws : List (Key × V)} : H a = some (.dK ws) → ok a → Sh K ok H (.ref a) (.dict [])
inductive ShAll (K : PySem.W.Frag) (ok : Addr → Prop) (H : Hp) : List V → List D → Prop
  | nil : ShAll K ok H [] []
  | cons {v : V} {vs : List V} {d : D} {ds : List D} : Sh K ok H v d → ShAll K ok H vs ds → ShAll K ok H (v :: vs) (d :: ds)
end
/-- from one heap and set of addresses to another -/
def Go (ok ok' : Addr → Prop) (H H' : Hp) : Prop := ∀ a o, H a = some o → ok a → H' a = some o ∧ ok' a
theorem Rd.goes {ok ok' : Addr → Prop} {H H' : Hp} (g : Go ok ok' H H') {a : Addr} {u : HO} (h : Rd H a u) (k : ok a) : Rd H' a u ∧ ok' a := by
  rcases h with h | ⟨o, h⟩
  · obtain ⟨h1, h2⟩ := g a _ h k
    exact ⟨.inl h1, h2⟩
  · obtain ⟨h1, h2⟩ := g a _ h k
    exact ⟨.inr ⟨o, h1⟩, h2⟩
section
variable {K : PySem.W.Frag} {ok ok' : Addr → Prop} {H H' : Hp}
mutual
theorem Sh.goes (g : Go ok ok' H H') : ∀ {v : V} {d : D}, Sh K ok H v d → Sh K ok' H' v d
  | _, _, .non => .non
  | _, _, .bl b => .bl b
  | _, _, .int i => .int i
  | _, _, .str x => .str x
  | _, _, .lst h k r => .lst (Rd.goes g h k).1 (Rd.goes g h k).2 (ShAll.goes g r)
  | _, _, .lstK h r => .lstK h (ShAll.goes g r)
  | _, _, .tup h k r => .tup (Rd.goes g h k).1 (Rd.goes g h k).2 (ShAll.goes g r)
  | _, _, .tupK h r => .tupK h (ShAll.goes g r)
  | _, _, .dct h k => .dct (g _ _ h k).1 (g _ _ h k).2
theorem ShAll.goes (g : Go ok ok' H H') : ∀ {vs : List V} {ds : List D}, ShAll K ok H vs ds → ShAll K ok' H' vs ds
  | _, _, .nil => .nil
  | _, _, .cons h r => .cons (Sh.goes g h) (ShAll.goes g r)
end
theorem ShAll.length {vs : List V} {ds : List D} (h : ShAll K ok H vs ds) : vs.length = ds.length := by
  induction ds generalizing vs with
  | nil => cases h; rfl
  | cons d ds ih => cases h with | cons a b => rw [List.length_cons, List.length_cons, ih b]
theorem ShAll.get {vs : List V} {ds : List D} (h : ShAll K ok H vs ds) : ∀ {i : Nat} {v : V}, vs[i]? = some v → ∃ d, ds[i]? = some d ∧ Sh K ok H v d := by
  induction ds generalizing vs with
  | nil => intro i v e; cases h; simp at e
  | cons d ds ih =>
    intro i v e
    cases h with
    | cons a b =>
      cases i with
      | zero => cases (Option.some.inj e); exact ⟨d, rfl, a⟩
      | succ i => exact ih b (by simpa using e)
theorem ShAll.get' {vs : List V} {ds : List D} (h : ShAll K ok H vs ds) : ∀ {i : Nat} {d : D}, ds[i]? = some d → ∃ v, vs[i]? = some v ∧ Sh K ok H v d := by
  induction ds generalizing vs with
  | nil => intro i v e; simp at e
  | cons d ds ih =>
    intro i v e
    cases h with
    | cons a b =>
      cases i with
      | zero => cases (Option.some.inj e); exact ⟨_, rfl, a⟩
      | succ i => exact ih b (by simpa using e)
theorem ShAll.append {vs ws : List V} {ds es : List D} (h : ShAll K ok H vs ds) (k : ShAll K ok H ws es) : ShAll K ok H (vs ++ ws) (ds ++ es) := by
  induction ds generalizing vs with
  | nil => cases h; exact k
  | cons d ds ih => cases h with | cons a b => exact .cons a (ih b)
theorem ShAll.set {v : V} {d : D} (k : Sh K ok H v d) {vs : List V} {ds : List D} (h : ShAll K ok H vs ds) (i : Nat) : ShAll K ok H (vs.set i v) (ds.set i d) := by
  induction ds generalizing vs i with
  | nil => cases h; exact .nil
  | cons e ds ih =>
    cases h with
    | cons a b =>
      cases i with
      | zero => exact .cons k b
      | succ i => exact .cons a (ih b i)
theorem ShAll.take {vs : List V} {ds : List D} (h : ShAll K ok H vs ds) (n : Nat) : ShAll K ok H (vs.take n) (ds.take n) := by
  induction ds generalizing vs n with
  | nil => cases h; rw [List.take_nil, List.take_nil]; exact .nil
  | cons e ds ih =>
    cases h with
    | cons a b =>
      cases n with
      | zero => exact .nil
      | succ n => exact .cons a (ih b n)
theorem ShAll.drop {vs : List V} {ds : List D} (h : ShAll K ok H vs ds) (n : Nat) : ShAll K ok H (vs.drop n) (ds.drop n) := by
  induction ds generalizing vs n with
  | nil => cases h; rw [List.drop_nil, List.drop_nil]; exact .nil
  | cons e ds ih =>
    cases h with
    | cons a b =>
      cases n with
      | zero => exact .cons a b
      | succ n => exact ih b n
theorem ShAll.reverse {vs : List V} {ds : List D} (h : ShAll K ok H vs ds) : ShAll K ok H vs.reverse ds.reverse := by
  induction ds generalizing vs with
  | nil => cases h; exact .nil
  | cons e ds ih =>
    cases h with
    | cons a b =>
      rw [List.reverse_cons, List.reverse_cons]
      exact (ih b).append (.cons a .nil)
/-! data as the hand layer's Dp -/
theorem KLs.sq {a : Addr} {xs : List V} (h : KLs K a xs) : SqL K H a xs := .inr h
theorem KTp.sq {a : Addr} {xs : List V} (h : KTp K a xs) : SqT K H a xs := .inr h
mutual
theorem Sh.dp : ∀ {v : V} {d : D}, Sh K ok H v d → d.hasDict = false → Dp K H v d
  | _, _, .non, _ => .non
  | _, _, .bl b, _ => .bl b
  | _, _, .int i, _ => .int i
  | _, _, .str x, _ => .str x
  | _, _, .lst h _ r, e => .lst (.inl h) (ShAll.dp r e)
  | _, _, .lstK h r, e => .lst h.sq (ShAll.dp r e)
  | _, _, .tup h _ r, e => .tup (.inl h) (ShAll.dp r e)
  | _, _, .tupK h r, e => .tup h.sq (ShAll.dp r e)
  | _, _, .dct _ _, e => by cases e
theorem ShAll.dp : ∀ {vs : List V} {ds : List D}, ShAll K ok H vs ds → PyData.hasDictAll ds = false → DpAll K H vs ds
  | _, _, .nil, _ => .nil
  | _, _, .cons (d := d) (ds := ds) h r, e => by
    have e' : (d.hasDict || PyData.hasDictAll ds) = false := e
    obtain ⟨e1, e2⟩ := Bool.or_eq_false_iff.mp e'
    exact .cons (Sh.dp h e1) (ShAll.dp r e2)
end
/-- a list's items -/
theorem Sh.list_inv {v : V} {ds : List D} (h : Sh K ok H v (.list ds)) : ∃ a xs, v = .ref a ∧ SqL K H a xs ∧ ShAll K ok H xs ds ∧ ((Rd H a (.lst xs) ∧ ok a) ∨ KLs K a xs) := by
  cases h with
  | lst h k r => exact ⟨_, _, rfl, .inl h, r, .inl ⟨h, k⟩⟩
  | lstK h r => exact ⟨_, _, rfl, h.sq, r, .inr h⟩
theorem Sh.tup_inv {v : V} {ds : List D} (h : Sh K ok H v (.tuple ds)) : ∃ a xs, v = .ref a ∧ SqT K H a xs ∧ ShAll K ok H xs ds ∧ ((Rd H a (.tup xs) ∧ ok a) ∨ KTp K a xs) := by
  cases h with
  | tup h k r => exact ⟨_, _, rfl, .inl h, r, .inl ⟨h, k⟩⟩
  | tupK h r => exact ⟨_, _, rfl, h.sq, r, .inr h⟩
theorem ShAll.ints {vs : List V} {ns : List Int} (h : ShAll K ok H vs (ns.map PyData.int)) : vs = ns.map V.int := by
  induction ns generalizing vs with
  | nil => cases h; rfl
  | cons n ns ih => cases h with | cons a b => cases a; rw [ih b]; rfl
theorem ShAll.of_ints : ∀ ns : List Int, ShAll K ok H (ns.map V.int) (ns.map PyData.int)
  | [] => .nil
  | n :: ns => .cons (.int n) (ShAll.of_ints ns)
theorem ShAll.bools {vs : List V} {bs : List Bool} (h : ShAll K ok H vs (bs.map PyData.bool)) : vs = bs.map V.bl := by
  induction bs generalizing vs with
  | nil => cases h; rfl
  | cons n ns ih => cases h with | cons a b => cases a; rw [ih b]; rfl
end

/-! ### cells, boxes, values -/
inductive Box where
  | l (xs : List D)
  | m (kvs : List (Key × D))
inductive Cl where
  | un
  | d (x : D)
  /-- a box that the slot owns; k: the parameter that it came by -/
  | o (k : Option Nat) (b : Box)
inductive Val where
  | d (x : D)
  /-- a new box that nobody else knows -/
  | f (b : Box)
  /-- the box of a slot -/
  | b (i : Nat)
abbrev En := List Cl
def BoxAt (K : PySem.W.Frag) (ok : Addr → Prop) (H : Hp) (p : Addr) : Box → Prop
  | .l xs => ∃ vs, H p = some (.lst vs) ∧ ShAll K ok H vs xs
  | .m kvs => ∃ ws : List (Key × V), H p = some (.dK ws) ∧ ws.map (·.1) = kvs.map (·.1) ∧ ShAll K ok H (ws.map (·.2)) (kvs.map (·.2))
theorem BoxAt.tracked {K : PySem.W.Frag} {ok : Addr → Prop} {H : Hp} {p : Addr} {b : Box} (h : BoxAt K ok H p b) : ∃ o, H p = some o := by
  cases b with
  | l xs => obtain ⟨vs, e, _⟩ := h; exact ⟨_, e⟩
  | m kvs => obtain ⟨vs, e, _⟩ := h; exact ⟨_, e⟩
theorem BoxAt.goes {K : PySem.W.Frag} {ok ok' : Addr → Prop} {H H' : Hp} {p : Addr} {b : Box} (g : Go ok ok' H H') (e : H' p = H p) (h : BoxAt K ok H p b) : BoxAt K ok' H' p b := by
  cases b with
  | l xs => obtain ⟨vs, h1, h2⟩ := h; exact ⟨vs, e.trans h1, h2.goes g⟩
  | m kvs => obtain ⟨ws, h1, h2, h3⟩ := h; exact ⟨ws, e.trans h1, h2, h3.goes g⟩
/-- the slot i owns p -/
def Owd (σ : L2.St) (env : En) (i : Nat) (p : Addr) : Prop := (∃ k b, env[i]? = some (Cl.o k b)) ∧ σ[i]? = some (some (V.ref p))
def Slt (σ : L2.St) (env : En) (p : Addr) : Prop := ∃ i, Owd σ env i p
def Ownd (tmp : Addr → Prop) (σ : L2.St) (env : En) (p : Addr) : Prop := Slt σ env p ∨ tmp p
/-- what nobody owns -/
abbrev Nb (tmp : Addr → Prop) (σ : L2.St) (env : En) : Addr → Prop := fun p => ¬ Ownd tmp σ env p

structure Okk (K : PySem.W.Frag) (pa : Nat → Option Addr) (tmp : Addr → Prop) (H : Hp) (σ : L2.St) (env : En) : Prop where
  len : σ.length = env.length
  dat : ∀ (i : Nat) (x : D), env[i]? = some (Cl.d x) → ∃ v, σ[i]? = some (some v) ∧ Sh K (Nb tmp σ env) H v x
  own : ∀ (i : Nat) (k : Option Nat) (b : Box), env[i]? = some (Cl.o k b) → ∃ p, σ[i]? = some (some (V.ref p)) ∧ BoxAt K (Nb tmp σ env) H p b ∧ ¬ tmp p ∧ ∀ j, k = some j → pa j = some p
  inj : ∀ i j p, Owd σ env i p → Owd σ env j p → i = j
  tin : ∀ p, tmp p → H p ≠ none
theorem Okk.slotTracked {K : PySem.W.Frag} {pa : Nat → Option Addr} {tmp : Addr → Prop} {H : Hp} {σ : L2.St} {env : En} (I : Okk K pa tmp H σ env) {p : Addr} (h : Slt σ env p) : H p ≠ none := by
  obtain ⟨i, ⟨k, b, e⟩, es⟩ := h
  obtain ⟨q, e1, e2, _⟩ := I.own i k b e
  rw [es] at e1
  cases e1
  obtain ⟨o, eo⟩ := e2.tracked
  rw [eo]
  exact fun z => by cases z
theorem Okk.slotNotTmp {K : PySem.W.Frag} {pa : Nat → Option Addr} {tmp : Addr → Prop} {H : Hp} {σ : L2.St} {env : En} (I : Okk K pa tmp H σ env) {p : Addr} (h : Slt σ env p) : ¬ tmp p := by
  obtain ⟨i, ⟨k, b, e⟩, es⟩ := h
  obtain ⟨q, e1, _, e3, _⟩ := I.own i k b e
  rw [es] at e1
  cases e1
  exact e3

/-! ### steps -/
/-- behind an expression: the slots stand -/
structure Sp1 (σ : L2.St) (env env' : En) (tmp tmp' : Addr → Prop) (H H' : Hp) : Prop where
  keep : ∀ a o, H a = some o → ¬ Slt σ env a → H' a = some o
  sub : ∀ i p, Owd σ env' i p → Owd σ env i p
  inc : ∀ p, tmp p → tmp' p
  new : ∀ p, tmp' p → tmp p ∨ H p = none
  trk : ∀ a, H a ≠ none → H' a ≠ none
theorem Sp1.slot {σ : L2.St} {env env' : En} {tmp tmp' : Addr → Prop} {H H' : Hp} (s : Sp1 σ env env' tmp tmp' H H') {p : Addr} (h : Slt σ env' p) : Slt σ env p := let ⟨i, q⟩ := h; ⟨i, s.sub i p q⟩
theorem Sp1.refl {σ : L2.St} {env : En} {tmp : Addr → Prop} {H : Hp} : Sp1 σ env env tmp tmp H H := ⟨fun _ _ e _ => e, fun _ _ h => h, fun _ h => h, fun _ h => .inl h, fun _ h => h⟩
theorem Sp1.trans {σ : L2.St} {e0 e1 e2 : En} {t0 t1 t2 : Addr → Prop} {H0 H1 H2 : Hp} (a : Sp1 σ e0 e1 t0 t1 H0 H1) (b : Sp1 σ e1 e2 t1 t2 H1 H2) : Sp1 σ e0 e2 t0 t2 H0 H2 where
  keep := fun p o h n => b.keep p o (a.keep p o h n) fun z => n (a.slot z)
  sub := fun i p h => a.sub i p (b.sub i p h)
  inc := fun p h => b.inc p (a.inc p h)
  new := fun p h => by
    rcases b.new p h with h | h
    · exact a.new p h
    · refine .inr ?_
      cases e : H0 p with
      | none => rfl
      | some o => exact absurd h (a.trk p (by rw [e]; exact fun z => by cases z))
  trk := fun p h => b.trk p (a.trk p h)
theorem Sp1.goes {σ : L2.St} {env env' : En} {tmp tmp' : Addr → Prop} {H H' : Hp} (s : Sp1 σ env env' tmp tmp' H H') : Go (Nb tmp σ env) (Nb tmp' σ env') H H' := fun a o e k => by
  refine ⟨s.keep a o e fun z => k (.inl z), fun z => ?_⟩
  rcases z with z | z
  · exact k (.inl (s.slot z))
  · rcases s.new a z with z | z
    · exact k (.inr z)
    · rw [e] at z
      cases z
/-- what a value's value is -/
def PostV (K : PySem.W.Frag) (tmp0 tmp : Addr → Prop) (H : Hp) (σ : L2.St) (env : En) (u : V) : Val → Prop
  | .d x => Sh K (Nb tmp σ env) H u x
  | .f b => ∃ p, u = .ref p ∧ tmp p ∧ ¬ tmp0 p ∧ ¬ Slt σ env p ∧ BoxAt K (Nb tmp σ env) H p b
  | .b i => σ[i]? = some (some u)
theorem PostV.step {K : PySem.W.Frag} {tmp0 : Addr → Prop} {σ : L2.St} {env env' : En} {tmp tmp' : Addr → Prop} {H H' : Hp} {u : V} {v : Val} (s : Sp1 σ env env' tmp tmp' H H') (h : PostV K tmp0 tmp H σ env u v) : PostV K tmp0 tmp' H' σ env' u v := by
  cases v with
  | d x => exact Sh.goes s.goes h
  | f b =>
    obtain ⟨p, e, h1, h0, h2, h3⟩ := h
    obtain ⟨o, eo⟩ := h3.tracked
    exact ⟨p, e, s.inc p h1, h0, fun z => h2 (s.slot z), h3.goes s.goes ((s.keep p o eo h2).trans eo.symm)⟩
  | b i => exact h
theorem PostV.tmp0 {K : PySem.W.Frag} {t t0 : Addr → Prop} {σ : L2.St} {env : En} {tmp : Addr → Prop} {H : Hp} {u : V} {v : Val} (h : PostV K t0 tmp H σ env u v) (k : ∀ p, t p → t0 p) : PostV K t tmp H σ env u v := by
  cases v with
  | d x => exact h
  | f b =>
    obtain ⟨p, e, h1, h0, h2, h3⟩ := h
    exact ⟨p, e, h1, fun z => h0 (k p z), h2, h3⟩
  | b i => exact h
/-- temporaries forgotten -/
theorem Nb.less {tmp tmp' : Addr → Prop} {σ : L2.St} {env : En} (k : ∀ p, tmp' p → tmp p) {H : Hp} : Go (Nb tmp σ env) (Nb tmp' σ env) H H := fun a o e h => ⟨e, fun z => h (z.imp id (k a))⟩
theorem Okk.less {K : PySem.W.Frag} {pa : Nat → Option Addr} {tmp tmp' : Addr → Prop} {H : Hp} {σ : L2.St} {env : En} (I : Okk K pa tmp H σ env) (k : ∀ p, tmp' p → tmp p) : Okk K pa tmp' H σ env where
  len := I.len
  dat := fun i x e => let ⟨v, h1, h2⟩ := I.dat i x e; ⟨v, h1, h2.goes (Nb.less k)⟩
  own := fun i kk b e => let ⟨p, h1, h2, h3, h4⟩ := I.own i kk b e; ⟨p, h1, h2.goes (Nb.less k) rfl, fun z => h3 (k p z), h4⟩
  inj := I.inj
  tin := fun p h => I.tin p (k p h)
theorem Sp1.less {σ : L2.St} {env env' : En} {tmp t1 t2 : Addr → Prop} {H H' : Hp} (s : Sp1 σ env env' tmp t1 H H') (k : ∀ p, t2 p → t1 p) (i : ∀ p, tmp p → t2 p) : Sp1 σ env env' tmp t2 H H' := ⟨s.keep, s.sub, i, fun p h => s.new p (k p h), s.trk⟩
/-- the heap grows -/
theorem Okk.grow {K : PySem.W.Frag} {pa : Nat → Option Addr} {tmp : Addr → Prop} {H H' : Hp} {σ : L2.St} {env : En} (I : Okk K pa tmp H σ env) (k : ∀ a o, H a = some o → H' a = some o) : Okk K pa tmp H' σ env where
  len := I.len
  dat := fun i x e => let ⟨v, h1, h2⟩ := I.dat i x e; ⟨v, h1, h2.goes fun a o e k2 => ⟨k a o e, k2⟩⟩
  own := fun i kk b e => let ⟨p, h1, h2, h3, h4⟩ := I.own i kk b e; ⟨p, h1, h2.goes (fun a o e k2 => ⟨k a o e, k2⟩) (let ⟨o, eo⟩ := h2.tracked; (k p o eo).trans eo.symm), h3, h4⟩
  inj := I.inj
  tin := fun p h => by
    cases e : H p with
    | none => exact absurd e (I.tin p h)
    | some o => rw [k p o e]; exact fun z => by cases z
theorem Sp1.grow {σ : L2.St} {env : En} {tmp : Addr → Prop} {H H' : Hp} (k : ∀ a o, H a = some o → H' a = some o) : Sp1 σ env env tmp tmp H H' :=
  ⟨fun a o e _ => k a o e, fun _ _ h => h, fun _ h => h, fun _ h => .inl h, fun a h => by
    cases e : H a with
    | none => exact absurd e h
    | some o => rw [k a o e]; exact fun z => by cases z⟩
theorem grow_upd {H : Hp} {p : Addr} {o : HO} (h : H p = none) : ∀ a u, H a = some u → upd H p o a = some u := fun a u e => by
  rw [upd_ne (ne_of_none e h)]
  exact e
/-- one more temporary -/
def mor (tmp : Addr → Prop) (p : Addr) : Addr → Prop := fun a => tmp a ∨ a = p
theorem Okk.more {K : PySem.W.Frag} {pa : Nat → Option Addr} {tmp : Addr → Prop} {H H' : Hp} {σ : L2.St} {env : En} {p : Addr} (I : Okk K pa tmp H σ env) (n : H p = none) (k : ∀ a o, H a = some o → H' a = some o) (t : H' p ≠ none) : Okk K pa (mor tmp p) H' σ env := by
  have g : Go (Nb tmp σ env) (Nb (mor tmp p) σ env) H H' := fun a o e h => ⟨k a o e, fun z => by
    rcases z with z | z | z
    · exact h (.inl z)
    · exact h (.inr z)
    · rw [z, n] at e; cases e⟩
  refine ⟨I.len, fun i x e => let ⟨v, h1, h2⟩ := I.dat i x e; ⟨v, h1, h2.goes g⟩, fun i kk b e => let ⟨q, h1, h2, h3, h4⟩ := I.own i kk b e; ⟨q, h1, h2.goes g (let ⟨o, eo⟩ := h2.tracked; (k q o eo).trans eo.symm), fun z => ?_, h4⟩, I.inj, fun q h => ?_⟩
  · rcases z with z | z
    · exact h3 z
    · obtain ⟨o, eo⟩ := h2.tracked
      rw [z, n] at eo
      cases eo
  · rcases h with h | h
    · exact (I.grow k).tin q h
    · rw [h]; exact t
theorem Sp1.more {σ : L2.St} {env : En} {tmp : Addr → Prop} {H H' : Hp} {p : Addr} (n : H p = none) (k : ∀ a o, H a = some o → H' a = some o) : Sp1 σ env env tmp (mor tmp p) H H' :=
  ⟨fun a o e _ => k a o e, fun _ _ h => h, fun _ h => .inl h, fun q h => h.imp id fun z => by rw [z]; exact n, (Sp1.grow (σ := σ) (env := env) (tmp := tmp) k).trk⟩
theorem notSlot_none {K : PySem.W.Frag} {pa : Nat → Option Addr} {tmp : Addr → Prop} {H : Hp} {σ : L2.St} {env : En} {p : Addr} (I : Okk K pa tmp H σ env) (n : H p = none) : ¬ Slt σ env p := fun z => I.slotTracked z n

/-! ### readings against plain functions -/
abbrev DE := En → Option (Val × En)
abbrev DB := En → Option (Bool × En)
abbrev DA := En → Option (List Val × En)
abbrev DI := En → Option (List D × En)
inductive Fl where | nx | bk | ct | rt (v : Val)
abbrev DS := En → Option (Fl × En)

def SE (K : PySem.W.Frag) (te : TE) (den : DE) : Prop := ∀ (pa : Nat → Option Addr) (tmp : Addr → Prop) (σ : L2.St) (H : Hp) (env : En), Okk K pa tmp H σ env → ∀ val env', den env = some (val, env') →
  ∀ Q : VK, (∀ u H' tmp', Sp1 σ env env' tmp tmp' H H' → Okk K pa tmp' H' σ env' → PostV K tmp tmp' H' σ env' u val → Q u H') → te σ H Q
def SB (K : PySem.W.Frag) (tt : TT) (den : DB) : Prop := ∀ (pa : Nat → Option Addr) (tmp : Addr → Prop) (σ : L2.St) (H : Hp) (env : En), Okk K pa tmp H σ env → ∀ c env', den env = some (c, env') →
  ∀ Q : Bool → Hp → Prop, (∀ H', Sp1 σ env env' tmp tmp H H' → Okk K pa tmp H' σ env' → Q c H') → tt σ H Q
def PVs (K : PySem.W.Frag) (tmp0 tmp : Addr → Prop) (H : Hp) (σ : L2.St) (env : En) : List V → List Val → Prop
  | [], [] => True
  | u :: us, v :: vs => PostV K tmp0 tmp H σ env u v ∧ PVs K tmp0 tmp H σ env us vs
  | _, _ => False
def SA (K : PySem.W.Frag) (ta : TA) (den : DA) : Prop := ∀ (pa : Nat → Option Addr) (tmp : Addr → Prop) (σ : L2.St) (H : Hp) (env : En), Okk K pa tmp H σ env → ∀ vals env', den env = some (vals, env') →
  ∀ Q : List V → Hp → Prop, (∀ us H' tmp', Sp1 σ env env' tmp tmp' H H' → Okk K pa tmp' H' σ env' → PVs K tmp tmp' H' σ env' us vals → Q us H') → ta σ H Q
/-- an operation on values -/
def RS (K : PySem.W.Frag) (r : List V → Hp → VK → Prop) (f : List Val → DE) : Prop := ∀ (pa : Nat → Option Addr) (tmp0 tmp : Addr → Prop) (σ : L2.St) (H : Hp) (env : En), Okk K pa tmp H σ env → (∀ p, tmp0 p → tmp p) →
  ∀ us vals, PVs K tmp0 tmp H σ env us vals → ∀ val env', f vals env = some (val, env') → ∀ Q : VK, (∀ u H' tmp', Sp1 σ env env' tmp tmp' H H' → Okk K pa tmp' H' σ env' → PostV K tmp0 tmp' H' σ env' u val → Q u H') → r us H Q
def R2S (K : PySem.W.Frag) (r : R2) (f : Val → Val → DE) : Prop := ∀ (pa : Nat → Option Addr) (tmp0 tmp : Addr → Prop) (σ : L2.St) (H : Hp) (env : En), Okk K pa tmp H σ env → (∀ p, tmp0 p → tmp p) →
  ∀ u1 v1 u2 v2, PostV K tmp0 tmp H σ env u1 v1 → PostV K tmp0 tmp H σ env u2 v2 → ∀ val env', f v1 v2 env = some (val, env') → ∀ Q : VK, (∀ u H' tmp', Sp1 σ env env' tmp tmp' H H' → Okk K pa tmp' H' σ env' → PostV K tmp0 tmp' H' σ env' u val → Q u H') → r u1 u2 H Q
end DL
end
section
set_option Elab.async false
set_option linter.all false
set_option maxRecDepth 100000
namespace DL
open PySem L2

section
variable {K : PySem.W.Frag}
/-! ### names, constants -/
def dVar (i : Nat) : DE := fun env => match env[i]? with
  | some (Cl.d x) => some (.d x, env)
  | some (Cl.o _ (.l xs)) => some (.d (.list xs), env.set i (.d (.list xs)))
  | _ => none
def dBor (i : Nat) : DE := fun env => match env[i]? with
  | some (Cl.d x) => some (.d x, env)
  | some (Cl.o _ _) => some (.b i, env)
  | _ => none
def dMove (i : Nat) : DE := fun env => match env[i]? with
  | some (Cl.d x) => some (.d x, env)
  | some (Cl.o none b) => some (.f b, env.set i .un)
  | _ => none
def dC (x : D) : DE := fun env => some (.d x, env)

theorem owd_set_of {σ : L2.St} {env : En} {i j : Nat} {c : Cl} {p : Addr} (hc : ∀ k b, c ≠ .o k b) (h : Owd σ (env.set i c) j p) : j ≠ i ∧ Owd σ env j p := by
  obtain ⟨⟨k, b, e⟩, es⟩ := h
  by_cases hj : i = j
  · subst hj
    by_cases hl : i < env.length
    · rw [List.getElem?_set_self hl] at e
      exact absurd (Option.some.inj e) (hc k b)
    · rw [List.getElem?_eq_none (by rw [List.length_set]; omega)] at e
      cases e
  · rw [List.getElem?_set_ne hj] at e
    exact ⟨fun z => hj z.symm, ⟨k, b, e⟩, es⟩
/-- a slot gives up its box: to data -/
theorem Okk.freeze {pa : Nat → Option Addr} {tmp : Addr → Prop} {H : Hp} {σ : L2.St} {env : En} {i : Nat} {k : Option Nat} {xs : List D} (I : Okk K pa tmp H σ env) (e : env[i]? = some (Cl.o k (.l xs))) :
    Okk K pa tmp H σ (env.set i (.d (.list xs))) ∧ Sp1 σ env (env.set i (.d (.list xs))) tmp tmp H H ∧ ∃ v, σ[i]? = some (some v) ∧ Sh K (Nb tmp σ (env.set i (.d (.list xs)))) H v (.list xs) := by
  obtain ⟨p, es, ⟨vs, hp, hv⟩, nt, _⟩ := I.own i k _ e
  have hc : ∀ k b, Cl.d (.list xs) ≠ Cl.o k b := fun _ _ z => by cases z
  have sub : ∀ j q, Owd σ (env.set i (.d (.list xs))) j q → Owd σ env j q := fun j q h => (owd_set_of hc h).2
  have g : Go (Nb tmp σ env) (Nb tmp σ (env.set i (.d (.list xs)))) H H := fun a o ea h => ⟨ea, fun z => h (z.imp (fun ⟨j, q⟩ => ⟨j, sub j a q⟩) id)⟩
  have own_i : Owd σ env i p := ⟨⟨k, _, e⟩, es⟩
  have np : Nb tmp σ (env.set i (.d (.list xs))) p := fun z => by
    rcases z with ⟨j, q⟩ | z
    · obtain ⟨hj, q'⟩ := owd_set_of hc q
      exact hj (I.inj j i p q' own_i)
    · exact nt z
  have hsh : Sh K (Nb tmp σ (env.set i (.d (.list xs)))) H (.ref p) (.list xs) := .lst (.inl hp) np (hv.goes g)
  have hi : i < env.length := (List.getElem?_eq_some_iff.mp e).1
  refine ⟨⟨?_, fun j x ej => ?_, fun j kk b ej => ?_, fun a b q h1 h2 => I.inj a b q (sub a q h1) (sub b q h2), I.tin⟩, ⟨fun _ _ h _ => h, sub, fun _ h => h, fun _ h => .inl h, fun _ h => h⟩, _, es, hsh⟩
  · rw [List.length_set]; exact I.len
  · by_cases hj : i = j
    · subst hj
      rw [List.getElem?_set_self hi] at ej
      cases ej
      exact ⟨_, es, hsh⟩
    · rw [List.getElem?_set_ne hj] at ej
      obtain ⟨v, h1, h2⟩ := I.dat j x ej
      exact ⟨v, h1, h2.goes g⟩
  · by_cases hj : i = j
    · subst hj
      rw [List.getElem?_set_self hi] at ej
      cases ej
    · rw [List.getElem?_set_ne hj] at ej
      obtain ⟨q, h1, h2, h3, h4⟩ := I.own j kk b ej
      exact ⟨q, h1, h2.goes g rfl, h3, h4⟩
/-- .. to a temporary -/
theorem Okk.moved {pa : Nat → Option Addr} {tmp : Addr → Prop} {H : Hp} {σ : L2.St} {env : En} {i : Nat} {k : Option Nat} {b : Box} (I : Okk K pa tmp H σ env) (e : env[i]? = some (Cl.o k b)) :
    ∃ p, σ[i]? = some (some (.ref p)) ∧ ¬ tmp p ∧ Slt σ env p ∧ ¬ Slt σ (env.set i .un) p ∧ BoxAt K (Nb (mor tmp p) σ (env.set i .un)) H p b ∧ Okk K pa (mor tmp p) H σ (env.set i .un) := by
  obtain ⟨p, es, hb, nt, _⟩ := I.own i k _ e
  have hc : ∀ k b, Cl.un ≠ Cl.o k b := fun _ _ z => by cases z
  have sub : ∀ j q, Owd σ (env.set i .un) j q → Owd σ env j q := fun j q h => (owd_set_of hc h).2
  have own_i : Owd σ env i p := ⟨⟨k, _, e⟩, es⟩
  have np : ¬ Slt σ (env.set i .un) p := fun ⟨j, q⟩ => by
    obtain ⟨hj, q'⟩ := owd_set_of hc q
    exact hj (I.inj j i p q' own_i)
  have g : Go (Nb tmp σ env) (Nb (mor tmp p) σ (env.set i .un)) H H := fun a o ea h => ⟨ea, fun z => by
    rcases z with ⟨j, q⟩ | z | z
    · exact h (.inl ⟨j, sub j a q⟩)
    · exact h (.inr z)
    · subst z; exact h (.inl ⟨i, own_i⟩)⟩
  have hi : i < env.length := (List.getElem?_eq_some_iff.mp e).1
  refine ⟨p, es, nt, ⟨i, own_i⟩, np, hb.goes g rfl, ?_, fun j x ej => ?_, fun j kk b' ej => ?_, fun a b q h1 h2 => I.inj a b q (sub a q h1) (sub b q h2), fun q h => ?_⟩
  · rw [List.length_set]; exact I.len
  · by_cases hj : i = j
    · subst hj
      rw [List.getElem?_set_self hi] at ej
      cases ej
    · rw [List.getElem?_set_ne hj] at ej
      obtain ⟨v, h1, h2⟩ := I.dat j x ej
      exact ⟨v, h1, h2.goes g⟩
  · by_cases hj : i = j
    · subst hj
      rw [List.getElem?_set_self hi] at ej
      cases ej
    · rw [List.getElem?_set_ne hj] at ej
      obtain ⟨q, h1, h2, h3, h4⟩ := I.own j kk b' ej
      refine ⟨q, h1, h2.goes g rfl, fun z => ?_, h4⟩
      rcases z with z | z
      · exact h3 z
      · subst z
        exact hj (I.inj i j q own_i ⟨⟨kk, b', ej⟩, h1⟩)
  · rcases h with h | h
    · exact I.tin q h
    · subst h; exact I.slotTracked ⟨i, own_i⟩

theorem se_var {i : Nat} : SE K (tVar i) (dVar i) := by
  intro pa tmp σ H env I val env' e Q q
  unfold dVar at e
  split at e
  · rename_i x ex
    cases e
    obtain ⟨v, h1, h2⟩ := I.dat i x ex
    exact ⟨v, h1, q v H tmp .refl I h2⟩
  · rename_i k xs ex
    cases e
    obtain ⟨I', s', v, h1, h2⟩ := I.freeze ex
    exact ⟨v, h1, q v H tmp s' I' h2⟩
  · cases e
theorem se_bor {i : Nat} : SE K (tVar i) (dBor i) := by
  intro pa tmp σ H env I val env' e Q q
  unfold dBor at e
  split at e
  · rename_i x ex
    cases e
    obtain ⟨v, h1, h2⟩ := I.dat i x ex
    exact ⟨v, h1, q v H tmp .refl I h2⟩
  · rename_i k b ex
    cases e
    obtain ⟨p, h1, _⟩ := I.own i k b ex
    exact ⟨_, h1, q _ H tmp .refl I h1⟩
  · cases e
theorem se_c {v : V} {x : D} (h : ∀ (K : PySem.W.Frag) (ok : Addr → Prop) (H : Hp), Sh K ok H v x) : SE K (tC v) (dC x) := by
  intro pa tmp σ H env I val env' e Q q
  cases e
  exact q v H tmp .refl I (h _ _ _)
theorem se_int {i : Int} : SE K (tC (.int i)) (dC (.int i)) := se_c fun _ _ _ => .int i
theorem se_bl {b : Bool} : SE K (tC (.bl b)) (dC (.bool b)) := se_c fun _ _ _ => .bl b
theorem se_str {x : Str} : SE K (tC (.str x)) (dC (.str x)) := se_c fun _ _ _ => .str x
theorem se_non : SE K (tC .non) (dC .none) := se_c fun _ _ _ => .non

/-! ### operators -/
def dOp (f : Val → Val → DE) (a b : DE) : DE := fun env => (a env).bind fun p => (b p.2).bind fun q => f p.1 q.1 q.2
def dUn (f : Val → DE) (a : DE) : DE := fun env => (a env).bind fun p => f p.1 p.2
theorem se_op {ta tb : TE} {a b : DE} {r : R2} {f : Val → Val → DE} (ha : SE K ta a) (hb : SE K tb b) (hr : R2S K r f) : SE K (tOp r ta tb) (dOp f a b) := by
  intro pa tmp σ H env I val env' e Q q
  obtain ⟨⟨x, e1⟩, ex, e⟩ := Option.bind_eq_some_iff.mp e
  obtain ⟨⟨y, e2⟩, ey, e⟩ := Option.bind_eq_some_iff.mp e
  refine ha pa tmp σ H env I x e1 ex _ fun u1 H1 t1 s1 I1 p1 => hb pa t1 σ H1 e1 I1 y e2 ey _ fun u2 H2 t2 s2 I2 p2 => ?_
  exact hr pa tmp t2 σ H2 e2 I2 (fun p h => s2.inc p (s1.inc p h)) u1 x u2 y (p1.step s2) (p2.tmp0 s1.inc) val env' e Q fun u H' t' s' I' p' => q u H' t' ((s1.trans s2).trans s') I' p'
def RU1 (K : PySem.W.Frag) (r : V → Hp → VK → Prop) (f : Val → DE) : Prop := ∀ (pa : Nat → Option Addr) (tmp0 tmp : Addr → Prop) (σ : L2.St) (H : Hp) (env : En), Okk K pa tmp H σ env → (∀ p, tmp0 p → tmp p) →
  ∀ u1 v1, PostV K tmp0 tmp H σ env u1 v1 → ∀ val env', f v1 env = some (val, env') → ∀ Q : VK, (∀ u H' tmp', Sp1 σ env env' tmp tmp' H H' → Okk K pa tmp' H' σ env' → PostV K tmp0 tmp' H' σ env' u val → Q u H') → r u1 H Q
theorem se_un {ta : TE} {a : DE} {r : V → Hp → VK → Prop} {f : Val → DE} (ha : SE K ta a) (hr : RU1 K r f) : SE K (tUn r ta) (dUn f a) := by
  intro pa tmp σ H env I val env' e Q q
  obtain ⟨⟨x, e1⟩, ex, e⟩ := Option.bind_eq_some_iff.mp e
  refine ha pa tmp σ H env I x e1 ex _ fun u1 H1 t1 s1 I1 p1 => ?_
  exact hr pa tmp t1 σ H1 e1 I1 s1.inc u1 x p1 val env' e Q fun u H' t' s' I' p' => q u H' t' (s1.trans s') I' p'
/-- two ints to flat data -/
def fII (g : Int → Int → Option D) : Val → Val → DE := fun x y env => match x, y with
  | .d (.int i), .d (.int j) => (g i j).map fun z => (.d z, env)
  | _, _ => none
theorem fII_inv {g : Int → Int → Option D} {x y val : Val} {env env' : En} (e : fII g x y env = some (val, env')) : ∃ i j z, x = .d (.int i) ∧ y = .d (.int j) ∧ g i j = some z ∧ val = .d z ∧ env' = env := by
  unfold fII at e
  split at e
  · rename_i i j
    obtain ⟨z, ez, h⟩ := Option.map_eq_some_iff.mp e
    cases h
    exact ⟨i, j, z, rfl, rfl, ez, rfl, rfl⟩
  · cases e
/-- .. by a rule that changes nothing -/
theorem r2_int {r : R2} {g : Int → Int → Option D} (h : ∀ i j z, g i j = some z → ∃ v, (∀ (ok : Addr → Prop) (H : Hp), Sh K ok H v z) ∧ ∀ (H : Hp) (Q : VK), Q v H → r (.int i) (.int j) H Q) : R2S K r (fII g) := by
  intro pa tmp0 tmp σ H env I h0 u1 v1 u2 v2 p1 p2 val env' e Q q
  obtain ⟨i, j, z, rfl, rfl, ez, rfl, rfl⟩ := fII_inv e
  cases p1
  cases p2
  obtain ⟨v, hv, hr⟩ := h i j z ez
  exact hr H Q (q v H tmp .refl I (hv _ _))
theorem r2_I0 {g : Int → Int → V} {g' : Int → Int → D} (h : ∀ i j (ok : Addr → Prop) (H : Hp), Sh K ok H (g i j) (g' i j)) : R2S K (rI0 g) (fII fun i j => some (g' i j)) :=
  r2_int fun i j z ez => ⟨g i j, fun ok H => by cases ez; exact h i j ok H, fun H Q q => ⟨i, j, rfl, rfl, q⟩⟩
theorem r2_I {C : Int → Int → Prop} {g : Int → Int → V} {g' : Int → Int → Option D} (h : ∀ i j z, g' i j = some z → C i j ∧ ∀ (ok : Addr → Prop) (H : Hp), Sh K ok H (g i j) z) : R2S K (rI C g) (fII g') :=
  r2_int fun i j z ez => ⟨g i j, (h i j z ez).2, fun H Q q => ⟨i, j, rfl, rfl, (h i j z ez).1, q⟩⟩
def gAdd : Int → Int → Option D := fun i j => some (.int (i + j))
def gSub : Int → Int → Option D := fun i j => some (.int (i - j))
def mulOk (i j : Int) : Bool := decide (i.natAbs.log2 + j.natAbs.log2 < 1000000) || decide (i.natAbs < 2 ^ 64) || decide (j.natAbs < 2 ^ 64)
def gMul : Int → Int → Option D := fun i j => if mulOk i j then some (.int (i * j)) else none
def divOk (j : Int) : Bool := decide (0 < j ∧ j.natAbs.log2 < 9000) || decide (j ≠ 0 ∧ j.natAbs < 1073741824)
def gDiv : Int → Int → Option D := fun i j => if divOk j then some (.int (i.fdiv j)) else none
def gMod : Int → Int → Option D := fun i j => if j ≠ 0 then some (.int (i.fmod j)) else none
def gPow : Int → Int → Option D := fun i j => if 0 ≤ j ∧ j ≤ 1000000 ∧ i.natAbs < 2 ^ 64 then some (.int (i ^ j.toNat)) else none
def gLt : Int → Int → Option D := fun i j => some (.bool (decide (i < j)))
def gLe : Int → Int → Option D := fun i j => some (.bool (decide (i ≤ j)))
def gGt : Int → Int → Option D := fun i j => some (.bool (decide (j < i)))
def gGe : Int → Int → Option D := fun i j => some (.bool (decide (j ≤ i)))
theorem r2_add : R2S K (rI0 fun i j => .int (i + j)) (fII gAdd) := r2_I0 fun i j _ _ => .int _
theorem r2_sub : R2S K (rI0 fun i j => .int (i - j)) (fII gSub) := r2_I0 fun i j _ _ => .int _
theorem r2_lt : R2S K (rI0 fun i j => .bl (decide (i < j))) (fII gLt) := r2_I0 fun i j _ _ => .bl _
theorem r2_le : R2S K (rI0 fun i j => .bl (decide (i ≤ j))) (fII gLe) := r2_I0 fun i j _ _ => .bl _
theorem r2_gt : R2S K (rI0 fun i j => .bl (decide (j < i))) (fII gGt) := r2_I0 fun i j _ _ => .bl _
theorem r2_ge : R2S K (rI0 fun i j => .bl (decide (j ≤ i))) (fII gGe) := r2_I0 fun i j _ _ => .bl _
/-- the rules with the bounds of both -/
def CMulA (i j : Int) : Prop := CMulW i j ∨ CMul i j
def CDivA (_ j : Int) : Prop := (0 < j ∧ j.natAbs.log2 < 9000) ∨ (j ≠ 0 ∧ j.natAbs < 1073741824)
theorem op_mulA {X : Cx} : OpR X (binaryOp .Mult) (rI CMulA fun i j => .int (i * j)) := by
  intro pins s σ H x y u v Q I r1 r2 h
  obtain ⟨i, j, e1, e2, c, q⟩ := h
  rcases c with c | c
  · exact op_mulW (X := X) pins s σ H x y u v Q I r1 r2 ⟨i, j, e1, e2, c, q⟩
  · exact op_mul (X := X) pins s σ H x y u v Q I r1 r2 ⟨i, j, e1, e2, c, q⟩
theorem op_fdivA {X : Cx} : OpR X (binaryOp .FloorDiv) (rI CDivA fun i j => .int (i.fdiv j)) := by
  intro pins s σ H x y u v Q I r1 r2 h
  obtain ⟨i, j, e1, e2, c, q⟩ := h
  rcases c with c | c
  · refine op_fdivW (X := X) pins s σ H x y u v Q I r1 r2 ⟨i, j, e1, e2, c, ?_⟩
    show Q (.int (i / j)) H
    rw [← Int.fdiv_eq_ediv_of_nonneg i (Int.le_of_lt c.1)]
    exact q
  · exact op_fdivN (X := X) pins s σ H x y u v Q I r1 r2 ⟨i, j, e1, e2, c, q⟩
theorem abs_small {i : Int} (h : i.natAbs < 2 ^ 64) : -(2 ^ 64) < i ∧ i < 2 ^ 64 := by
  constructor <;> omega
theorem r2_mul : R2S K (rI CMulA fun i j => .int (i * j)) (fII gMul) := r2_I fun i j z ez => by
  unfold gMul at ez
  split at ez
  · rename_i h
    cases ez
    refine ⟨?_, fun _ _ => .int _⟩
    unfold mulOk at h
    rw [Bool.or_eq_true, Bool.or_eq_true] at h
    rcases h with (h | h) | h
    · exact .inl (show i.natAbs.log2 + j.natAbs.log2 < 1000000 from of_decide_eq_true h)
    · exact .inr (.inl (abs_small (of_decide_eq_true h)))
    · exact .inr (.inr (abs_small (of_decide_eq_true h)))
  · cases ez
theorem r2_div : R2S K (rI CDivA fun i j => .int (i.fdiv j)) (fII gDiv) := r2_I fun i j z ez => by
  unfold gDiv at ez
  split at ez
  · rename_i h
    cases ez
    refine ⟨?_, fun _ _ => .int _⟩
    unfold divOk at h
    rw [Bool.or_eq_true] at h
    rcases h with h | h
    · exact .inl (of_decide_eq_true h)
    · exact .inr (of_decide_eq_true h)
  · cases ez
theorem r2_mod : R2S K (rI (fun _ j => j ≠ 0) fun i j => .int (i.fmod j)) (fII gMod) := r2_I fun i j z ez => by
  unfold gMod at ez
  split at ez
  · rename_i h
    cases ez
    exact ⟨h, fun _ _ => .int _⟩
  · cases ez
theorem r2_pow : R2S K (rI CPow fun i j => .int (i ^ j.toNat)) (fII gPow) := r2_I fun i j z ez => by
  unfold gPow at ez
  split at ez
  · rename_i h
    cases ez
    exact ⟨h, fun _ _ => .int _⟩
  · cases ez
/-- minus -/
def fNeg : Val → DE := fun x env => match x with
  | .d (.int i) => some (.d (.int (-i)), env)
  | _ => none
theorem ru_neg : RU1 K (rU fun i => .int (-i)) fNeg := by
  intro pa tmp0 tmp σ H env I h0 u1 v1 p1 val env' e Q q
  unfold fNeg at e
  split at e
  · cases e
    cases p1
    exact ⟨_, rfl, q _ H tmp .refl I (.int _)⟩
  · cases e

/-! ### what a value holds -/
def listOf (env : En) : Val → Option (List D)
  | .d (.list xs) => some xs
  | .f (.l xs) => some xs
  | .b i => match env[i]? with
    | some (Cl.o _ (.l xs)) => some xs
    | _ => none
  | _ => none
def tupOf : Val → Option (List D)
  | .d (.tuple xs) => some xs
  | _ => none
def asD : Val → Option D
  | .d x => some x
  | .f (.l xs) => some (.list xs)
  | .f (.m _) => some (.dict [])
  | _ => none
section
variable {pa : Nat → Option Addr} {tmp0 tmp : Addr → Prop} {σ : L2.St} {H : Hp} {env : En} {u : V} {v : Val} {xs : List D} {x : D}
theorem listOf_at (I : Okk K pa tmp H σ env) (h : PostV K tmp0 tmp H σ env u v) (e : listOf env v = some xs) : ∃ p vs, u = .ref p ∧ SqL K H p vs ∧ ShAll K (Nb tmp σ env) H vs xs := by
  unfold listOf at e
  split at e
  · cases e
    obtain ⟨a, vs, h1, h2, h3, _⟩ := Sh.list_inv h
    exact ⟨a, vs, h1, h2, h3⟩
  · cases e
    obtain ⟨p, h1, _, _, _, vs, h4, h5⟩ := h
    exact ⟨p, vs, h1, .inl (.inl h4), h5⟩
  · split at e
    · rename_i k ys ei
      cases e
      obtain ⟨p, h1, ⟨vs, h2, h3⟩, _⟩ := I.own _ _ _ ei
      have h' : σ[_]? = some (some u) := h
      rw [h1] at h'
      cases h'
      exact ⟨p, vs, rfl, .inl (.inl h2), h3⟩
    · cases e
  · cases e
theorem tupOf_at (h : PostV K tmp0 tmp H σ env u v) (e : tupOf v = some xs) : ∃ p vs, u = .ref p ∧ SqT K H p vs ∧ ShAll K (Nb tmp σ env) H vs xs := by
  unfold tupOf at e
  split at e
  · cases e
    obtain ⟨a, vs, h1, h2, h3, _⟩ := Sh.tup_inv h
    exact ⟨a, vs, h1, h2, h3⟩
  · cases e
/-- as data, the temporaries since tmp0 forgotten -/
theorem asD_at (I : Okk K pa tmp H σ env) (h0 : ∀ p, tmp0 p → tmp p) (h : PostV K tmp0 tmp H σ env u v) (e : asD v = some x) : Sh K (Nb tmp0 σ env) H u x := by
  have g : Go (Nb tmp σ env) (Nb tmp0 σ env) H H := Nb.less h0
  unfold asD at e
  split at e
  · cases e
    exact Sh.goes g h
  · cases e
    obtain ⟨p, h1, _, h2, h3, vs, h4, h5⟩ := h
    subst h1
    exact .lst (.inl h4) (fun z => z.elim h3 h2) (h5.goes g)
  · cases e
    obtain ⟨p, h1, _, h2, h3, ws, h4, _⟩ := h
    subst h1
    exact .dct h4 (fun z => z.elim h3 h2)
  · cases e
end

/-! ### tests -/
def dTest (a : DE) : DB := fun env => match a env with
  | some (.d (.bool b), e) => some (b, e)
  | _ => none
theorem dTest_inv {a : DE} {env env' : En} {c : Bool} (e : dTest a env = some (c, env')) : a env = some (.d (.bool c), env') := by
  unfold dTest at e
  split at e
  · rename_i b e1 h
    cases e
    exact h
  · cases e
theorem sb_test {ta : TE} {a : DE} (ha : SE K ta a) : SB K (tTest ta) (dTest a) := by
  intro pa tmp σ H env I c env' e Q q
  refine ha pa tmp σ H env I _ env' (dTest_inv e) _ fun u H' t' s' I' p' => ?_
  cases p'
  exact ⟨c, rfl, q H' (s'.less s'.inc fun _ h => h) (I'.less s'.inc)⟩
theorem sb_B {ta : TE} {a : DE} (ha : SE K ta a) : SB K (tB ta) (dTest a) := by
  intro pa tmp σ H env I c env' e Q q
  refine ha pa tmp σ H env I _ env' (dTest_inv e) _ fun u H' t' s' I' p' => ?_
  cases p'
  exact ⟨c, rfl, q H' (s'.less s'.inc fun _ h => h) (I'.less s'.inc)⟩
def dAndB (a b : DB) : DB := fun env => (a env).bind fun p => if p.1 then b p.2 else some (false, p.2)
def dOrB (a b : DB) : DB := fun env => (a env).bind fun p => if p.1 then some (true, p.2) else b p.2
def dNotB (a : DB) : DB := fun env => (a env).map fun p => (!p.1, p.2)
theorem sb_and {ta tb : TT} {a b : DB} (ha : SB K ta a) (hb : SB K tb b) : SB K (tAnd ta tb) (dAndB a b) := by
  intro pa tmp σ H env I c env' e Q q
  obtain ⟨⟨x, e1⟩, ex, e⟩ := Option.bind_eq_some_iff.mp e
  refine ha pa tmp σ H env I x e1 ex _ fun H1 s1 I1 => ?_
  cases x with
  | true =>
    rw [if_pos rfl]
    exact hb pa tmp σ H1 e1 I1 c env' (by simpa using e) Q fun H2 s2 I2 => q H2 (s1.trans s2) I2
  | false =>
    rw [if_neg Bool.false_ne_true]
    have e' : some (false, e1) = some (c, env') := by simpa using e
    cases e'
    exact q H1 s1 I1
theorem sb_or {ta tb : TT} {a b : DB} (ha : SB K ta a) (hb : SB K tb b) : SB K (tOr ta tb) (dOrB a b) := by
  intro pa tmp σ H env I c env' e Q q
  obtain ⟨⟨x, e1⟩, ex, e⟩ := Option.bind_eq_some_iff.mp e
  refine ha pa tmp σ H env I x e1 ex _ fun H1 s1 I1 => ?_
  cases x with
  | false =>
    rw [if_neg Bool.false_ne_true]
    exact hb pa tmp σ H1 e1 I1 c env' (by simpa using e) Q fun H2 s2 I2 => q H2 (s1.trans s2) I2
  | true =>
    rw [if_pos rfl]
    have e' : some (true, e1) = some (c, env') := by simpa using e
    cases e'
    exact q H1 s1 I1
theorem sb_not {ta : TT} {a : DB} (ha : SB K ta a) : SB K (tNot ta) (dNotB a) := by
  intro pa tmp σ H env I c env' e Q q
  obtain ⟨⟨x, e1⟩, ex, e⟩ := Option.map_eq_some_iff.mp e
  cases e
  exact ha pa tmp σ H env I x e1 ex _ fun H1 s1 I1 => q H1 s1 I1
/-- a value's truth -/
def truth (env : En) : Val → Option Bool
  | .d .none => some false
  | .d (.bool b) => some b
  | .d (.int i) => some (i != 0)
  | .d (.str x) => if x.length ≤ sizeLine then some ((x.length : Int) != 0) else none
  | .d (.tuple xs) => some (!xs.isEmpty)
  | v => (listOf env v).map fun xs => !xs.isEmpty
def dTruth (a : DE) : DB := fun env => (a env).bind fun p => (truth p.2 p.1).map fun b => (b, p.2)
theorem ShAll.empty {ok : Addr → Prop} {H : Hp} {vs : List V} {ds : List D} (h : ShAll K ok H vs ds) : vs.isEmpty = ds.isEmpty := by
  cases ds <;> cases h <;> rfl
theorem sb_truth {ta : TE} {a : DE} (ha : SE K ta a) : SB K (fun σ H Q => ta σ H fun x H' => ∃ k, TruV K x H' k ∧ Q k H') (dTruth a) := by
  intro pa tmp σ H env I c env' e Q q
  obtain ⟨⟨x, e1⟩, ex, e⟩ := Option.bind_eq_some_iff.mp e
  obtain ⟨b, eb, e⟩ := Option.map_eq_some_iff.mp e
  obtain ⟨rfl, rfl⟩ := Prod.mk.inj (Option.some.inj (congrArg some e))
  refine ha pa tmp σ H env I x _ ex _ fun u H' t' s' I' p' => ?_
  refine ⟨_, ?_, q H' (s'.less s'.inc fun _ h => h) (I'.less s'.inc)⟩
  have viaL : (listOf e1 x).map (fun xs => !xs.isEmpty) = some b → TruV K u H' b := fun h => by
    obtain ⟨xs, h1, h2⟩ := Option.map_eq_some_iff.mp h
    obtain ⟨p, vs, h3, h4, h5⟩ := listOf_at I' p' h1
    subst h3
    exact .inl ⟨vs, h4, by rw [← h2, h5.empty]⟩
  have eb' : truth e1 x = some b := eb
  unfold truth at eb'
  split at eb'
  · cases eb'; cases p'; rfl
  · cases eb'; cases p'; rfl
  · cases eb'; cases p'; rfl
  · split at eb'
    · rename_i hz
      cases eb'; cases p'; exact ⟨hz, rfl⟩
    · cases eb'
  · cases eb'
    obtain ⟨p, vs, h3, h4, h5, _⟩ := Sh.tup_inv p'
    subst h3
    exact .inr (.inl ⟨vs, h4, by rw [h5.empty]⟩)
  · exact viaL eb'
/-! .. as values -/
def dAndV (a b : DE) : DE := fun env => match a env with
  | some (.d (.bool c), e) => if c then b e else some (.d (.bool false), e)
  | _ => none
def dOrV (a b : DE) : DE := fun env => match a env with
  | some (.d (.bool c), e) => if c then some (.d (.bool true), e) else b e
  | _ => none
def dNotV (a : DE) : DE := fun env => match a env with
  | some (.d (.bool c), e) => some (.d (.bool (!c)), e)
  | _ => none
theorem se_andV {ta tb : TE} {a b : DE} (ha : SE K ta a) (hb : SE K tb b) : SE K (tAndV ta tb) (dAndV a b) := by
  intro pa tmp σ H env I val env' e Q q
  unfold dAndV at e
  split at e
  · rename_i c e1 ec
    refine ha pa tmp σ H env I _ _ ec _ fun u H1 t1 s1 I1 p1 => ?_
    cases p1
    refine ⟨c, rfl, ?_⟩
    have I1' := I1.less s1.inc
    have s1' := s1.less s1.inc fun _ h => h
    cases c with
    | true =>
      rw [if_pos rfl] at e ⊢
      exact hb pa tmp σ H1 e1 I1' val env' e Q fun u2 H2 t2 s2 I2 p2 => q u2 H2 t2 (s1'.trans s2) I2 p2
    | false =>
      rw [if_neg Bool.false_ne_true] at e ⊢
      cases e
      exact q _ H1 tmp s1' I1' (.bl false)
  · cases e
theorem se_orV {ta tb : TE} {a b : DE} (ha : SE K ta a) (hb : SE K tb b) : SE K (tOrV ta tb) (dOrV a b) := by
  intro pa tmp σ H env I val env' e Q q
  unfold dOrV at e
  split at e
  · rename_i c e1 ec
    refine ha pa tmp σ H env I _ _ ec _ fun u H1 t1 s1 I1 p1 => ?_
    cases p1
    refine ⟨c, rfl, ?_⟩
    have I1' := I1.less s1.inc
    have s1' := s1.less s1.inc fun _ h => h
    cases c with
    | false =>
      rw [if_neg Bool.false_ne_true] at e ⊢
      exact hb pa tmp σ H1 e1 I1' val env' e Q fun u2 H2 t2 s2 I2 p2 => q u2 H2 t2 (s1'.trans s2) I2 p2
    | true =>
      rw [if_pos rfl] at e ⊢
      cases e
      exact q _ H1 tmp s1' I1' (.bl true)
  · cases e
theorem se_notV {ta : TE} {a : DE} (ha : SE K ta a) : SE K (tNotV ta) (dNotV a) := by
  intro pa tmp σ H env I val env' e Q q
  unfold dNotV at e
  split at e
  · rename_i c e1 ec
    cases e
    refine ha pa tmp σ H env I _ _ ec _ fun u H1 t1 s1 I1 p1 => ?_
    cases p1
    exact ⟨c, rfl, q _ H1 tmp (s1.less s1.inc fun _ h => h) (I1.less s1.inc) (.bl _)⟩
  · cases e
def dIf (t : DB) (a b : DE) : DE := fun env => (t env).bind fun p => if p.1 then a p.2 else b p.2
theorem se_if {tt : TT} {ta tb : TE} {t : DB} {a b : DE} (ht : SB K tt t) (ha : SE K ta a) (hb : SE K tb b) : SE K (tIf tt ta tb) (dIf t a b) := by
  intro pa tmp σ H env I val env' e Q q
  obtain ⟨⟨c, e1⟩, ec, e⟩ := Option.bind_eq_some_iff.mp e
  refine ht pa tmp σ H env I c e1 ec _ fun H1 s1 I1 => ?_
  cases c with
  | true =>
    rw [if_pos rfl]
    exact ha pa tmp σ H1 e1 I1 val env' (by simpa using e) Q fun u2 H2 t2 s2 I2 p2 => q u2 H2 t2 (s1.trans s2) I2 p2
  | false =>
    rw [if_neg Bool.false_ne_true]
    exact hb pa tmp σ H1 e1 I1 val env' (by simpa using e) Q fun u2 H2 t2 s2 I2 p2 => q u2 H2 t2 (s1.trans s2) I2 p2
end
end DL
end
section
set_option Elab.async false
set_option linter.all false
set_option maxRecDepth 100000
namespace DL
open PySem L2
section
variable {K : PySem.W.Frag}

/-! ### argument lists -/
def dNil : DA := fun env => some ([], env)
def dCons (a : DE) (b : DA) : DA := fun env => (a env).bind fun p => (b p.2).map fun q => (p.1 :: q.1, q.2)
theorem PVs.step {tmp0 : Addr → Prop} {σ : L2.St} {env env' : En} {tmp tmp' : Addr → Prop} {H H' : Hp} (s : Sp1 σ env env' tmp tmp' H H') : ∀ {us : List V} {vs : List Val}, PVs K tmp0 tmp H σ env us vs → PVs K tmp0 tmp' H' σ env' us vs
  | [], [], _ => trivial
  | _ :: _, _ :: _, h => ⟨h.1.step s, PVs.step s h.2⟩
  | [], _ :: _, h => h.elim
  | _ :: _, [], h => h.elim
theorem PVs.tmp0 {t t0 : Addr → Prop} {σ : L2.St} {env : En} {tmp : Addr → Prop} {H : Hp} (k : ∀ p, t p → t0 p) : ∀ {us : List V} {vs : List Val}, PVs K t0 tmp H σ env us vs → PVs K t tmp H σ env us vs
  | [], [], _ => trivial
  | _ :: _, _ :: _, h => ⟨h.1.tmp0 k, PVs.tmp0 k h.2⟩
  | [], _ :: _, h => h.elim
  | _ :: _, [], h => h.elim
theorem sa_nil : SA K tNil dNil := by
  intro pa tmp σ H env I vals env' e Q q
  cases e
  exact q [] H tmp .refl I trivial
theorem sa_cons {ta : TE} {tr : TA} {a : DE} {b : DA} (ha : SE K ta a) (hb : SA K tr b) : SA K (tCons ta tr) (dCons a b) := by
  intro pa tmp σ H env I vals env' e Q q
  obtain ⟨⟨x, e1⟩, ex, e⟩ := Option.bind_eq_some_iff.mp e
  obtain ⟨⟨y, e2⟩, ey, e⟩ := Option.map_eq_some_iff.mp e
  cases e
  refine ha pa tmp σ H env I x e1 ex _ fun u1 H1 t1 s1 I1 p1 => hb pa t1 σ H1 e1 I1 y e2 ey _ fun us H2 t2 s2 I2 p2 => ?_
  exact q (u1 :: us) H2 t2 (s1.trans s2) I2 ⟨p1.step s2, p2.tmp0 s1.inc⟩
def asDs : List Val → Option (List D)
  | [] => some []
  | v :: vs => (asD v).bind fun d => (asDs vs).map fun ds => d :: ds
theorem asDs_at {pa : Nat → Option Addr} {tmp0 tmp : Addr → Prop} {σ : L2.St} {H : Hp} {env : En} (I : Okk K pa tmp H σ env) (h0 : ∀ p, tmp0 p → tmp p) : ∀ {us : List V} {vs : List Val} {ds : List D}, PVs K tmp0 tmp H σ env us vs → asDs vs = some ds → ShAll K (Nb tmp0 σ env) H us ds
  | [], [], ds, _, e => by cases e; exact .nil
  | u :: us, v :: vs, ds, h, e => by
    obtain ⟨d, ed, e⟩ := Option.bind_eq_some_iff.mp e
    obtain ⟨r, er, e⟩ := Option.map_eq_some_iff.mp e
    cases e
    exact .cons (asD_at I h0 h.1 ed) (asDs_at I h0 h.2 er)
  | [], _ :: _, _, h, _ => h.elim
  | _ :: _, [], _, h, _ => h.elim
theorem PVs.len {t0 tmp : Addr → Prop} {σ : L2.St} {env : En} {H : Hp} : ∀ {us : List V} {vs : List Val}, PVs K t0 tmp H σ env us vs → us.length = vs.length
  | [], [], _ => rfl
  | _ :: _, _ :: _, h => by rw [List.length_cons, List.length_cons, PVs.len h.2]
  | [], _ :: _, h => h.elim
  | _ :: _, [], h => h.elim

/-! ### new tuples and lists -/
def szOk (n : Nat) : Bool := decide (n ≤ 16777216)
theorem szOk_le {n : Nat} (h : szOk n = true) : n ≤ sizeLine := by rw [sizeLine_eq]; exact of_decide_eq_true h
theorem nb_new {pa : Nat → Option Addr} {tmp tmp1 : Addr → Prop} {σ : L2.St} {H : Hp} {env : En} {p : Addr} (I : Okk K pa tmp1 H σ env) (h0 : ∀ p, tmp p → tmp1 p) (n : H p = none) : Nb tmp σ env p := fun z =>
  z.elim (fun z => I.slotTracked z n) fun z => I.tin p (h0 p z) n
/-- what follows a new tuple -/
theorem tup_new {pa : Nat → Option Addr} {tmp tmp1 : Addr → Prop} {σ : L2.St} {H : Hp} {env : En} {us : List V} {ds : List D} {p : Addr} (I : Okk K pa tmp1 H σ env) (h0 : ∀ p, tmp p → tmp1 p) (hs : ShAll K (Nb tmp σ env) H us ds) (n : H p = none) :
    Sp1 σ env env tmp1 tmp1 H (upd H p (.tup us)) ∧ Okk K pa tmp1 (upd H p (.tup us)) σ env ∧ Sh K (Nb tmp σ env) (upd H p (.tup us)) (.ref p) (.tuple ds) :=
  ⟨.grow (grow_upd n), I.grow (grow_upd n), .tup (.inl upd_same) (nb_new I h0 n) (hs.goes fun a o e k => ⟨grow_upd n a o e, k⟩)⟩
theorem lst_new {pa : Nat → Option Addr} {tmp tmp1 : Addr → Prop} {σ : L2.St} {H : Hp} {env : En} {us : List V} {ds : List D} {p : Addr} (I : Okk K pa tmp1 H σ env) (h0 : ∀ p, tmp p → tmp1 p) (hs : ShAll K (Nb tmp σ env) H us ds) (n : H p = none) :
    Sp1 σ env env tmp (mor tmp p) H (upd H p (.lst us)) ∧ Okk K pa (mor tmp p) (upd H p (.lst us)) σ env ∧ PostV K tmp (mor tmp p) (upd H p (.lst us)) σ env (.ref p) (.f (.l ds)) := by
  have ns := notSlot_none I n
  have nt : ¬ tmp p := fun z => I.tin p (h0 p z) n
  refine ⟨.more n (grow_upd n), (I.less h0).more n (grow_upd n) (by rw [upd_same]; exact fun z => by cases z), p, rfl, .inr rfl, nt, ns, us, upd_same, hs.goes fun a o e k => ⟨grow_upd n a o e, fun z => ?_⟩⟩
  rcases z with z | z | z
  · exact k (.inl z)
  · exact k (.inr z)
  · rw [z, n] at e; cases e
def dTup (a : DA) : DE := fun env => (a env).bind fun p => (asDs p.1).bind fun ds => if szOk ds.length then some (.d (.tuple ds), p.2) else none
def dLst (a : DA) : DE := fun env => (a env).bind fun p => (asDs p.1).bind fun ds => if szOk ds.length then some (.f (.l ds), p.2) else none
theorem se_tup {ta : TA} {a : DA} (ha : SA K ta a) : SE K (tTup ta) (dTup a) := by
  intro pa tmp σ H env I val env' e Q q
  obtain ⟨⟨vs, e1⟩, ev, e⟩ := Option.bind_eq_some_iff.mp e
  obtain ⟨ds, ed, e⟩ := Option.bind_eq_some_iff.mp e
  split at e
  · rename_i hz
    cases e
    refine ha pa tmp σ H env I vs e1 ev _ fun us H1 t1 s1 I1 p1 => ?_
    have hs := asDs_at I1 s1.inc p1 ed
    refine ⟨by rw [hs.length]; exact szOk_le hz, fun p n => ?_⟩
    obtain ⟨s2, I2, h2⟩ := tup_new I1 s1.inc hs n
    exact q _ _ tmp ((s1.trans s2).less (s1.trans s2).inc fun _ h => h) (I2.less s1.inc) h2
  · cases e
theorem se_lst {ta : TA} {a : DA} (ha : SA K ta a) : SE K (tLst ta) (dLst a) := by
  intro pa tmp σ H env I val env' e Q q
  obtain ⟨⟨vs, e1⟩, ev, e⟩ := Option.bind_eq_some_iff.mp e
  obtain ⟨ds, ed, e⟩ := Option.bind_eq_some_iff.mp e
  split at e
  · rename_i hz
    cases e
    refine ha pa tmp σ H env I vs e1 ev _ fun us H1 t1 s1 I1 p1 => ?_
    have hs := asDs_at I1 s1.inc p1 ed
    refine ⟨by rw [hs.length]; exact szOk_le hz, fun p n => ?_⟩
    obtain ⟨s2, I2, h2⟩ := lst_new I1 s1.inc hs n
    exact q _ _ _ ((s1.less s1.inc fun _ h => h).trans s2) I2 h2
  · cases e

/-! ### built-ins by their arguments -/
def dCall (f : List Val → DE) (a : DA) : DE := fun env => (a env).bind fun p => f p.1 p.2
theorem se_call {ta : TA} {a : DA} {r : List V → Hp → VK → Prop} {f : List Val → DE} (ha : SA K ta a) (hr : RS K r f) : SE K (tCB r ta) (dCall f a) := by
  intro pa tmp σ H env I val env' e Q q
  obtain ⟨⟨vs, e1⟩, ev, e⟩ := Option.bind_eq_some_iff.mp e
  refine ha pa tmp σ H env I vs e1 ev _ fun us H1 t1 s1 I1 p1 => ?_
  exact hr pa tmp t1 σ H1 e1 I1 s1.inc us vs p1 val env' e Q fun u H' t' s' I' p' => q u H' t' (s1.trans s') I' p'
/-- one argument, to flat data -/
def f1 (g : En → Val → Option D) : List Val → DE := fun vs env => match vs with
  | [v] => (g env v).map fun z => (.d z, env)
  | _ => none
theorem rs_f1 {r : List V → Hp → VK → Prop} {g : En → Val → Option D}
    (h : ∀ (pa : Nat → Option Addr) (tmp0 tmp : Addr → Prop) (σ : L2.St) (H : Hp) (env : En), Okk K pa tmp H σ env → (∀ p, tmp0 p → tmp p) → ∀ u v z, PostV K tmp0 tmp H σ env u v → g env v = some z → ∃ w, Sh K (Nb tmp σ env) H w z ∧ ∀ Q : VK, Q w H → r [u] H Q) : RS K r (f1 g) := by
  intro pa tmp0 tmp σ H env I h0 us vs p val env' e Q q
  unfold f1 at e
  split at e
  · rename_i v
    obtain ⟨z, ez, e⟩ := Option.map_eq_some_iff.mp e
    cases e
    match us, p with
    | [u], p =>
      obtain ⟨w, hw, hr⟩ := h pa tmp0 tmp σ H env I h0 u v z p.1 ez
      exact hr Q (q w H tmp .refl I hw)
  · cases e
def gLen : En → Val → Option D := fun env v => match tupOf v with
  | some xs => some (.int xs.length)
  | none => (listOf env v).map fun xs => .int xs.length
theorem rs_len : RS K (fun xs H Q => ∃ p ys, xs = [.ref p] ∧ (SqL K H p ys ∨ SqT K H p ys) ∧ Q (.int ys.length) H) (f1 gLen) := rs_f1 fun pa tmp0 tmp σ H env I h0 u v z p e => by
  unfold gLen at e
  split at e
  · rename_i xs ex
    cases e
    obtain ⟨a, vs, h1, h2, h3⟩ := tupOf_at p ex
    subst h1
    exact ⟨_, .int _, fun Q q => ⟨a, vs, rfl, .inr h2, by rw [h3.length]; exact q⟩⟩
  · obtain ⟨xs, ex, e⟩ := Option.map_eq_some_iff.mp e
    cases e
    obtain ⟨a, vs, h1, h2, h3⟩ := listOf_at I p ex
    subst h1
    exact ⟨_, .int _, fun Q q => ⟨a, vs, rfl, .inl h2, by rw [h3.length]; exact q⟩⟩
def gAbs : En → Val → Option D := fun _ v => match v with
  | .d (.int i) => some (.int (if i < 0 then -i else i))
  | _ => none
theorem rs_abs : RS K (fun xs H Q => ∃ i, xs = [.int i] ∧ Q (.int (if i < 0 then -i else i)) H) (f1 gAbs) := rs_f1 fun pa tmp0 tmp σ H env I h0 u v z p e => by
  unfold gAbs at e
  split at e
  · cases e; cases p
    exact ⟨_, .int _, fun Q q => ⟨_, rfl, q⟩⟩
  · cases e
def gInt : En → Val → Option D := fun _ v => match v with
  | .d (.int i) => some (.int i)
  | .d (.bool b) => some (.int (if b then 1 else 0))
  | _ => none
theorem rs_int : RS K (fun xs H Q => (∃ i, xs = [.int i] ∧ Q (.int i) H) ∨ ∃ k, xs = [.bl k] ∧ Q (.int (if k then 1 else 0)) H) (f1 gInt) := rs_f1 fun pa tmp0 tmp σ H env I h0 u v z p e => by
  unfold gInt at e
  split at e
  · cases e; cases p
    exact ⟨_, .int _, fun Q q => .inl ⟨_, rfl, q⟩⟩
  · cases e; cases p
    exact ⟨_, .int _, fun Q q => .inr ⟨_, rfl, q⟩⟩
  · cases e
/-- two ints -/
def f2I (g : Int → Int → D) : List Val → DE := fun vs env => match vs with
  | [.d (.int i), .d (.int j)] => some (.d (g i j), env)
  | _ => none
theorem rs_2I {r : List V → Hp → VK → Prop} {g : Int → Int → Int} (h : ∀ i j H (Q : VK), Q (.int (g i j)) H → r [.int i, .int j] H Q) : RS K r (f2I fun i j => .int (g i j)) := by
  intro pa tmp0 tmp σ H env I h0 us vs p val env' e Q q
  unfold f2I at e
  split at e
  · rename_i i j
    cases e
    match us, p with
    | [u1, u2], p =>
      obtain ⟨p1, p2, _⟩ := p
      cases p1
      cases p2
      exact h i j H Q (q _ H tmp .refl I (.int _))
  · cases e
theorem rs_max2 : RS K (fun xs H Q => ∃ i j, xs = [.int i, .int j] ∧ Q (.int (if j > i then j else i)) H) (f2I fun i j => .int (if j > i then j else i)) := rs_2I fun i j H Q q => ⟨i, j, rfl, q⟩
theorem rs_min2 : RS K (fun xs H Q => ∃ i j, xs = [.int i, .int j] ∧ Q (.int (if j < i then j else i)) H) (f2I fun i j => .int (if j < i then j else i)) := rs_2I fun i j H Q q => ⟨i, j, rfl, q⟩
theorem rs_gcd : RS K rGcd (f2I fun i j => .int ((Nat.gcd i.natAbs j.natAbs : Nat) : Int)) := rs_2I fun i j H Q q => ⟨i, j, rfl, q⟩
/-- tuple(x), list(x) -/
def fTuple : List Val → DE := fun vs env => match vs with
  | [v] => match tupOf v with
    | some xs => some (.d (.tuple xs), env)
    | none => (listOf env v).map fun xs => (.d (.tuple xs), env)
  | _ => none
theorem rs_tuple : RS K (fun xs H Q => ∃ p ys, xs = [.ref p] ∧ ((SqL K H p ys ∧ ∀ l, H l = none → Q (.ref l) (upd H l (.tup ys))) ∨ (SqT K H p ys ∧ Q (.ref p) H))) fTuple := by
  intro pa tmp0 tmp σ H env I h0 us vs p val env' e Q q
  unfold fTuple at e
  split at e
  · rename_i v
    match us, p with
    | [u], p =>
      split at e
      · rename_i xs ex
        cases e
        obtain ⟨a, ws, h1, h2, h3⟩ := tupOf_at p.1 ex
        have hv : v = .d (.tuple xs) := by
          unfold tupOf at ex
          split at ex
          · cases ex; rfl
          · cases ex
        subst hv
        subst h1
        exact ⟨a, ws, rfl, .inr ⟨h2, q _ H tmp .refl I p.1⟩⟩
      · obtain ⟨xs, ex, e⟩ := Option.map_eq_some_iff.mp e
        cases e
        obtain ⟨a, ws, h1, h2, h3⟩ := listOf_at I p.1 ex
        subst h1
        refine ⟨a, ws, rfl, .inl ⟨h2, fun l hl => ?_⟩⟩
        obtain ⟨s2, I2, h4⟩ := tup_new (tmp := tmp) I (fun _ h => h) h3 hl
        exact q _ _ tmp s2 I2 h4
  · cases e
def fList : List Val → DE := fun vs env => match vs with
  | [v] => match tupOf v with
    | some xs => some (.f (.l xs), env)
    | none => (listOf env v).map fun xs => (.f (.l xs), env)
  | _ => none
theorem postf_less {t0 t : Addr → Prop} {tmp : Addr → Prop} {σ : L2.St} {H : Hp} {env : En} {u : V} {v : Val} (k : ∀ p, t p → t0 p) (h : PostV K t0 tmp H σ env u v) : PostV K t tmp H σ env u v := h.tmp0 k
theorem rs_list : RS K (fun xs H Q => ∃ p ys, xs = [.ref p] ∧ (SqL K H p ys ∨ SqT K H p ys) ∧ ∀ l, H l = none → Q (.ref l) (upd H l (.lst ys))) fList := by
  intro pa tmp0 tmp σ H env I h0 us vs p val env' e Q q
  unfold fList at e
  split at e
  · rename_i v
    match us, p with
    | [u], p =>
      split at e
      · rename_i xs ex
        cases e
        obtain ⟨a, ws, h1, h2, h3⟩ := tupOf_at p.1 ex
        subst h1
        refine ⟨a, ws, rfl, .inr h2, fun l hl => ?_⟩
        obtain ⟨s2, I2, h4⟩ := lst_new (tmp := tmp) I (fun _ h => h) h3 hl
        exact q _ _ _ s2 I2 (h4.tmp0 h0)
      · obtain ⟨xs, ex, e⟩ := Option.map_eq_some_iff.mp e
        cases e
        obtain ⟨a, ws, h1, h2, h3⟩ := listOf_at I p.1 ex
        subst h1
        refine ⟨a, ws, rfl, .inl h2, fun l hl => ?_⟩
        obtain ⟨s2, I2, h4⟩ := lst_new (tmp := tmp) I (fun _ h => h) h3 hl
        exact q _ _ _ s2 I2 (h4.tmp0 h0)
  · cases e
/-- sums, all, any -/
def intsOf : List D → Option (List Int)
  | [] => some []
  | .int i :: r => (intsOf r).map fun is => i :: is
  | _ => none
def boolsOf : List D → Option (List Bool)
  | [] => some []
  | .bool i :: r => (boolsOf r).map fun is => i :: is
  | _ => none
theorem intsOf_eq : ∀ {xs : List D} {ns : List Int}, intsOf xs = some ns → xs = ns.map PyData.int
  | [], ns, e => by cases e; rfl
  | .int i :: r, ns, e => by
    obtain ⟨is, h, e⟩ := Option.map_eq_some_iff.mp (show (intsOf r).map (fun is => i :: is) = some ns from e)
    cases e
    rw [intsOf_eq h]
    rfl
  | .none :: _, _, e => by cases e
  | .bool _ :: _, _, e => by cases e
  | .str _ :: _, _, e => by cases e
  | .list _ :: _, _, e => by cases e
  | .tuple _ :: _, _, e => by cases e
  | .dict _ :: _, _, e => by cases e
theorem boolsOf_eq : ∀ {xs : List D} {ns : List Bool}, boolsOf xs = some ns → xs = ns.map PyData.bool
  | [], ns, e => by cases e; rfl
  | .bool i :: r, ns, e => by
    obtain ⟨is, h, e⟩ := Option.map_eq_some_iff.mp (show (boolsOf r).map (fun is => i :: is) = some ns from e)
    cases e
    rw [boolsOf_eq h]
    rfl
  | .none :: _, _, e => by cases e
  | .int _ :: _, _, e => by cases e
  | .str _ :: _, _, e => by cases e
  | .list _ :: _, _, e => by cases e
  | .tuple _ :: _, _, e => by cases e
  | .dict _ :: _, _, e => by cases e
theorem intsOf_map (ns : List Int) : intsOf (ns.map PyData.int) = some ns := by
  induction ns with
  | nil => rfl
  | cons n ns ih => show (intsOf (ns.map PyData.int)).map _ = _; rw [ih]; rfl
theorem boolsOf_map (ns : List Bool) : boolsOf (ns.map PyData.bool) = some ns := by
  induction ns with
  | nil => rfl
  | cons n ns ih => show (boolsOf (ns.map PyData.bool)).map _ = _; rw [ih]; rfl
def gSum : En → Val → Option D := fun env v => (listOf env v).bind fun xs => (intsOf xs).map fun ns => .int ns.sum
theorem rs_sum : RS K (rSum K) (f1 gSum) := rs_f1 fun pa tmp0 tmp σ H env I h0 u v z p e => by
  obtain ⟨xs, ex, e⟩ := Option.bind_eq_some_iff.mp e
  obtain ⟨ns, en, e⟩ := Option.map_eq_some_iff.mp e
  cases e
  obtain ⟨a, ws, h1, h2, h3⟩ := listOf_at I p ex
  rw [intsOf_eq en] at h3
  rw [h3.ints] at h2
  subst h1
  exact ⟨_, .int _, fun Q q => ⟨a, ns, rfl, h2, q⟩⟩
def gAll : En → Val → Option D := fun env v => (listOf env v).bind fun xs => (boolsOf xs).map fun bs => .bool (bs.all id)
theorem rs_all : RS K (rAll K) (f1 gAll) := rs_f1 fun pa tmp0 tmp σ H env I h0 u v z p e => by
  obtain ⟨xs, ex, e⟩ := Option.bind_eq_some_iff.mp e
  obtain ⟨ns, en, e⟩ := Option.map_eq_some_iff.mp e
  cases e
  obtain ⟨a, ws, h1, h2, h3⟩ := listOf_at I p ex
  rw [boolsOf_eq en] at h3
  rw [h3.bools] at h2
  subst h1
  exact ⟨_, .bl _, fun Q q => ⟨a, ns, rfl, h2, q⟩⟩
def gAny : En → Val → Option D := fun env v => (listOf env v).bind fun xs => (boolsOf xs).map fun bs => .bool (bs.any id)
theorem rs_any : RS K (rAny K) (f1 gAny) := rs_f1 fun pa tmp0 tmp σ H env I h0 u v z p e => by
  obtain ⟨xs, ex, e⟩ := Option.bind_eq_some_iff.mp e
  obtain ⟨ns, en, e⟩ := Option.map_eq_some_iff.mp e
  cases e
  obtain ⟨a, ws, h1, h2, h3⟩ := listOf_at I p ex
  rw [boolsOf_eq en] at h3
  rw [h3.bools] at h2
  subst h1
  exact ⟨_, .bl _, fun Q q => ⟨a, ns, rfl, h2, q⟩⟩

/-! ### items, slices -/
/-- x[i] -/
def fIx : Val → Val → DE := fun x y env => match y with
  | .d (.int i) => match tupOf x with
    | some xs => (atI xs i).map fun z => (.d z, env)
    | none => (listOf env x).bind fun xs => (atI xs i).map fun z => (.d z, env)
  | _ => none
theorem atI_sh {ok : Addr → Prop} {H : Hp} {vs : List V} {ds : List D} {i : Int} {d : D} (h : ShAll K ok H vs ds) (e : atI ds i = some d) : ∃ v, atI vs i = some v ∧ Sh K ok H v d := by
  unfold atI at e ⊢
  rw [h.length]
  obtain ⟨j, ej, e⟩ := Option.bind_eq_some_iff.mp e
  obtain ⟨v, h1, h2⟩ := h.get' e
  exact ⟨v, by rw [ej]; exact h1, h2⟩
theorem r2_ix : R2S K (rIx K) fIx := by
  intro pa tmp0 tmp σ H env I h0 u1 v1 u2 v2 p1 p2 val env' e Q q
  unfold fIx at e
  split at e
  · rename_i i
    cases p2
    split at e
    · rename_i xs ex
      obtain ⟨z, ez, e⟩ := Option.map_eq_some_iff.mp e
      cases e
      obtain ⟨a, ws, h1, h2, h3⟩ := tupOf_at p1 ex
      subst h1
      obtain ⟨w, h4, h5⟩ := atI_sh h3 ez
      exact .inr (.inl ⟨a, ws, i, w, rfl, rfl, h2, h4, q w H tmp .refl I h5⟩)
    · obtain ⟨xs, ex, e⟩ := Option.bind_eq_some_iff.mp e
      obtain ⟨z, ez, e⟩ := Option.map_eq_some_iff.mp e
      cases e
      obtain ⟨a, ws, h1, h2, h3⟩ := listOf_at I p1 ex
      subst h1
      obtain ⟨w, h4, h5⟩ := atI_sh h3 ez
      exact .inl ⟨a, ws, i, w, rfl, rfl, h2, h4, q w H tmp .refl I h5⟩
  · cases e
/-! == and != of data -/
def eqD (x y : D) : Option Bool := if SeqAt.shaped x && SeqAt.shaped y then some (PyData.eqv x y) else none
def fEq : Val → Val → DE := fun x y env => (asD x).bind fun d => (asD y).bind fun e => (eqD d e).map fun b => (.d (.bool b), env)
def fNe : Val → Val → DE := fun x y env => (asD x).bind fun d => (asD y).bind fun e => (eqD d e).map fun b => (.d (.bool (!b)), env)
/-- as data, before the temporaries go -/
theorem asD_dp {pa : Nat → Option Addr} {tmp0 tmp : Addr → Prop} {σ : L2.St} {H : Hp} {env : En} {u : V} {v : Val} {x : D} (I : Okk K pa tmp H σ env) (h0 : ∀ p, tmp0 p → tmp p) (h : PostV K tmp0 tmp H σ env u v) (e : asD v = some x) (hd : x.hasDict = false) : Dp K H u x := (asD_at I h0 h e).dp hd
theorem shaped_nodict {d : D} (h : SeqAt.shaped d = true) : d.hasDict = false := by
  unfold SeqAt.shaped at h
  exact PyData.hasDict_of_canLay d ((Bool.and_eq_true _ _).mp h).1
theorem r2_eq : R2S K (rEqD K) fEq := by
  intro pa tmp0 tmp σ H env I h0 u1 v1 u2 v2 p1 p2 val env' e Q q
  obtain ⟨d, ed, e⟩ := Option.bind_eq_some_iff.mp e
  obtain ⟨d2, ed2, e⟩ := Option.bind_eq_some_iff.mp e
  obtain ⟨b, eb, e⟩ := Option.map_eq_some_iff.mp e
  cases e
  unfold eqD at eb
  split at eb
  · rename_i hs
    cases eb
    obtain ⟨h1, h2⟩ := (Bool.and_eq_true _ _).mp hs
    exact ⟨d, d2, asD_dp I h0 p1 ed (shaped_nodict h1), asD_dp I h0 p2 ed2 (shaped_nodict h2), h1, h2, q _ H tmp .refl I (.bl _)⟩
  · cases eb
theorem r2_ne : R2S K (rNeD K) fNe := by
  intro pa tmp0 tmp σ H env I h0 u1 v1 u2 v2 p1 p2 val env' e Q q
  obtain ⟨d, ed, e⟩ := Option.bind_eq_some_iff.mp e
  obtain ⟨d2, ed2, e⟩ := Option.bind_eq_some_iff.mp e
  obtain ⟨b, eb, e⟩ := Option.map_eq_some_iff.mp e
  cases e
  unfold eqD at eb
  split at eb
  · rename_i hs
    cases eb
    obtain ⟨h1, h2⟩ := (Bool.and_eq_true _ _).mp hs
    exact ⟨d, d2, asD_dp I h0 p1 ed (shaped_nodict h1), asD_dp I h0 p2 ed2 (shaped_nodict h2), h1, h2, q _ H tmp .refl I (.bl _)⟩
  · cases eb
/-- is None, is not None -/
def fIsN : Val → Val → DE := fun x y env => match y with
  | .d .none => match x with
    | .d .none => some (.d (.bool true), env)
    | _ => some (.d (.bool false), env)
  | _ => none
def fNotN : Val → Val → DE := fun x y env => match y with
  | .d .none => match x with
    | .d .none => some (.d (.bool false), env)
    | _ => some (.d (.bool true), env)
  | _ => none
theorem post_non {pa : Nat → Option Addr} {tmp0 tmp : Addr → Prop} {σ : L2.St} {H : Hp} {env : En} {u : V} {v : Val} (I : Okk K pa tmp H σ env) (hb : ∀ i, v = .b i → ∃ k b, env[i]? = some (Cl.o k b)) (h : PostV K tmp0 tmp H σ env u v) : decide (u = .non) = (match v with | .d .none => true | _ => false) := by
  cases v with
  | d x =>
    have h' : Sh K (Nb tmp σ env) H u x := h
    cases h' <;> rfl
  | f b => obtain ⟨p, e, _⟩ := h; subst e; rfl
  | b i =>
    obtain ⟨k, b, e⟩ := hb i rfl
    obtain ⟨p, e1, _⟩ := I.own i k b e
    have h' : σ[i]? = some (some u) := h
    rw [e1] at h'
    cases h'
    rfl
end
end DL
end
section
set_option Elab.async false
set_option linter.all false
set_option maxRecDepth 100000
namespace DL
open PySem L2
section
variable {K : PySem.W.Frag}

/-! ### steps of statements -/
structure Sp2 (σ σ' : L2.St) (env env' : En) (tmp tmp' : Addr → Prop) (H H' : Hp) : Prop where
  keep : ∀ a o, H a = some o → ¬ Slt σ env a → H' a = some o
  slots : ∀ p, Slt σ' env' p → Slt σ env p ∨ H p = none
  inc : ∀ p, tmp p → tmp' p
  new : ∀ p, tmp' p → tmp p ∨ H p = none
  trk : ∀ a, H a ≠ none → H' a ≠ none
theorem Sp1.sp2 {σ : L2.St} {env env' : En} {tmp tmp' : Addr → Prop} {H H' : Hp} (s : Sp1 σ env env' tmp tmp' H H') : Sp2 σ σ env env' tmp tmp' H H' := ⟨s.keep, fun _ h => .inl (s.slot h), s.inc, s.new, s.trk⟩
theorem Sp2.refl {σ : L2.St} {env : En} {tmp : Addr → Prop} {H : Hp} : Sp2 σ σ env env tmp tmp H H := Sp1.refl.sp2
theorem Sp2.trans {σ0 σ1 σ2 : L2.St} {e0 e1 e2 : En} {t0 t1 t2 : Addr → Prop} {H0 H1 H2 : Hp} (a : Sp2 σ0 σ1 e0 e1 t0 t1 H0 H1) (b : Sp2 σ1 σ2 e1 e2 t1 t2 H1 H2) : Sp2 σ0 σ2 e0 e2 t0 t2 H0 H2 := by
  have back : ∀ p, H1 p = none → H0 p = none := fun p h => by
    cases e : H0 p with
    | none => rfl
    | some o => exact absurd h (a.trk p (by rw [e]; exact fun z => by cases z))
  refine ⟨fun p o h n => b.keep p o (a.keep p o h n) fun z => ?_, fun p h => ?_, fun p h => b.inc p (a.inc p h), fun p h => ?_, fun p h => b.trk p (a.trk p h)⟩
  · rcases a.slots p z with z | z
    · exact n z
    · rw [h] at z; cases z
  · rcases b.slots p h with h | h
    · exact a.slots p h
    · exact .inr (back p h)
  · rcases b.new p h with h | h
    · exact a.new p h
    · exact .inr (back p h)
theorem Sp2.less {σ σ' : L2.St} {env env' : En} {tmp t1 t2 : Addr → Prop} {H H' : Hp} (s : Sp2 σ σ' env env' tmp t1 H H') (k : ∀ p, t2 p → t1 p) (i : ∀ p, tmp p → t2 p) : Sp2 σ σ' env env' tmp t2 H H' := ⟨s.keep, s.slots, i, fun p h => s.new p (k p h), s.trk⟩
theorem Sp2.go {σ σ' : L2.St} {env env' : En} {tmp tmp' : Addr → Prop} {H H' : Hp} (s : Sp2 σ σ' env env' tmp tmp' H H') : Go (Nb tmp σ env) (Nb tmp' σ' env') H H' := fun a o e k => by
  refine ⟨s.keep a o e fun z => k (.inl z), fun z => ?_⟩
  rcases z with z | z
  · rcases s.slots a z with z | z
    · exact k (.inl z)
    · rw [e] at z; cases z
  · rcases s.new a z with z | z
    · exact k (.inr z)
    · rw [e] at z; cases z
/-- what is wanted behind a statement -/
def Thn (K : PySem.W.Frag) (pa : Nat → Option Addr) (tmp : Addr → Prop) (σ : L2.St) (H : Hp) (env : En) (fl : Fl) (env' : En) (E : Ends) : Prop := match fl with
  | .nx => ∀ σ' H', Sp2 σ σ' env env' tmp tmp H H' → Okk K pa tmp H' σ' env' → E.nx σ' H'
  | .bk => ∀ σ' H', Sp2 σ σ' env env' tmp tmp H H' → Okk K pa tmp H' σ' env' → E.bk σ' H'
  | .ct => ∀ σ' H', Sp2 σ σ' env env' tmp tmp H H' → Okk K pa tmp H' σ' env' → E.ct σ' H'
  | .rt v => ∀ u σ' H' tmp', Sp2 σ σ' env env' tmp tmp' H H' → Okk K pa tmp' H' σ' env' → PostV K tmp tmp' H' σ' env' u v → E.rt u H'
def SS (K : PySem.W.Frag) (ts : TS) (den : DS) : Prop := ∀ (pa : Nat → Option Addr) (tmp : Addr → Prop) (σ : L2.St) (H : Hp) (env : En), Okk K pa tmp H σ env → ∀ fl env', den env = some (fl, env') →
  ∀ E : Ends, Thn K pa tmp σ H env fl env' E → ts E σ H
theorem Thn.from {pa : Nat → Option Addr} {tmp : Addr → Prop} {σ σ1 : L2.St} {H H1 : Hp} {env e1 env' : En} {fl : Fl} {E : Ends} (h : Thn K pa tmp σ H env fl env' E) (s : Sp2 σ σ1 env e1 tmp tmp H H1) : Thn K pa tmp σ1 H1 e1 fl env' E := by
  cases fl with
  | nx => exact fun σ' H' s' I' => h σ' H' (s.trans s') I'
  | bk => exact fun σ' H' s' I' => h σ' H' (s.trans s') I'
  | ct => exact fun σ' H' s' I' => h σ' H' (s.trans s') I'
  | rt v => exact fun u σ' H' tmp' s' I' p' => h u σ' H' tmp' (s.trans s') I' p'

/-! ### blocks -/
def dNext : DS := fun env => some (.nx, env)
def dSeq (a b : DS) : DS := fun env => (a env).bind fun p => match p.1 with
  | .nx => b p.2
  | f => some (f, p.2)
theorem ss_next : SS K tNext dNext := by
  intro pa tmp σ H env I fl env' e E q
  cases e
  exact q σ H .refl I
theorem ss_seq {t u : TS} {a b : DS} (ha : SS K t a) (hb : SS K u b) : SS K (tSeq t u) (dSeq a b) := by
  intro pa tmp σ H env I fl env' e E q
  obtain ⟨⟨f1, e1⟩, ex, e⟩ := Option.bind_eq_some_iff.mp e
  refine ha pa tmp σ H env I f1 e1 ex _ ?_
  cases f1 with
  | nx => exact fun σ' H' s' I' => hb pa tmp σ' H' e1 I' fl env' e E (q.from s')
  | bk => cases e; exact fun σ' H' s' I' => q σ' H' s' I'
  | ct => cases e; exact fun σ' H' s' I' => q σ' H' s' I'
  | rt v => cases e; exact fun u σ' H' tmp' s' I' p' => q u σ' H' tmp' s' I' p'
def dNever : DS := fun _ => none
theorem ss_never : SS K tNever dNever := fun _ _ _ _ _ _ _ _ e => by cases e
def dBreak : DS := fun env => some (.bk, env)
def dCont : DS := fun env => some (.ct, env)
theorem ss_break : SS K tBreak dBreak := by
  intro pa tmp σ H env I fl env' e E q
  cases e
  exact q σ H .refl I
theorem ss_cont : SS K tCont dCont := by
  intro pa tmp σ H env I fl env' e E q
  cases e
  exact q σ H .refl I
def dRet (a : DE) : DS := fun env => (a env).map fun p => (.rt p.1, p.2)
theorem ss_ret {te : TE} {a : DE} (ha : SE K te a) : SS K (tRet te) (dRet a) := by
  intro pa tmp σ H env I fl env' e E q
  obtain ⟨⟨v, e1⟩, ex, e⟩ := Option.map_eq_some_iff.mp e
  cases e
  exact ha pa tmp σ H env I v e1 ex _ fun u H' t' s' I' p' => q u σ H' t' s'.sp2 I' p'
def dRetN : DS := fun env => some (.rt (.d .none), env)
theorem ss_retN : SS K tRetN dRetN := by
  intro pa tmp σ H env I fl env' e E q
  cases e
  exact q .non σ H tmp .refl I .non
def dDrop (a : DE) : DS := fun env => (a env).map fun p => (.nx, p.2)
theorem ss_drop {te : TE} {a : DE} (ha : SE K te a) : SS K (tDrop te) (dDrop a) := by
  intro pa tmp σ H env I fl env' e E q
  obtain ⟨⟨v, e1⟩, ex, e⟩ := Option.map_eq_some_iff.mp e
  cases e
  exact ha pa tmp σ H env I v e1 ex _ fun u H' t' s' I' p' => q σ H' (s'.less s'.inc fun _ h => h).sp2 (I'.less s'.inc)
def dIfS (t : DB) (a b : DS) : DS := fun env => (t env).bind fun p => if p.1 then a p.2 else b p.2
theorem ss_if {tt : TT} {ta tb : TS} {t : DB} {a b : DS} (ht : SB K tt t) (ha : SS K ta a) (hb : SS K tb b) : SS K (tIfS tt ta tb) (dIfS t a b) := by
  intro pa tmp σ H env I fl env' e E q
  obtain ⟨⟨c, e1⟩, ec, e⟩ := Option.bind_eq_some_iff.mp e
  refine ht pa tmp σ H env I c e1 ec _ fun H1 s1 I1 => ?_
  cases c with
  | true =>
    rw [if_pos rfl]
    exact ha pa tmp σ H1 e1 I1 fl env' (by simpa using e) E (q.from s1.sp2)
  | false =>
    rw [if_neg Bool.false_ne_true]
    exact hb pa tmp σ H1 e1 I1 fl env' (by simpa using e) E (q.from s1.sp2)

/-! ### slots set -/
theorem owd_set {σ : L2.St} {env : En} {i j : Nat} {c : Cl} {u : V} {p : Addr} (h : Owd (σ.set i (some u)) (env.set i c) j p) : (j = i ∧ ∃ k b, c = .o k b ∧ u = .ref p) ∨ (j ≠ i ∧ Owd σ env j p) := by
  obtain ⟨⟨k, b, e⟩, es⟩ := h
  by_cases hj : i = j
  · subst hj
    by_cases hl : i < env.length
    · rw [List.getElem?_set_self hl] at e
      cases e
      by_cases hs : i < σ.length
      · rw [List.getElem?_set_self hs] at es
        cases es
        exact .inl ⟨rfl, k, b, rfl, rfl⟩
      · rw [List.getElem?_eq_none (by rw [List.length_set]; omega)] at es
        cases es
    · rw [List.getElem?_eq_none (by rw [List.length_set]; omega)] at e
      cases e
  · rw [List.getElem?_set_ne hj] at e es
    exact .inr ⟨fun z => hj z.symm, ⟨k, b, e⟩, es⟩
/-- data to a slot -/
theorem Okk.setD {pa : Nat → Option Addr} {tmp : Addr → Prop} {H : Hp} {σ : L2.St} {env : En} {i : Nat} {u : V} {x : D} (I : Okk K pa tmp H σ env) (h : Sh K (Nb tmp σ env) H u x) :
    Okk K pa tmp H (σ.set i (some u)) (env.set i (.d x)) ∧ Sp2 σ (σ.set i (some u)) env (env.set i (.d x)) tmp tmp H H := by
  have sub : ∀ j q, Owd (σ.set i (some u)) (env.set i (.d x)) j q → Owd σ env j q := fun j q h => by
    rcases owd_set h with ⟨_, k, b, z, _⟩ | ⟨_, z⟩
    · cases z
    · exact z
  have g : Go (Nb tmp σ env) (Nb tmp (σ.set i (some u)) (env.set i (.d x))) H H := fun a o ea h => ⟨ea, fun z => h (z.imp (fun ⟨j, q⟩ => ⟨j, sub j a q⟩) id)⟩
  refine ⟨⟨?_, fun j y ej => ?_, fun j kk b ej => ?_, fun a b q h1 h2 => I.inj a b q (sub a q h1) (sub b q h2), I.tin⟩, ⟨fun _ _ h _ => h, fun p ⟨j, q⟩ => .inl ⟨j, sub j p q⟩, fun _ h => h, fun _ h => .inl h, fun _ h => h⟩⟩
  · rw [List.length_set, List.length_set]; exact I.len
  · by_cases hj : i = j
    · subst hj
      have hi : i < env.length := by
        have := (List.getElem?_eq_some_iff.mp ej).1
        rwa [List.length_set] at this
      rw [List.getElem?_set_self hi] at ej
      cases ej
      exact ⟨u, List.getElem?_set_self (by rw [I.len]; exact hi), h.goes g⟩
    · rw [List.getElem?_set_ne hj] at ej
      obtain ⟨v, h1, h2⟩ := I.dat j y ej
      exact ⟨v, by rw [List.getElem?_set_ne hj]; exact h1, h2.goes g⟩
  · by_cases hj : i = j
    · subst hj
      have hi : i < env.length := by
        have := (List.getElem?_eq_some_iff.mp ej).1
        rwa [List.length_set] at this
      rw [List.getElem?_set_self hi] at ej
      cases ej
    · rw [List.getElem?_set_ne hj] at ej
      obtain ⟨q, h1, h2, h3, h4⟩ := I.own j kk b ej
      exact ⟨q, by rw [List.getElem?_set_ne hj]; exact h1, h2.goes g rfl, h3, h4⟩
/-- a new box to a slot -/
theorem Okk.setF {pa : Nat → Option Addr} {tmp t1 : Addr → Prop} {H : Hp} {σ : L2.St} {env : En} {i : Nat} {p : Addr} {b : Box} (I : Okk K pa t1 H σ env) (h0 : ∀ q, tmp q → t1 q) (h1 : t1 p) (h2 : ¬ tmp p) (h3 : ¬ Slt σ env p) (h4 : BoxAt K (Nb t1 σ env) H p b) :
    Okk K pa tmp H (σ.set i (some (.ref p))) (env.set i (.o none b)) ∧ ∀ q, Slt (σ.set i (some (.ref p))) (env.set i (.o none b)) q → Slt σ env q ∨ q = p := by
  have sub : ∀ j q, Owd (σ.set i (some (.ref p))) (env.set i (.o none b)) j q → (j = i ∧ q = p) ∨ (j ≠ i ∧ Owd σ env j q) := fun j q h => by
    rcases owd_set h with ⟨hj, k, b, _, z⟩ | z
    · cases z; exact .inl ⟨hj, rfl⟩
    · exact .inr z
  have g : Go (Nb t1 σ env) (Nb tmp (σ.set i (some (.ref p))) (env.set i (.o none b))) H H := fun a o ea h => ⟨ea, fun z => by
    rcases z with ⟨j, q⟩ | z
    · rcases sub j a q with ⟨_, z⟩ | ⟨_, z⟩
      · subst z; exact h (.inr h1)
      · exact h (.inl ⟨j, z⟩)
    · exact h (.inr (h0 a z))⟩
  refine ⟨⟨?_, fun j y ej => ?_, fun j kk b' ej => ?_, fun a c q ha hc => ?_, fun q h => I.tin q (h0 q h)⟩, fun q ⟨j, h⟩ => ?_⟩
  · rw [List.length_set, List.length_set]; exact I.len
  · by_cases hj : i = j
    · subst hj
      have hi : i < env.length := by
        have := (List.getElem?_eq_some_iff.mp ej).1
        rwa [List.length_set] at this
      rw [List.getElem?_set_self hi] at ej
      cases ej
    · rw [List.getElem?_set_ne hj] at ej
      obtain ⟨v, h1, h2⟩ := I.dat j y ej
      exact ⟨v, by rw [List.getElem?_set_ne hj]; exact h1, h2.goes g⟩
  · by_cases hj : i = j
    · subst hj
      have hi : i < env.length := by
        have := (List.getElem?_eq_some_iff.mp ej).1
        rwa [List.length_set] at this
      rw [List.getElem?_set_self hi] at ej
      cases ej
      exact ⟨p, List.getElem?_set_self (by rw [I.len]; exact hi), h4.goes g rfl, h2, fun j z => by cases z⟩
    · rw [List.getElem?_set_ne hj] at ej
      obtain ⟨q, e1, e2, e3, e4⟩ := I.own j kk b' ej
      exact ⟨q, by rw [List.getElem?_set_ne hj]; exact e1, e2.goes g rfl, fun z => e3 (h0 q z), e4⟩
  · rcases sub a q ha with ⟨x1, x2⟩ | ⟨x1, x2⟩
    · rcases sub c q hc with ⟨y1, y2⟩ | ⟨y1, y2⟩
      · rw [x1, y1]
      · subst x2; exact absurd ⟨c, y2⟩ h3
    · rcases sub c q hc with ⟨y1, y2⟩ | ⟨y1, y2⟩
      · subst y2; exact absurd ⟨a, x2⟩ h3
      · exact I.inj a c q x2 y2
  · rcases sub j q h with ⟨_, z⟩ | ⟨_, z⟩
    · exact .inr z
    · exact .inl ⟨j, z⟩
/-- x = e -/
def cellOf : Val → Option Cl
  | .d x => some (.d x)
  | .f b => some (.o none b)
  | .b _ => none
def dSet (i : Nat) (a : DE) : DS := fun env => (a env).bind fun p => (cellOf p.1).map fun c => (.nx, p.2.set i c)
theorem ss_set {te : TE} {a : DE} {i : Nat} (ha : SE K te a) : SS K (tAsg te (gName i)) (dSet i a) := by
  intro pa tmp σ H env I fl env' e E q
  obtain ⟨⟨v, e1⟩, ex, e⟩ := Option.bind_eq_some_iff.mp e
  obtain ⟨c, ec, e⟩ := Option.map_eq_some_iff.mp e
  cases e
  refine ha pa tmp σ H env I v e1 ex _ fun u H' t' s' I' p' => ?_
  cases v with
  | d x =>
    cases ec
    have p2 : Sh K (Nb tmp σ e1) H' u x := Sh.goes (Nb.less s'.inc) p'
    obtain ⟨I2, s2⟩ := (I'.less s'.inc).setD (i := i) p2
    exact q _ H' ((s'.less s'.inc fun _ h => h).sp2.trans s2) I2
  | f b =>
    cases ec
    obtain ⟨p, h1, h2, h3, h4, h5⟩ := p'
    subst h1
    obtain ⟨I2, sl⟩ := I'.setF (i := i) s'.inc h2 h3 h4 h5
    refine q _ H' ⟨s'.keep, fun r hr => ?_, fun _ h => h, fun _ h => .inl h, s'.trk⟩ I2
    rcases sl r hr with z | z
    · exact .inl (s'.slot z)
    · subst z
      rcases s'.new r h2 with z | z
      · exact absurd z h3
      · exact .inr z
  | b i => cases ec

/-! ### targets that take data -/
abbrev DG := D → En → Option En
def SG (K : PySem.W.Frag) (tg : List Nat) (g : TG) (asg : DG) : Prop := ∀ (pa : Nat → Option Addr) (tmp : Addr → Prop) (σ : L2.St) (H : Hp) (env : En), Okk K pa tmp H σ env → ∀ u x, Sh K (Nb tmp σ env) H u x → ∀ env', asg x env = some env' →
  ∀ Q : L2.St → Hp → Prop, (∀ σ' H', Sp2 σ σ' env env' tmp tmp H H' → Okk K pa tmp H' σ' env' → (∀ i : Nat, i ∉ tg → σ'[i]? = σ[i]?) → Q σ' H') → g u σ H Q
def SGs (K : PySem.W.Frag) (tg : List Nat) (g : TGs) (asg : List D → En → Option En) : Prop := ∀ (pa : Nat → Option Addr) (tmp : Addr → Prop) (σ : L2.St) (H : Hp) (env : En), Okk K pa tmp H σ env → ∀ us xs, ShAll K (Nb tmp σ env) H us xs → ∀ env', asg xs env = some env' →
  ∀ Q : L2.St → Hp → Prop, (∀ σ' H', Sp2 σ σ' env env' tmp tmp H H' → Okk K pa tmp H' σ' env' → (∀ i : Nat, i ∉ tg → σ'[i]? = σ[i]?) → Q σ' H') → g us σ H Q
def aName (i : Nat) : DG := fun x env => some (env.set i (.d x))
def aNil : List D → En → Option En := fun xs env => match xs with
  | [] => some env
  | _ => none
def aCons (a : DG) (b : List D → En → Option En) : List D → En → Option En := fun xs env => match xs with
  | x :: r => (a x env).bind fun e => b r e
  | _ => none
def aTup (n : Nat) (b : List D → En → Option En) : DG := fun x env => match x with
  | .tuple xs => if xs.length = n then b xs env else none
  | _ => none
theorem sg_name {i : Nat} : SG K [i] (gName i) (aName i) := by
  intro pa tmp σ H env I u x h env' e Q q
  cases e
  obtain ⟨I2, s2⟩ := I.setD (i := i) h
  exact q _ H s2 I2 fun j hj => List.getElem?_set_ne (fun z => hj (by rw [z]; exact List.mem_singleton.mpr rfl))
theorem sgs_nil : SGs K [] gNil aNil := by
  intro pa tmp σ H env I us xs h env' e Q q
  unfold aNil at e
  split at e
  · cases e; cases h
    exact ⟨rfl, q σ H .refl I fun _ _ => rfl⟩
  · cases e
theorem sgs_cons {t1 t2 : List Nat} {g : TG} {gs : TGs} {a : DG} {b : List D → En → Option En} (hg : SG K t1 g a) (hs : SGs K t2 gs b) : SGs K (t1 ++ t2) (gCons g gs) (aCons a b) := by
  intro pa tmp σ H env I us xs h env' e Q q
  unfold aCons at e
  split at e
  · rename_i x r
    obtain ⟨e1, ex, e⟩ := Option.bind_eq_some_iff.mp e
    cases h with
    | cons h1 h2 =>
      refine ⟨_, _, rfl, hg pa tmp σ H env I _ x h1 e1 ex _ fun σ1 H1 s1 I1 k1 => ?_⟩
      refine hs pa tmp σ1 H1 e1 I1 _ r (h2.goes s1.go) env' e _ fun σ2 H2 s2 I2 k2 => q σ2 H2 (s1.trans s2) I2 fun i hi => ?_
      rw [k2 i (fun z => hi (List.mem_append_right _ z)), k1 i (fun z => hi (List.mem_append_left _ z))]
  · cases e
theorem sg_tup {n : Nat} {t : List Nat} {gs : TGs} {b : List D → En → Option En} (hs : SGs K t gs b) : SG K t (gTup K n gs) (aTup n b) := by
  intro pa tmp σ H env I u x h env' e Q q
  unfold aTup at e
  split at e
  · rename_i xs
    split at e
    · rename_i hn
      obtain ⟨a, vs, h1, h2, h3, _⟩ := Sh.tup_inv h
      exact ⟨a, vs, h1, h2, h3.length.trans hn, hs pa tmp σ H env I vs xs h3 env' e Q q⟩
    · cases e
  · cases e
def dAsg (g : DG) (a : DE) : DS := fun env => (a env).bind fun p => (asD p.1).bind fun d => (g d p.2).map fun e => (.nx, e)
theorem ss_asg {te : TE} {a : DE} {tg : List Nat} {g : TG} {b : DG} (ha : SE K te a) (hg : SG K tg g b) : SS K (tAsg te g) (dAsg b a) := by
  intro pa tmp σ H env I fl env' e E q
  obtain ⟨⟨v, e1⟩, ex, e⟩ := Option.bind_eq_some_iff.mp e
  obtain ⟨d, ed, e⟩ := Option.bind_eq_some_iff.mp e
  obtain ⟨e2, e3, e⟩ := Option.map_eq_some_iff.mp e
  cases e
  refine ha pa tmp σ H env I v e1 ex _ fun u H' t' s' I' p' => ?_
  have h := asD_at I' s'.inc p' ed
  exact hg pa tmp σ H' e1 (I'.less s'.inc) u d h _ e3 _ fun σ2 H2 s2 I2 _ => q σ2 H2 ((s'.less s'.inc fun _ h => h).sp2.trans s2) I2
/-- a, b = x, y -/
def setAll : List Nat → List D → En → Option En
  | [], [], env => some env
  | i :: is, x :: xs, env => setAll is xs (env.set i (.d x))
  | _, _, _ => none
def dPar (is : List Nat) (a : DA) : DS := fun env => (a env).bind fun p => (asDs p.1).bind fun ds => (setAll is ds p.2).map fun e => (.nx, e)
theorem ss_par2 {ta : TA} {a : DA} {i j : Nat} (ha : SA K ta a) : SS K (tPar i j ta) (dPar [i, j] a) := by
  intro pa tmp σ H env I fl env' e E q
  obtain ⟨⟨v, e1⟩, ex, e⟩ := Option.bind_eq_some_iff.mp e
  obtain ⟨d, ed, e⟩ := Option.bind_eq_some_iff.mp e
  obtain ⟨e2, e3, e⟩ := Option.map_eq_some_iff.mp e
  cases e
  refine ha pa tmp σ H env I v e1 ex _ fun us H' t' s' I' p' => ?_
  have h := asDs_at I' s'.inc p' ed
  obtain ⟨d1, d2, rfl⟩ : ∃ d1 d2, d = [d1, d2] := by
    rcases d with _ | ⟨d1, _ | ⟨d2, _ | ⟨d3, r⟩⟩⟩
    · cases e3
    · cases e3
    · exact ⟨d1, d2, rfl⟩
    · cases e3
  cases e3
  cases h with
  | cons h1 h =>
    cases h with
    | cons h2 h =>
      cases h
      obtain ⟨I2, s2⟩ := (I'.less s'.inc).setD (i := i) h1
      obtain ⟨I3, s3⟩ := I2.setD (i := j) (h2.goes s2.go)
      exact ⟨_, _, rfl, q _ H' (((s'.less s'.inc fun _ h => h).sp2.trans s2).trans s3) I3⟩
theorem ss_par3 {ta : TA} {a : DA} {i j l : Nat} (ha : SA K ta a) : SS K (tPar3 i j l ta) (dPar [i, j, l] a) := by
  intro pa tmp σ H env I fl env' e E q
  obtain ⟨⟨v, e1⟩, ex, e⟩ := Option.bind_eq_some_iff.mp e
  obtain ⟨d, ed, e⟩ := Option.bind_eq_some_iff.mp e
  obtain ⟨e2, e3, e⟩ := Option.map_eq_some_iff.mp e
  cases e
  refine ha pa tmp σ H env I v e1 ex _ fun us H' t' s' I' p' => ?_
  have h := asDs_at I' s'.inc p' ed
  obtain ⟨d1, d2, d3, rfl⟩ : ∃ d1 d2 d3, d = [d1, d2, d3] := by
    rcases d with _ | ⟨d1, _ | ⟨d2, _ | ⟨d3, _ | ⟨d4, r⟩⟩⟩⟩
    · cases e3
    · cases e3
    · cases e3
    · exact ⟨d1, d2, d3, rfl⟩
    · cases e3
  cases e3
  cases h with
  | cons h1 h =>
    cases h with
    | cons h2 h =>
      cases h with
      | cons h3 h =>
        cases h
        obtain ⟨I2, s2⟩ := (I'.less s'.inc).setD (i := i) h1
        obtain ⟨I3, s3⟩ := I2.setD (i := j) (h2.goes s2.go)
        obtain ⟨I4, s4⟩ := I3.setD (i := l) ((h3.goes s2.go).goes s3.go)
        exact ⟨_, _, _, rfl, q _ H' ((((s'.less s'.inc fun _ h => h).sp2.trans s2).trans s3).trans s4) I4⟩
/-- x op= e, ints -/
def dAug (i : Nat) (f : Int → Int → Int) (a : DE) : DS := fun env => match env[i]? with
  | some (Cl.d (.int x)) => (a env).bind fun p => match p.1 with
    | .d (.int y) => some (.nx, p.2.set i (.d (.int (f x y))))
    | _ => none
  | _ => none
theorem ss_aug {te : TE} {a : DE} {i : Nat} {f : Int → Int → Int} (ha : SE K te a) : SS K (tAug i te (ipI f)) (dAug i f a) := by
  intro pa tmp σ H env I fl env' e E q
  unfold dAug at e
  split at e
  · rename_i x ex
    obtain ⟨⟨v, e1⟩, ev, e⟩ := Option.bind_eq_some_iff.mp e
    obtain ⟨w, hw, hsh⟩ := I.dat i _ ex
    cases hsh
    refine ⟨_, hw, ha pa tmp σ H env I v e1 ev _ fun u H' t' s' I' p' => ?_⟩
    split at e
    · rename_i y ey
      have ey' : v = .d (.int y) := ey
      subst ey'
      cases e
      cases p'
      obtain ⟨I2, s2⟩ := (I'.less s'.inc).setD (i := i) (x := .int (f x y)) (.int _)
      exact ⟨_, _, rfl, rfl, q _ H' ((s'.less s'.inc fun _ h => h).sp2.trans s2) I2⟩
    · cases e
  · cases e
end
end DL
end
section
set_option Elab.async false
set_option linter.all false
set_option maxRecDepth 100000
namespace DL
open PySem L2

/-! ### what is walked: plain data, item by item -/
def WalkD (K : PySem.W.Frag) (J : It) (ds : List D) (ok : Addr → Prop) (H : Hp) : Prop :=
  ∀ H1 : Hp, (∀ a o, H a = some o → ok a → H1 a = some o) → (∀ i d, ds[i]? = some d → J.go i H1 ∧ ∀ x H2, J.yld i H1 x H2 → (∀ a o, H1 a = some o → H2 a = some o) ∧ Sh K (fun a => (H a ≠ none ∧ ok a) ∨ H1 a = none) H2 x d) ∧
    ∀ i, ds.length ≤ i → J.stop i H1
section
variable {K : PySem.W.Frag}
def SI (K : PySem.W.Frag) (wi : TI) (den : DI) : Prop := ∀ (pa : Nat → Option Addr) (tmp : Addr → Prop) (σ : L2.St) (H : Hp) (env : En), Okk K pa tmp H σ env → ∀ ds env', den env = some (ds, env') →
  ∀ R : It → Hp → Prop, (∀ J H', Sp1 σ env env' tmp tmp H H' → Okk K pa tmp H' σ env' → WalkD K J ds (Nb tmp σ env') H' → R J H') → wi σ H R
theorem walk_list {ok : Addr → Prop} {H : Hp} {a : Addr} {vs : List V} {ds : List D} (h : (Rd H a (.lst vs) ∧ ok a) ∨ KLs K a vs) (r : ShAll K ok H vs ds) : WalkD K (Itl K a) ds ok H := fun H1 k => by
  have sq : SqL K H1 a vs := by
    rcases h with ⟨h | ⟨o, h⟩, h2⟩ | h
    · exact .inl (.inl (k _ _ h h2))
    · exact .inl (.inr ⟨o, k _ _ h h2⟩)
    · exact .inr h
  refine ⟨fun i d e => ?_, fun i hi => ⟨vs, sq, by rw [r.length]; exact hi⟩⟩
  obtain ⟨v, ev, hv⟩ := r.get' e
  refine ⟨⟨vs, v, sq, ev⟩, fun x H2 y => ?_⟩
  obtain ⟨rfl, y⟩ := y
  have ex := (y vs sq).symm.trans ev
  cases ex
  exact ⟨fun _ _ z => z, hv.goes fun b o eb kb => ⟨k b o eb kb, .inl ⟨(by rw [eb]; exact nofun), kb⟩⟩⟩
theorem walk_tup {ok : Addr → Prop} {H : Hp} {a : Addr} {vs : List V} {ds : List D} (h : (Rd H a (.tup vs) ∧ ok a) ∨ KTp K a vs) (r : ShAll K ok H vs ds) : WalkD K (Itt K a) ds ok H := fun H1 k => by
  have sq : SqT K H1 a vs := by
    rcases h with ⟨h | ⟨o, h⟩, h2⟩ | h
    · exact .inl (.inl (k _ _ h h2))
    · exact .inl (.inr ⟨o, k _ _ h h2⟩)
    · exact .inr h
  refine ⟨fun i d e => ?_, fun i hi => ⟨vs, sq, by rw [r.length]; exact hi⟩⟩
  obtain ⟨v, ev, hv⟩ := r.get' e
  refine ⟨⟨vs, v, sq, ev⟩, fun x H2 y => ?_⟩
  obtain ⟨rfl, y⟩ := y
  have ex := (y vs sq).symm.trans ev
  cases ex
  exact ⟨fun _ _ z => z, hv.goes fun b o eb kb => ⟨k b o eb kb, .inl ⟨(by rw [eb]; exact nofun), kb⟩⟩⟩
/-- a list or a tuple -/
def iAny (K : PySem.W.Frag) (tl : TE) : TI := fun σ H R => tl σ H fun x H1 => ∃ a, x = .ref a ∧ (((∃ xs, SqL K H1 a xs) ∧ R (Itl K a) H1) ∨ ((∃ xs, SqT K H1 a xs) ∧ R (Itt K a) H1))
theorem it_list {X : Cx} {tg : Expr} {pins : List (Addr × Obj)} {σ : L2.St} {H : Hp} {s : Shared} {R : It → Hp → Prop} {E : Value → Shared → Prop} {a : Addr} {xs : List V} (I : Inv X pins σ H s) (h : SqL X.K H a xs) (q : R (Itl X.K a) H) :
    wpAny (model X.prog X.w) X.A (pyIter (.ref a)) (PIE X pins σ tg R) E s := by
  obtain ⟨its, _, pl, _⟩ := I.list h
  refine wpAny_pyIter_list pl.isList ⟨_, [s.heap.objs.size], _, _, H, rfl,
    I.kept (t' := s.toks) (fun b o e => Heap.get?_push_of_some _ e),
    turn_list a _, ⟨_, Heap.get?_push_size _ rfl, rfl, rfl⟩, fun b hb => ?_, q⟩
  cases (List.mem_singleton.mp hb)
  exact I.fpOk (Nat.le_refl _) (I.hok.fresh (Nat.le_refl _))
theorem it_tup {X : Cx} {tg : Expr} {pins : List (Addr × Obj)} {σ : L2.St} {H : Hp} {s : Shared} {R : It → Hp → Prop} {E : Value → Shared → Prop} {a : Addr} {xs : List V} (I : Inv X pins σ H s) (h : SqT X.K H a xs) (q : R (Itt X.K a) H) :
    wpAny (model X.prog X.w) X.A (pyIter (.ref a)) (PIE X pins σ tg R) E s := by
  obtain ⟨its, _, pl, _⟩ := I.tuple h
  refine wpAny_pyIter_tuple (show s.heap.IsTuple a its.toArray from pl) ⟨_, [s.heap.objs.size], _, _, H, rfl,
    I.kept (t' := s.toks) (fun b o e => Heap.get?_push_of_some _ e),
    turn_tuple a _, ⟨_, Heap.get?_push_size _ rfl, rfl, rfl⟩, fun b hb => ?_, q⟩
  cases (List.mem_singleton.mp hb)
  exact I.fpOk (Nat.le_refl _) (I.hok.fresh (Nat.le_refl _))
theorem pi_any {X : Cx} {tg l : Expr} {tl : TE} (hl : PE X l tl) : PI X tg l (iAny X.K tl) := ⟨fun pins s σ H R I h => thn (hl.run pins s σ H _ I h) fun v s1 ⟨x, H1, I1, r1, q1⟩ => by
  obtain ⟨a, e, q⟩ := q1
  subst e
  cases r1
  rcases q with ⟨⟨xs, hx⟩, q⟩ | ⟨⟨xs, hx⟩, q⟩
  · exact it_list I1 hx q
  · exact it_tup I1 hx q⟩
def dIter (a : DE) : DI := fun env => (a env).bind fun p => match p.1 with
  | .d (.tuple xs) => some (xs, p.2)
  | .d (.list xs) => some (xs, p.2)
  | .f (.l xs) => some (xs, p.2)
  | _ => none
theorem si_any {tl : TE} {a : DE} (ha : SE K tl a) : SI K (iAny K tl) (dIter a) := by
  intro pa tmp σ H env I ds env' e R q
  obtain ⟨⟨v, e1⟩, ev, e⟩ := Option.bind_eq_some_iff.mp e
  refine ha pa tmp σ H env I v e1 ev _ fun u H' t' s' I' p' => ?_
  have I2 := I'.less s'.inc
  have s2 := s'.less s'.inc fun _ h => h
  have g : Go (Nb t' σ e1) (Nb tmp σ e1) H' H' := Nb.less s'.inc
  dsimp only at e
  split at e
  · cases e
    obtain ⟨b, vs, h1, h2, h3, h4⟩ := Sh.tup_inv (Sh.goes g p')
    subst h1
    exact ⟨b, rfl, .inr ⟨⟨vs, h2⟩, q _ H' s2 I2 (walk_tup h4 h3)⟩⟩
  · cases e
    obtain ⟨b, vs, h1, h2, h3, h4⟩ := Sh.list_inv (Sh.goes g p')
    subst h1
    exact ⟨b, rfl, .inl ⟨⟨vs, h2⟩, q _ H' s2 I2 (walk_list h4 h3)⟩⟩
  · cases e
    have h := asD_at (x := .list ds) I' s'.inc p' rfl
    obtain ⟨b, vs, h1, h2, h3, h4⟩ := Sh.list_inv h
    subst h1
    exact ⟨b, rfl, .inl ⟨⟨vs, h2⟩, q _ H' s2 I2 (walk_list h4 h3)⟩⟩
  · cases e
/-- range -/
def rngD (lo : Int) (n : Nat) : List D := (List.range n).map fun (i : Nat) => .int (lo + (i : Int))
def b62 (i : Int) : Bool := decide (-(2 ^ 62) ≤ i ∧ i < 2 ^ 62)
def dRng1 (a : DA) : DI := fun env => (a env).bind fun p => match p.1 with
  | [.d (.int j)] => if b62 j then some (rngD 0 j.toNat, p.2) else none
  | _ => none
def dRng2 (a : DA) : DI := fun env => (a env).bind fun p => match p.1 with
  | [.d (.int i), .d (.int j)] => if b62 i && b62 j then some (rngD i (j - i).toNat, p.2) else none
  | _ => none
theorem walk_rng {ok : Addr → Prop} {H : Hp} (lo : Int) (n : Nat) : WalkD K (Itr lo n) (rngD lo n) ok H := fun H1 k => by
  refine ⟨fun i d e => ?_, fun i hi => ?_⟩
  · unfold rngD at e
    rw [List.getElem?_map] at e
    obtain ⟨j, ej, e⟩ := Option.map_eq_some_iff.mp e
    have hj := List.getElem?_eq_some_iff.mp ej
    obtain ⟨hl, hj⟩ := hj
    rw [List.getElem_range] at hj
    rw [List.length_range] at hl
    subst hj
    subst e
    refine ⟨hl, fun x H2 y => ?_⟩
    obtain ⟨rfl, rfl⟩ := y
    exact ⟨fun _ _ z => z, .int _⟩
  · unfold rngD at hi
    rw [List.length_map, List.length_range] at hi
    exact hi
theorem si_rng1 {ta : TA} {a : DA} (ha : SA K ta a) : SI K (iRng1 ta) (dRng1 a) := by
  intro pa tmp σ H env I ds env' e R q
  obtain ⟨⟨v, e1⟩, ev, e⟩ := Option.bind_eq_some_iff.mp e
  refine ha pa tmp σ H env I v e1 ev _ fun us H' t' s' I' p' => ?_
  dsimp only at e
  split at e
  · rename_i j
    split at e
    · rename_i hb
      cases e
      match us, p' with
      | [u], p' =>
        have hu := p'.1
        cases hu
        obtain ⟨b1, b2⟩ := of_decide_eq_true hb
        exact ⟨j, rfl, b1, b2, q _ H' (s'.less s'.inc fun _ h => h) (I'.less s'.inc) (walk_rng 0 _)⟩
    · cases e
  · cases e
theorem si_rng2 {ta : TA} {a : DA} (ha : SA K ta a) : SI K (iRng2 ta) (dRng2 a) := by
  intro pa tmp σ H env I ds env' e R q
  obtain ⟨⟨v, e1⟩, ev, e⟩ := Option.bind_eq_some_iff.mp e
  refine ha pa tmp σ H env I v e1 ev _ fun us H' t' s' I' p' => ?_
  dsimp only at e
  split at e
  · rename_i i j
    split at e
    · rename_i hb
      cases e
      match us, p' with
      | [u1, u2], p' =>
        have hu := p'.1
        have hu2 := p'.2.1
        cases hu
        cases hu2
        obtain ⟨c1, c2⟩ := (Bool.and_eq_true _ _).mp hb
        obtain ⟨b1, b2⟩ := of_decide_eq_true c1
        obtain ⟨b3, b4⟩ := of_decide_eq_true c2
        exact ⟨i, j, rfl, ⟨b1, b2, b3, b4⟩, q _ H' (s'.less s'.inc fun _ h => h) (I'.less s'.inc) (walk_rng i _)⟩
    · cases e
  · cases e

/-! ### for -/
def dLoop (asg : DG) (body : DS) : List D → DS
  | [], env => some (.nx, env)
  | d :: r, env => (asg d env).bind fun e1 => (body e1).bind fun p => match p.1 with
    | .nx => dLoop asg body r p.2
    | .ct => dLoop asg body r p.2
    | .bk => some (.nx, p.2)
    | .rt v => some (.rt v, p.2)
def dFor (it : DI) (asg : DG) (body : DS) : DS := fun env => (it env).bind fun p => dLoop asg body p.1 p.2
/-- an item as the loop stands -/
theorem item_sh {ok0 : Addr → Prop} {tmp : Addr → Prop} {σ0 σ : L2.St} {e0 env : En} {pa : Nat → Option Addr} {H0 H1 H2 : Hp} {x : V} {d : D} (h0 : ok0 = Nb tmp σ0 e0) (s : Sp2 σ0 σ e0 env tmp tmp H0 H1) (I : Okk K pa tmp H1 σ env) (k : ∀ a o, H1 a = some o → H2 a = some o)
    (h : Sh K (fun a => (H0 a ≠ none ∧ ok0 a) ∨ H1 a = none) H2 x d) : Sh K (Nb tmp σ env) H2 x d := h.goes fun a o e z => ⟨e, fun y => by
  subst h0
  rcases z with ⟨z1, z2⟩ | z
  · rcases y with y | y
    · rcases s.slots a y with y | y
      · exact z2 (.inl y)
      · exact z1 y
    · exact z2 (.inr y)
  · rcases y with y | y
    · exact I.slotTracked y z
    · exact I.tin a y z⟩
theorem ss_for {wi : TI} {g : TG} {tb : TS} {it : DI} {asg : DG} {body : DS} {tg : List Nat} (hi : SI K wi it) (hg : SG K tg g asg) (hb : SS K tb body) : SS K (tFor wi g tb) (dFor it asg body) := by
  intro pa tmp σ H env I fl env' e E q
  obtain ⟨⟨ds, e1⟩, ei, e⟩ := Option.bind_eq_some_iff.mp e
  refine hi pa tmp σ H env I ds e1 ei _ fun J H1 s1 I1 w => ?_
  refine ⟨fun i m σ' H' => m = ds.length - i ∧ i ≤ ds.length ∧ ∃ en, Sp2 σ σ' e1 en tmp tmp H1 H' ∧ Okk K pa tmp H' σ' en ∧ dLoop asg body (ds.drop i) en = some (fl, env'), ⟨ds.length, by omega, Nat.zero_le _, e1, .refl, I1, e⟩, ?_⟩
  rintro i m σ' H' ⟨rfl, hil, en, s2, I2, e2⟩
  have wk := w H' fun a o ea ka => s2.keep a o ea fun z => ka (.inl z)
  have q1 : Thn K pa tmp σ H1 e1 fl env' E := q.from s1.sp2
  by_cases hlt : i < ds.length
  · have hd : ds.drop i = ds[i] :: ds.drop (i + 1) := List.drop_eq_getElem_cons hlt
    obtain ⟨go, yl⟩ := wk.1 i ds[i] (List.getElem?_eq_getElem hlt)
    refine .inr ⟨go, fun σ3 H3 => ∃ en3, Sp2 σ σ3 e1 en3 tmp tmp H1 H3 ∧ Okk K pa tmp H3 σ3 en3 ∧ dLoop asg body (ds.drop (i + 1)) en3 = some (fl, env'), fun σ3 H3 ⟨en3, a1, a2, a3⟩ => ⟨ds.length - (i + 1), by omega, rfl, hlt, en3, a1, a2, a3⟩, fun x H4 y => ?_⟩
    obtain ⟨k4, h4⟩ := yl x H4 y
    have I4 : Okk K pa tmp H4 σ' en := I2.grow k4
    have sh := item_sh rfl s2 I2 k4 h4
    rw [hd] at e2
    obtain ⟨en5, ea, e3⟩ := Option.bind_eq_some_iff.mp e2
    obtain ⟨⟨f6, en6⟩, eb, e4⟩ := Option.bind_eq_some_iff.mp e3
    refine hg pa tmp σ' H4 en I4 x ds[i] sh en5 ea _ fun σ5 H5 s5 I5 _ => ?_
    have s25 : Sp2 σ σ5 e1 en5 tmp tmp H1 H5 := (s2.trans (Sp1.grow k4).sp2).trans s5
    refine hb pa tmp σ5 H5 en5 I5 f6 en6 eb _ ?_
    cases f6 with
    | nx => exact fun σ6 H6 s6 I6 => ⟨en6, s25.trans s6, I6, e4⟩
    | ct => exact fun σ6 H6 s6 I6 => ⟨en6, s25.trans s6, I6, e4⟩
    | bk =>
      cases e4
      exact fun σ6 H6 s6 I6 => q1 σ6 H6 (s25.trans s6) I6
    | rt v =>
      cases e4
      exact fun u σ6 H6 t6 s6 I6 p6 => q1 u σ6 H6 t6 (s25.trans s6) I6 p6
  · have he : i = ds.length := by omega
    subst he
    rw [List.drop_length] at e2
    cases e2
    exact .inl ⟨wk.2 _ (Nat.le_refl _), q1 σ' H' s2 I2⟩

/-! ### while -/
def dWh (c : DB) (b : DS) : Nat → DS
  | 0, _ => none
  | n + 1, env => (c env).bind fun p => if p.1 then (b p.2).bind fun q => match q.1 with
      | .nx => dWh c b n q.2
      | .ct => dWh c b n q.2
      | .bk => some (.nx, q.2)
      | .rt v => some (.rt v, q.2)
    else some (.nx, p.2)
theorem dWh_more (c : DB) (b : DS) : ∀ {n m : Nat} {env : En} {r : Fl × En}, n ≤ m → dWh c b n env = some r → dWh c b m env = some r
  | 0, _, _, _, _, e => by cases e
  | n + 1, 0, _, _, h, _ => by omega
  | n + 1, m + 1, env, r, h, e => by
    obtain ⟨⟨x, e1⟩, ex, e⟩ := Option.bind_eq_some_iff.mp e
    show (c env).bind _ = some r
    rw [ex]
    show (if x = true then _ else _) = some r
    have e' : (if x = true then _ else _) = some r := e
    cases x with
    | false => rw [if_neg Bool.false_ne_true] at e' ⊢; exact e'
    | true =>
      rw [if_pos rfl] at e' ⊢
      obtain ⟨⟨f, e2⟩, ef, e3⟩ := Option.bind_eq_some_iff.mp e'
      show (b e1).bind _ = some r
      rw [ef]
      cases f with
      | nx => exact dWh_more c b (Nat.le_of_succ_le_succ h) e3
      | ct => exact dWh_more c b (Nat.le_of_succ_le_succ h) e3
      | bk => exact e3
      | rt v => exact e3
open Classical in
noncomputable def dWhile (c : DB) (b : DS) : DS := fun env => if h : ∃ n, (dWh c b n env).isSome then dWh c b h.choose env else none
theorem dWhile_of {c : DB} {b : DS} {n : Nat} {env : En} {r : Fl × En} (e : dWh c b n env = some r) : dWhile c b env = some r := by
  unfold dWhile
  have h : ∃ n, (dWh c b n env).isSome := ⟨n, by rw [e]; rfl⟩
  rw [dif_pos h]
  obtain ⟨r', e'⟩ := Option.isSome_iff_exists.mp h.choose_spec
  have a1 := dWh_more c b (Nat.le_max_left n h.choose) e
  have a2 := dWh_more c b (Nat.le_max_right n h.choose) e'
  rw [e']
  exact a2.symm.trans a1
theorem dWhile_to {c : DB} {b : DS} {env : En} {r : Fl × En} (e : dWhile c b env = some r) : ∃ n, dWh c b n env = some r := by
  unfold dWhile at e
  split at e
  · exact ⟨_, e⟩
  · cases e
theorem ss_while {tc : TT} {tb : TS} {c : DB} {b : DS} (hc : SB K tc c) (hb : SS K tb b) : SS K (tWhile tc tb) (dWhile c b) := by
  intro pa tmp σ H env I fl env' e E q
  obtain ⟨n, e⟩ := dWhile_to e
  refine ⟨fun m σ' H' => ∃ en, Sp2 σ σ' env en tmp tmp H H' ∧ Okk K pa tmp H' σ' en ∧ dWh c b m en = some (fl, env'), ⟨n, env, .refl, I, e⟩, ?_⟩
  rintro m σ' H' ⟨en, s, I', e'⟩
  cases m with
  | zero => cases e'
  | succ m =>
    obtain ⟨⟨x, e1⟩, ex, e2⟩ := Option.bind_eq_some_iff.mp e'
    refine hc pa tmp σ' H' en I' x e1 ex _ fun H1 s1 I1 => ?_
    have e3 : (if x = true then _ else _) = some (fl, env') := e2
    cases x with
    | false =>
      rw [if_neg Bool.false_ne_true] at e3 ⊢
      cases e3
      exact q σ' H1 (s.trans s1.sp2) I1
    | true =>
      rw [if_pos rfl] at e3 ⊢
      obtain ⟨⟨f, e4⟩, ef, e5⟩ := Option.bind_eq_some_iff.mp e3
      refine ⟨fun σ2 H2 => ∃ en2, Sp2 σ σ2 env en2 tmp tmp H H2 ∧ Okk K pa tmp H2 σ2 en2 ∧ dWh c b m en2 = some (fl, env'), fun σ2 H2 h => ⟨m, Nat.lt_succ_self m, h⟩, ?_⟩
      refine hb pa tmp σ' H1 e1 I1 f e4 ef _ ?_
      have st := s.trans s1.sp2
      cases f with
      | nx => exact fun σ2 H2 s2 I2 => ⟨e4, st.trans s2, I2, e5⟩
      | ct => exact fun σ2 H2 s2 I2 => ⟨e4, st.trans s2, I2, e5⟩
      | bk => cases e5; exact fun σ2 H2 s2 I2 => q σ2 H2 (st.trans s2) I2
      | rt v => cases e5; exact fun u σ2 H2 t2 s2 I2 p2 => q u σ2 H2 t2 (st.trans s2) I2 p2

/-! ### comprehensions -/
def wipeE (env : En) : List Nat → En
  | [] => env
  | v :: vs => (wipeE env vs).set v .un
/-- the slots vs as they were -/
def backE (e0 env : En) : List Nat → En
  | [] => env
  | v :: vs => (backE e0 env vs).set v (e0[v]?.getD .un)
def isOwn : Option Cl → Bool
  | some (.o _ _) => true
  | _ => false
def lcLoop (vs : List Nat) (asg : DG) (tests : DB) (elt : DE) : List D → En → List D → Option (List D × En)
  | [], env, acc => some (acc, env)
  | d :: r, env, acc => (asg d (wipeE env vs)).bind fun e1 => (tests e1).bind fun p => if p.1 then (elt p.2).bind fun q => (asD q.1).bind fun y => if szOk (acc.length + 1) then lcLoop vs asg tests elt r q.2 (acc ++ [y]) else none else lcLoop vs asg tests elt r p.2 acc
def dLc (it : DI) (vs : List Nat) (asg : DG) (tests : DB) (elt : DE) : DE := fun env => (it env).bind fun p => if vs.any fun v => isOwn p.2[v]? then none else (lcLoop vs asg tests elt p.1 p.2 []).map fun q => (.f (.l q.1), backE p.2 q.2 vs)
def dYes : DB := fun env => some (true, env)
theorem sb_yes : SB K tYes dYes := by
  intro pa tmp σ H env I c env' e Q q
  cases e
  exact q H .refl I
theorem wipeE_len (env : En) : ∀ vs, (wipeE env vs).length = env.length
  | [] => rfl
  | v :: vs => by unfold wipeE; rw [List.length_set, wipeE_len env vs]
theorem wipeE_in {env : En} {i : Nat} : ∀ {vs : List Nat}, i ∈ vs → i < env.length → (wipeE env vs)[i]? = some .un
  | [], h, _ => by cases h
  | v :: vs, h, hl => by
    unfold wipeE
    by_cases hi : v = i
    · subst hi; rw [List.getElem?_set_self (by rw [wipeE_len]; exact hl)]
    · rw [List.getElem?_set_ne hi]
      rcases List.mem_cons.mp h with z | z
      · exact absurd z.symm hi
      · exact wipeE_in z hl
theorem wipeE_out {env : En} {i : Nat} : ∀ {vs : List Nat}, i ∉ vs → (wipeE env vs)[i]? = env[i]?
  | [], _ => rfl
  | v :: vs, h => by
    unfold wipeE
    rw [List.getElem?_set_ne (fun z => h (by rw [z]; exact List.mem_cons_self)), wipeE_out fun z => h (List.mem_cons_of_mem _ z)]
theorem wipe_in {σ : L2.St} {i : Nat} : ∀ {vs : List Nat}, i ∈ vs → i < σ.length → (wipe σ vs)[i]? = some none
  | [], h, _ => by cases h
  | v :: vs, h, hl => by
    unfold wipe
    by_cases hi : v = i
    · subst hi; rw [List.getElem?_set_self (by rw [wipe_length]; exact hl)]
    · rw [List.getElem?_set_ne hi]
      rcases List.mem_cons.mp h with z | z
      · exact absurd z.symm hi
      · exact wipe_in z hl
theorem wipe_out {σ : L2.St} {i : Nat} : ∀ {vs : List Nat}, i ∉ vs → (wipe σ vs)[i]? = σ[i]?
  | [], _ => rfl
  | v :: vs, h => by
    unfold wipe
    rw [List.getElem?_set_ne (fun z => h (by rw [z]; exact List.mem_cons_self)), wipe_out fun z => h (List.mem_cons_of_mem _ z)]
theorem wipe_eq {σ σ' : L2.St} {vs : List Nat} (h : σ'.length = σ.length) (k : ∀ i : Nat, i ∉ vs → σ'[i]? = σ[i]?) : wipe σ' vs = wipe σ vs := by
  apply List.ext_getElem?
  intro i
  by_cases hi : i ∈ vs
  · by_cases hl : i < σ.length
    · rw [wipe_in hi hl, wipe_in hi (by rw [h]; exact hl)]
    · rw [List.getElem?_eq_none (by rw [wipe_length]; omega), List.getElem?_eq_none (by rw [wipe_length]; omega)]
  · rw [wipe_out hi, wipe_out hi, k i hi]
theorem wipe_wipe (σ : L2.St) (vs : List Nat) : wipe (wipe σ vs) vs = wipe σ vs := wipe_eq (wipe_length σ vs) fun _ h => wipe_out h
/-- slots wiped on both sides -/
theorem Okk.wiped {pa : Nat → Option Addr} {tmp : Addr → Prop} {H : Hp} {σ σ' : L2.St} {env : En} {vs : List Nat} (I : Okk K pa tmp H σ env) (hw : wipe σ vs = wipe σ' vs) :
    Okk K pa tmp H (wipe σ' vs) (wipeE env vs) ∧ ∀ i p, Owd (wipe σ' vs) (wipeE env vs) i p → Owd σ env i p := by
  have hlen : σ.length = σ'.length := by rw [← wipe_length σ vs, hw, wipe_length]
  have at_ : ∀ {i : Nat} {c : Cl}, (wipeE env vs)[i]? = some c → c ≠ .un → i ∉ vs ∧ env[i]? = some c ∧ (wipe σ' vs)[i]? = σ[i]? := fun {i c} e n => by
    have hi : i ∉ vs := fun z => by
      by_cases hl : i < env.length
      · rw [wipeE_in z hl] at e; exact n (Option.some.inj e).symm
      · rw [List.getElem?_eq_none (by rw [wipeE_len]; omega)] at e; cases e
    rw [wipeE_out hi] at e
    exact ⟨hi, e, by rw [← hw, wipe_out hi]⟩
  have sub : ∀ i p, Owd (wipe σ' vs) (wipeE env vs) i p → Owd σ env i p := fun i p ⟨⟨k, b, e⟩, es⟩ => by
    obtain ⟨_, h1, h2⟩ := at_ e (fun z => by cases z)
    exact ⟨⟨k, b, h1⟩, by rw [← h2]; exact es⟩
  have g : Go (Nb tmp σ env) (Nb tmp (wipe σ' vs) (wipeE env vs)) H H := fun a o ea h => ⟨ea, fun z => h (z.imp (fun ⟨j, q⟩ => ⟨j, sub j a q⟩) id)⟩
  refine ⟨⟨?_, fun i x e => ?_, fun i k b e => ?_, fun i j p h1 h2 => I.inj i j p (sub i p h1) (sub j p h2), I.tin⟩, sub⟩
  · rw [wipe_length, wipeE_len, ← hlen]; exact I.len
  · obtain ⟨_, h1, h2⟩ := at_ e (fun z => by cases z)
    obtain ⟨v, a1, a2⟩ := I.dat i x h1
    exact ⟨v, h2.trans a1, a2.goes g⟩
  · obtain ⟨_, h1, h2⟩ := at_ e (fun z => by cases z)
    obtain ⟨p, a1, a2, a3, a4⟩ := I.own i k b h1
    exact ⟨p, h2.trans a1, a2.goes g rfl, a3, a4⟩
theorem backE_len (e0 env : En) : ∀ vs, (backE e0 env vs).length = env.length
  | [] => rfl
  | v :: vs => by unfold backE; rw [List.length_set, backE_len e0 env vs]
theorem backE_in {e0 env : En} {i : Nat} : ∀ {vs : List Nat}, i ∈ vs → i < env.length → (backE e0 env vs)[i]? = some (e0[i]?.getD .un)
  | [], h, _ => by cases h
  | v :: vs, h, hl => by
    unfold backE
    by_cases hi : v = i
    · subst hi; rw [List.getElem?_set_self (by rw [backE_len]; exact hl)]
    · rw [List.getElem?_set_ne hi]
      rcases List.mem_cons.mp h with z | z
      · exact absurd z.symm hi
      · exact backE_in z hl
theorem backE_out {e0 env : En} {i : Nat} : ∀ {vs : List Nat}, i ∉ vs → (backE e0 env vs)[i]? = env[i]?
  | [], _ => rfl
  | v :: vs, h => by
    unfold backE
    rw [List.getElem?_set_ne (fun z => h (by rw [z]; exact List.mem_cons_self)), backE_out fun z => h (List.mem_cons_of_mem _ z)]
end
end DL
end
section
set_option Elab.async false
set_option linter.all false
set_option maxRecDepth 100000
namespace DL
open PySem L2
section
variable {K : PySem.W.Frag}
/-- a temporary is changed -/
theorem Okk.tmpSet {pa : Nat → Option Addr} {tmp : Addr → Prop} {H : Hp} {σ : L2.St} {env : En} {p : Addr} {o : HO} (I : Okk K pa tmp H σ env) (h : tmp p) : Okk K pa tmp (upd H p o) σ env ∧ Go (Nb tmp σ env) (Nb tmp σ env) H (upd H p o) := by
  have g : Go (Nb tmp σ env) (Nb tmp σ env) H (upd H p o) := fun a u e k => ⟨by
    rw [upd_ne (fun z => k (.inr (by rw [z]; exact h)))]
    exact e, k⟩
  refine ⟨⟨I.len, fun i x e => let ⟨v, h1, h2⟩ := I.dat i x e; ⟨v, h1, h2.goes g⟩, fun i k b e => let ⟨q, h1, h2, h3, h4⟩ := I.own i k b e; ⟨q, h1, h2.goes g (upd_ne fun z => h3 (by rw [z]; exact h)), h3, h4⟩, I.inj, fun q hq => ?_⟩, g⟩
  by_cases z : q = p
  · subst z; rw [upd_same]; exact nofun
  · rw [upd_ne z]; exact I.tin q hq
theorem Sp2.tmpSet {σ : L2.St} {env : En} {tmp t0 : Addr → Prop} {H0 H : Hp} {σ0 : L2.St} {e0 : En} {p : Addr} {o : HO} (s : Sp2 σ0 σ e0 env t0 tmp H0 H) (n : H0 p = none) : Sp2 σ0 σ e0 env t0 tmp H0 (upd H p o) :=
  ⟨fun a u e k => by rw [upd_ne (ne_of_none e n)]; exact s.keep a u e k, s.slots, s.inc, s.new, fun a h => by
    by_cases z : a = p
    · rw [z, upd_same]; exact nofun
    · rw [upd_ne z]; exact s.trk a h⟩
/-- what a target of names leaves -/
def AsgOk (tg : List Nat) (asg : DG) : Prop := ∀ x env env', asg x env = some env' → (∀ i : Nat, i ∉ tg → env'[i]? = env[i]?) ∧ env'.length = env.length
def AsgsOk (tg : List Nat) (asg : List D → En → Option En) : Prop := ∀ xs env env', asg xs env = some env' → (∀ i : Nat, i ∉ tg → env'[i]? = env[i]?) ∧ env'.length = env.length
theorem ao_name {i : Nat} : AsgOk [i] (aName i) := fun x env env' e => by
  cases e
  exact ⟨fun j hj => List.getElem?_set_ne (fun z => hj (by rw [z]; exact List.mem_singleton.mpr rfl)), List.length_set⟩
theorem ao_nil : AsgsOk [] aNil := fun xs env env' e => by
  unfold aNil at e
  split at e
  · cases e; exact ⟨fun _ _ => rfl, rfl⟩
  · cases e
theorem ao_cons {t1 t2 : List Nat} {a : DG} {b : List D → En → Option En} (h1 : AsgOk t1 a) (h2 : AsgsOk t2 b) : AsgsOk (t1 ++ t2) (aCons a b) := fun xs env env' e => by
  unfold aCons at e
  split at e
  · obtain ⟨e1, ex, e⟩ := Option.bind_eq_some_iff.mp e
    obtain ⟨k1, l1⟩ := h1 _ _ _ ex
    obtain ⟨k2, l2⟩ := h2 _ _ _ e
    exact ⟨fun i hi => (k2 i fun z => hi (List.mem_append_right _ z)).trans (k1 i fun z => hi (List.mem_append_left _ z)), l2.trans l1⟩
  · cases e
theorem ao_tup {t : List Nat} {n : Nat} {b : List D → En → Option En} (h : AsgsOk t b) : AsgOk t (aTup n b) := fun x env env' e => by
  unfold aTup at e
  split at e
  · split at e
    · exact h _ _ _ e
    · cases e
  · cases e
theorem not_own_wiped {env : En} {vs : List Nat} {i : Nat} {k : Option Nat} {b : Box} (e : (wipeE env vs)[i]? = some (Cl.o k b)) : i ∉ vs ∧ env[i]? = some (Cl.o k b) := by
  have hi : i ∉ vs := fun z => by
    by_cases hl : i < env.length
    · rw [wipeE_in z hl] at e; cases e
    · rw [List.getElem?_eq_none (by rw [wipeE_len]; omega)] at e; cases e
  exact ⟨hi, by rw [← wipeE_out hi]; exact e⟩
/-- the end of a comprehension: the slots as they were -/
theorem lc_end {pa : Nat → Option Addr} {tmp : Addr → Prop} {σ : L2.St} {e1 en : En} {vs : List Nat} {H1 H' : Hp} {Dl : Addr} {accV : List V} {acc : List D}
    (I1 : Okk K pa tmp H1 σ e1) (hD : H1 Dl = none) (no : ∀ v ∈ vs, isOwn e1[v]? = false)
    (P : Sp2 (wipe σ vs) (wipe σ vs) (wipeE e1 vs) (wipeE en vs) tmp (mor tmp Dl) H1 H') (sub : ∀ i p, Owd (wipe σ vs) (wipeE en vs) i p → Owd (wipe σ vs) (wipeE e1 vs) i p)
    (I2 : Okk K pa (mor tmp Dl) H' (wipe σ vs) (wipeE en vs)) (eD : H' Dl = some (.lst accV)) (hs : ShAll K (Nb (mor tmp Dl) (wipe σ vs) (wipeE en vs)) H' accV acc) (hlen : en.length = e1.length) :
    Sp1 σ e1 (backE e1 en vs) tmp (mor tmp Dl) H1 H' ∧ Okk K pa (mor tmp Dl) H' σ (backE e1 en vs) ∧ PostV K tmp (mor tmp Dl) H' σ (backE e1 en vs) (.ref Dl) (.f (.l acc)) := by
  have w1 := (I1.wiped (σ' := σ) (vs := vs) rfl).2
  -- owned slots lie outside vs
  have own_ : ∀ i p, Owd σ (backE e1 en vs) i p → Owd (wipe σ vs) (wipeE en vs) i p := fun i p ⟨⟨k, b, e⟩, es⟩ => by
    have hi : i ∉ vs := fun z => by
      by_cases hl : i < en.length
      · rw [backE_in z hl] at e
        have e' := Option.some.inj e
        have hl1 : i < e1.length := by omega
        have n := no i z
        rw [List.getElem?_eq_getElem hl1] at n e'
        rw [Option.getD_some] at e'
        rw [e'] at n
        cases n
      · rw [List.getElem?_eq_none (by rw [backE_len]; omega)] at e; cases e
    rw [backE_out hi] at e
    exact ⟨⟨k, b, by rw [wipeE_out hi]; exact e⟩, by rw [wipe_out hi]; exact es⟩
  have s : Sp1 σ e1 (backE e1 en vs) tmp (mor tmp Dl) H1 H' := by
    refine ⟨fun a o e n => ?_, fun i p h => w1 i p (sub i p (own_ i p h)), fun p h => .inl h, fun p h => h.imp id fun z => by rw [z]; exact hD, fun a h => P.trk a ?_⟩
    · exact P.keep a o e fun ⟨i, z⟩ => n ⟨i, w1 i a z⟩
    · exact h
  have g2 : Go (Nb (mor tmp Dl) (wipe σ vs) (wipeE en vs)) (Nb (mor tmp Dl) σ (backE e1 en vs)) H' H' := fun a o e k => ⟨e, fun z => k (z.imp (fun ⟨i, q⟩ => ⟨i, own_ i a q⟩) id)⟩
  refine ⟨s, ⟨?_, fun i x e => ?_, fun i k b e => ?_, fun i j p h1 h2 => I2.inj i j p (own_ i p h1) (own_ j p h2), I2.tin⟩, Dl, rfl, .inr rfl, fun z => I1.tin Dl z hD, fun ⟨i, z⟩ => I2.slotNotTmp ⟨i, own_ i _ z⟩ (.inr rfl), accV, eD, hs.goes g2⟩
  · rw [backE_len, hlen]; exact I1.len
  · by_cases hi : i ∈ vs
    · by_cases hl : i < en.length
      · rw [backE_in hi hl] at e
        have hl1 : i < e1.length := by omega
        have e' := Option.some.inj e
        rw [List.getElem?_eq_getElem hl1, Option.getD_some] at e'
        obtain ⟨v, h1, h2⟩ := I1.dat i x (by rw [List.getElem?_eq_getElem hl1, e'])
        exact ⟨v, h1, h2.goes s.goes⟩
      · rw [List.getElem?_eq_none (by rw [backE_len]; omega)] at e; cases e
    · rw [backE_out hi] at e
      obtain ⟨v, h1, h2⟩ := I2.dat i x (by rw [wipeE_out hi]; exact e)
      exact ⟨v, by rw [wipe_out hi] at h1; exact h1, h2.goes g2⟩
  · have hi : i ∉ vs := fun z => by
      by_cases hl : i < en.length
      · rw [backE_in z hl] at e
        have e' := Option.some.inj e
        have hl1 : i < e1.length := by omega
        have n := no i z
        rw [List.getElem?_eq_getElem hl1] at n e'
        rw [Option.getD_some] at e'
        rw [e'] at n
        cases n
      · rw [List.getElem?_eq_none (by rw [backE_len]; omega)] at e; cases e
    rw [backE_out hi] at e
    obtain ⟨p, h1, h2, h3, h4⟩ := I2.own i k b (by rw [wipeE_out hi]; exact e)
    exact ⟨p, by rw [wipe_out hi] at h1; exact h1, h2.goes g2 rfl, h3, h4⟩
theorem se_lc {wi : TI} {g : TG} {tt : TT} {te : TE} {it : DI} {vs tg : List Nat} {asg : DG} {tests : DB} {elt : DE} (hi : SI K wi it) (hg : SG K tg g asg) (ht : SB K tt tests) (he : SE K te elt) (ha : AsgOk tg asg) (hv : ∀ i, i ∈ tg → i ∈ vs) :
    SE K (tLc wi g tt te vs) (dLc it vs asg tests elt) := by
  intro pa tmp σ H env I val env' e Q q
  obtain ⟨⟨ds, e1⟩, ei, e⟩ := Option.bind_eq_some_iff.mp e
  dsimp only at e
  split at e
  · cases e
  rename_i hno
  have no : ∀ v ∈ vs, isOwn e1[v]? = false := fun v hv' => by
    cases h : isOwn e1[v]? with
    | false => rfl
    | true => exact absurd (List.any_eq_true.mpr ⟨v, hv', h⟩) hno
  obtain ⟨⟨out, ef⟩, el, e⟩ := Option.map_eq_some_iff.mp e
  cases e
  refine hi pa tmp σ H env I ds e1 ei _ fun J H1 s1 I1 w => fun Dl hD => ?_
  obtain ⟨Iw, w1⟩ := I1.wiped (σ' := σ) (vs := vs) rfl
  have nD : ¬ Slt σ e1 Dl := notSlot_none I1 hD
  refine ⟨fun i m H' => m = ds.length - i ∧ i ≤ ds.length ∧ ∃ en acc accV, Sp2 (wipe σ vs) (wipe σ vs) (wipeE e1 vs) (wipeE en vs) tmp (mor tmp Dl) H1 H' ∧
    (∀ i p, Owd (wipe σ vs) (wipeE en vs) i p → Owd (wipe σ vs) (wipeE e1 vs) i p) ∧ Okk K pa (mor tmp Dl) H' (wipe σ vs) (wipeE en vs) ∧ H' Dl = some (.lst accV) ∧ ShAll K (Nb (mor tmp Dl) (wipe σ vs) (wipeE en vs)) H' accV acc ∧ en.length = e1.length ∧
    lcLoop vs asg tests elt (ds.drop i) en acc = some (out, ef), ⟨ds.length, by omega, Nat.zero_le _, e1, [], [], (Sp1.more hD (grow_upd hD)).sp2, fun _ _ h => h, Iw.more hD (grow_upd hD) (by rw [upd_same]; exact nofun), upd_same, .nil, rfl, el⟩, ?_⟩
  rintro i m H' ⟨rfl, hil, en, acc, accV, P, sub, I2, eD, hs, hlen, e2⟩
  have wk := w H' fun a o ea ka => P.keep a o ea fun ⟨j, z⟩ => ka (.inl ⟨j, w1 j a z⟩)
  by_cases hlt : i < ds.length
  · have hd : ds.drop i = ds[i] :: ds.drop (i + 1) := List.drop_eq_getElem_cons hlt
    obtain ⟨go, yl⟩ := wk.1 i ds[i] (List.getElem?_eq_getElem hlt)
    refine .inr ⟨go, fun H3 => ∃ en3 acc3 accV3, Sp2 (wipe σ vs) (wipe σ vs) (wipeE e1 vs) (wipeE en3 vs) tmp (mor tmp Dl) H1 H3 ∧
      (∀ i p, Owd (wipe σ vs) (wipeE en3 vs) i p → Owd (wipe σ vs) (wipeE e1 vs) i p) ∧ Okk K pa (mor tmp Dl) H3 (wipe σ vs) (wipeE en3 vs) ∧ H3 Dl = some (.lst accV3) ∧ ShAll K (Nb (mor tmp Dl) (wipe σ vs) (wipeE en3 vs)) H3 accV3 acc3 ∧ en3.length = e1.length ∧
      lcLoop vs asg tests elt (ds.drop (i + 1)) en3 acc3 = some (out, ef), fun H3 h => ⟨ds.length - (i + 1), by omega, rfl, hlt, h⟩, fun x H4 y => ?_⟩
    obtain ⟨k4, h4⟩ := yl x H4 y
    have I4 := I2.grow k4
    have sh : Sh K (Nb (mor tmp Dl) (wipe σ vs) (wipeE en vs)) H4 x ds[i] := h4.goes fun a o ea z => ⟨ea, fun y => by
      rcases z with ⟨z1, z2⟩ | z
      · rcases y with ⟨j, y⟩ | y | y
        · exact z2 (.inl ⟨j, w1 j a (sub j a y)⟩)
        · exact z2 (.inr y)
        · rw [y] at z1; exact z1 hD
      · rcases y with y | y
        · exact I2.slotTracked y z
        · exact I2.tin a y z⟩
    rw [hd] at e2
    obtain ⟨en5, ea, e3⟩ := Option.bind_eq_some_iff.mp e2
    obtain ⟨⟨b, en6⟩, eb, e4⟩ := Option.bind_eq_some_iff.mp e3
    obtain ⟨ka, la⟩ := ha _ _ _ ea
    refine hg pa (mor tmp Dl) (wipe σ vs) H4 (wipeE en vs) I4 x ds[i] sh en5 ea _ fun σ2 H2 s2 I5 k2 => ?_
    have lσ : σ2.length = (wipe σ vs).length := by rw [I5.len, la, ← I2.len]
    have hw : wipe σ2 vs = wipe σ vs := by
      rw [wipe_eq lσ fun j hj => k2 j fun z => hj (hv j z), wipe_wipe]
    refine ⟨hw, ?_⟩
    have nDs : ¬ Slt (wipe σ vs) (wipeE en vs) Dl := fun z => I2.slotNotTmp z (.inr rfl)
    have S2 : Sp2 (wipe σ vs) σ2 (wipeE en vs) en5 (mor tmp Dl) (mor tmp Dl) H' H2 := (Sp1.grow k4).sp2.trans s2
    -- from owned slots behind the turn to those ahead of it
    have backw : ∀ {en7 : En}, (∀ j p, Owd σ2 en7 j p → Owd σ2 en5 j p) → (∀ j p, Owd (wipe σ vs) (wipeE en7 vs) j p → Owd (wipe σ vs) (wipeE e1 vs) j p) := fun {en7} h7 j p ⟨⟨k, bx, e7⟩, es⟩ => by
      obtain ⟨hj, e7'⟩ := not_own_wiped e7
      have hjt : j ∉ tg := fun z => hj (hv j z)
      have es2 : σ2[j]? = some (some (V.ref p)) := by rw [k2 j hjt]; exact es
      obtain ⟨⟨k', bx', e5⟩, _⟩ := h7 j p ⟨⟨k, bx, e7'⟩, es2⟩
      exact sub j p ⟨⟨k', bx', by rw [← ka j hjt]; exact e5⟩, es⟩
    have fin : ∀ {en7 : En} {H7 : Hp} {acc7 : List D} {accV7 : List V}, Sp2 (wipe σ vs) σ2 (wipeE e1 vs) en7 tmp (mor tmp Dl) H1 H7 → (∀ j p, Owd σ2 en7 j p → Owd σ2 en5 j p) → Okk K pa (mor tmp Dl) H7 σ2 en7 → H7 Dl = some (.lst accV7) →
        ShAll K (Nb (mor tmp Dl) σ2 en7) H7 accV7 acc7 → lcLoop vs asg tests elt (ds.drop (i + 1)) en7 acc7 = some (out, ef) →
        ∃ en3 acc3 accV3, Sp2 (wipe σ vs) (wipe σ vs) (wipeE e1 vs) (wipeE en3 vs) tmp (mor tmp Dl) H1 H7 ∧
        (∀ i p, Owd (wipe σ vs) (wipeE en3 vs) i p → Owd (wipe σ vs) (wipeE e1 vs) i p) ∧ Okk K pa (mor tmp Dl) H7 (wipe σ vs) (wipeE en3 vs) ∧ H7 Dl = some (.lst accV3) ∧ ShAll K (Nb (mor tmp Dl) (wipe σ vs) (wipeE en3 vs)) H7 accV3 acc3 ∧ en3.length = e1.length ∧
        lcLoop vs asg tests elt (ds.drop (i + 1)) en3 acc3 = some (out, ef) := fun {en7 H7 acc7 accV7} P7 b7 I7 e7 h7 l7 => by
      obtain ⟨I8, w8⟩ := I7.wiped (σ' := σ) (vs := vs) hw
      have g8 : Go (Nb (mor tmp Dl) σ2 en7) (Nb (mor tmp Dl) (wipe σ vs) (wipeE en7 vs)) H7 H7 := fun a o ea k => ⟨ea, fun z => k (z.imp (fun ⟨j, q⟩ => ⟨j, w8 j a q⟩) id)⟩
      refine ⟨en7, acc7, accV7, ⟨P7.keep, fun p ⟨j, h⟩ => P7.slots p ⟨j, w8 j p h⟩, P7.inc, P7.new, P7.trk⟩, backw b7, I8, e7, h7.goes g8, ?_, l7⟩
      have a1 := I7.len
      have a2 := I1.len
      rw [← a1, lσ, wipe_length, a2]
    refine ht pa (mor tmp Dl) σ2 H2 en5 I5 b en6 eb _ fun H3 s3 I6 => ?_
    have eD3 : H3 Dl = some (.lst accV) := (S2.trans s3.sp2).keep Dl _ eD nDs
    have hs3 : ShAll K (Nb (mor tmp Dl) σ2 en6) H3 accV acc := hs.goes (S2.trans s3.sp2).go
    cases b with
    | false =>
      rw [if_neg Bool.false_ne_true] at e4 ⊢
      exact fin ((P.trans S2).trans s3.sp2) s3.sub I6 eD3 hs3 e4
    | true =>
      rw [if_pos rfl] at e4 ⊢
      obtain ⟨⟨v, en7⟩, ev, e5⟩ := Option.bind_eq_some_iff.mp e4
      obtain ⟨y', ey, e6⟩ := Option.bind_eq_some_iff.mp e5
      split at e6
      · rename_i hz
        refine he pa (mor tmp Dl) σ2 H3 en6 I6 v en7 ev _ fun u H5 t5 s5 I7 p7 => ?_
        have nD6 : ¬ Slt σ2 en6 Dl := fun z => I6.slotNotTmp z (.inr rfl)
        have eD5 : H5 Dl = some (.lst accV) := s5.keep Dl _ eD3 nD6
        have I7' := I7.less s5.inc
        have s5' := s5.less s5.inc fun _ h => h
        have hy := asD_at I7 s5.inc p7 ey
        have hs5 : ShAll K (Nb (mor tmp Dl) σ2 en7) H5 accV acc := hs3.goes s5'.goes
        obtain ⟨I9, g9⟩ := I7'.tmpSet (o := .lst (accV ++ [u])) (p := Dl) (.inr rfl)
        refine ⟨accV, eD5, ?_, fin ?_ (fun j p h => s3.sub j p (s5.sub j p h)) I9 upd_same ((hs5.append (.cons hy .nil)).goes g9) e6⟩
        · have h1 := hs5.length
          have h2 := szOk_le hz
          omega
        · exact (((P.trans S2).trans s3.sp2).trans s5'.sp2).tmpSet hD
      · cases e6
  · have hie : i = ds.length := by omega
    subst hie
    rw [List.drop_length] at e2
    cases e2
    obtain ⟨sF, IF, pF⟩ := lc_end I1 hD no P sub I2 eD hs hlen
    exact .inl ⟨wk.2 _ (Nat.le_refl _), q _ H' _ (s1.trans sF) IF pF⟩
end
end DL
end
section
set_option Elab.async false
set_option linter.all false
set_option maxRecDepth 100000
namespace DL
open PySem L2
section
variable {K : PySem.W.Frag}
/-! ### what a def does: a function of its parameters' cells -/
abbrev FD := List Cl → Option (Val × List Cl)
def PaOk (pa : Nat → Option Addr) (vs : List V) (cells : List Cl) : Prop := ∀ j p, pa j = some p → vs[j]? = some (V.ref p) ∧ ∃ k b, cells[j]? = some (Cl.o k b)
def spF (K : PySem.W.Frag) (n : Nat) (F : FD) : Sp := fun vs H Q _ => vs.length = n ∧ ∃ (pa : Nat → Option Addr) (tmp : Addr → Prop) (cells : List Cl), PaOk pa vs cells ∧ Okk K pa tmp H (vs.map some) cells ∧ ∃ ret outs, F cells = some (ret, outs) ∧
  ∀ u H' tmp', Sp1 (vs.map some) cells outs tmp tmp' H H' → Okk K pa tmp' H' (vs.map some) outs → PostV K tmp tmp' H' (vs.map some) outs u ret → Q u H'
def outAt (j : Nat) : Option Cl → Cl
  | some (.o (some j') b) => if j' = j then .o (some j) b else .un
  | _ => .un
def outsOf (n : Nat) (env : En) : List Cl := (List.range n).map fun (j : Nat) => outAt j env[j]?
theorem outAt_inv {j : Nat} {c : Option Cl} {k : Option Nat} {b : Box} (h : outAt j c = .o k b) : k = some j ∧ c = some (.o (some j) b) := by
  unfold outAt at h
  split at h
  · split at h
    · rename_i hj
      cases h
      subst hj
      exact ⟨rfl, rfl⟩
    · cases h
  · cases h
theorem outAt_nod {j : Nat} {c : Option Cl} {x : D} (h : outAt j c = .d x) : False := by
  unfold outAt at h
  split at h
  · split at h <;> cases h
  · cases h
theorem outs_at {n : Nat} {env : En} {j : Nat} {c : Cl} (h : (outsOf n env)[j]? = some c) : j < n ∧ c = outAt j env[j]? := by
  unfold outsOf at h
  rw [List.getElem?_map] at h
  obtain ⟨i, hi, h⟩ := Option.map_eq_some_iff.mp h
  obtain ⟨hl, hi⟩ := List.getElem?_eq_some_iff.mp hi
  rw [List.getElem_range] at hi
  rw [List.length_range] at hl
  subst hi
  exact ⟨hl, h.symm⟩
def retOf (n : Nat) : Fl × En → Option (Val × List Cl)
  | (.nx, env) => some (.d .none, outsOf n env)
  | (.rt (.d x), env) => some (.d x, outsOf n env)
  | (.rt (.f b), env) => some (.f b, outsOf n env)
  | _ => none
def bodyF (n m : Nat) (den : DS) : FD := fun cells => if cells.length = n then (den (cells ++ List.replicate m .un)).bind (retOf n) else none
theorem Okk.ext {pa : Nat → Option Addr} {tmp : Addr → Prop} {H : Hp} {σ : L2.St} {env : En} (I : Okk K pa tmp H σ env) (m : Nat) : Okk K pa tmp H (σ ++ List.replicate m none) (env ++ List.replicate m .un) ∧ ∀ i p, Owd (σ ++ List.replicate m none) (env ++ List.replicate m .un) i p ↔ Owd σ env i p := by
  have at_ : ∀ {i : Nat} {c : Cl}, (env ++ List.replicate m .un)[i]? = some c → c ≠ .un → env[i]? = some c ∧ (σ ++ List.replicate m none)[i]? = σ[i]? := fun {i c} e n => by
    by_cases hi : i < env.length
    · rw [List.getElem?_append_left hi] at e
      exact ⟨e, List.getElem?_append_left (by rw [I.len]; exact hi)⟩
    · rw [List.getElem?_append_right (by omega)] at e
      rw [List.getElem?_replicate] at e
      split at e
      · exact absurd (Option.some.inj e).symm n
      · cases e
  have iff : ∀ i p, Owd (σ ++ List.replicate m none) (env ++ List.replicate m .un) i p ↔ Owd σ env i p := fun i p => by
    constructor
    · rintro ⟨⟨k, b, e⟩, es⟩
      obtain ⟨h1, h2⟩ := at_ e (fun z => by cases z)
      exact ⟨⟨k, b, h1⟩, by rw [← h2]; exact es⟩
    · rintro ⟨⟨k, b, e⟩, es⟩
      have hi : i < env.length := (List.getElem?_eq_some_iff.mp e).1
      exact ⟨⟨k, b, by rw [List.getElem?_append_left hi]; exact e⟩, by rw [List.getElem?_append_left (by rw [I.len]; exact hi)]; exact es⟩
  have g : Go (Nb tmp σ env) (Nb tmp (σ ++ List.replicate m none) (env ++ List.replicate m .un)) H H := fun a o ea h => ⟨ea, fun z => h (z.imp (fun ⟨j, q⟩ => ⟨j, (iff j a).mp q⟩) id)⟩
  refine ⟨⟨?_, fun i x e => ?_, fun i k b e => ?_, fun i j p h1 h2 => I.inj i j p ((iff i p).mp h1) ((iff j p).mp h2), I.tin⟩, iff⟩
  · rw [List.length_append, List.length_append, List.length_replicate, List.length_replicate, I.len]
  · obtain ⟨h1, h2⟩ := at_ e (fun z => by cases z)
    obtain ⟨v, a1, a2⟩ := I.dat i x h1
    exact ⟨v, h2.trans a1, a2.goes g⟩
  · obtain ⟨h1, h2⟩ := at_ e (fun z => by cases z)
    obtain ⟨p, a1, a2, a3, a4⟩ := I.own i k b h1
    exact ⟨p, h2.trans a1, a2.goes g rfl, a3, a4⟩
/-- behind a body: the parameters alone -/
theorem body_end {pa : Nat → Option Addr} {tmp tmp' : Addr → Prop} {H H' : Hp} {vs : List V} {cells : List Cl} {n m : Nat} {σ' : L2.St} {env' : En} (hpa : PaOk pa vs cells) (I : Okk K pa tmp H (vs.map some) cells) (hn : cells.length = n)
    (s : Sp2 (vs.map some ++ List.replicate m none) σ' (cells ++ List.replicate m .un) env' tmp tmp' H H') (I' : Okk K pa tmp' H' σ' env') :
    Sp1 (vs.map some) cells (outsOf n env') tmp tmp' H H' ∧ Okk K pa tmp' H' (vs.map some) (outsOf n env') ∧ ∀ i p, Owd (vs.map some) (outsOf n env') i p → Owd σ' env' i p := by
  have iff := (I.ext m).2
  have own_ : ∀ i p, Owd (vs.map some) (outsOf n env') i p → Owd σ' env' i p ∧ pa i = some p := fun i p ⟨⟨k, b, e⟩, es⟩ => by
    obtain ⟨h1, h2⟩ := outs_at e
    obtain ⟨rfl, h3⟩ := outAt_inv h2.symm
    obtain ⟨r, a1, _, _, a4⟩ := I'.own i _ b h3
    have hr := a4 i rfl
    obtain ⟨a5, _⟩ := hpa i r hr
    rw [List.getElem?_map, a5] at es
    cases es
    exact ⟨⟨⟨_, b, h3⟩, a1⟩, hr⟩
  have g : Go (Nb tmp' σ' env') (Nb tmp' (vs.map some) (outsOf n env')) H' H' := fun a o ea h => ⟨ea, fun z => h (z.imp (fun ⟨j, q⟩ => ⟨j, (own_ j a q).1⟩) id)⟩
  refine ⟨⟨fun a o e h => s.keep a o e fun ⟨j, z⟩ => h ⟨j, (iff j a).mp z⟩, fun i p h => ?_, s.inc, s.new, s.trk⟩, ⟨?_, fun i x e => ?_, fun i k b e => ?_, fun i j p h1 h2 => I'.inj i j p (own_ i p h1).1 (own_ j p h2).1, I'.tin⟩, fun i p h => (own_ i p h).1⟩
  · obtain ⟨_, hr⟩ := own_ i p h
    obtain ⟨a1, a2⟩ := hpa i p hr
    exact ⟨a2, by rw [List.getElem?_map, a1]; rfl⟩
  · have a1 : (outsOf n env').length = n := by
      unfold outsOf
      rw [List.length_map, List.length_range]
    rw [a1, I.len, hn]
  · exact (outAt_nod (outs_at e).2.symm).elim
  · obtain ⟨h1, h2⟩ := outs_at e
    obtain ⟨rfl, h3⟩ := outAt_inv h2.symm
    obtain ⟨r, a1, a2, a3, a4⟩ := I'.own i _ b h3
    have hr := a4 i rfl
    obtain ⟨a5, _⟩ := hpa i r hr
    exact ⟨r, by rw [List.getElem?_map, a5]; rfl, a2.goes g rfl, a3, a4⟩
theorem spF_len {n : Nat} {F : FD} {ps : List Str} (h : ps.length = n) : ∀ vs H Q E, spF K n F vs H Q E → vs.length = ps.length := fun vs H Q E q => q.1.trans h.symm
/-- a def's body keeps its promise -/
theorem spF_body {ts : TS} {den : DS} {n m : Nat} {N : List Str} (hs : SS K ts den) (hN : N.length = n + m) {vs : List V} {H : Hp} {Q : VK} {E : XK} (h : spF K n (bodyF n m den) vs H Q E) :
    ts { nx := fun _ H' => Q .non H', rt := Q } (L2.start N vs) H := by
  obtain ⟨hv, pa, tmp, cells, hpa, I, ret, outs, e, q⟩ := h
  unfold bodyF at e
  split at e
  · rename_i hc
    obtain ⟨⟨fl, env'⟩, e1, e2⟩ := Option.bind_eq_some_iff.mp e
    have es : L2.start N vs = vs.map some ++ List.replicate m none := by
      unfold L2.start
      rw [hN, hv, Nat.add_sub_cancel_left]
    rw [es]
    refine hs pa tmp _ H _ (I.ext m).1 fl env' e1 _ ?_
    cases fl with
    | nx =>
      cases e2
      intro σ' H' s' I'
      obtain ⟨b1, b2, _⟩ := body_end hpa I hc s' I'
      exact q .non H' tmp b1 b2 .non
    | bk => cases e2
    | ct => cases e2
    | rt v =>
      cases v with
      | d x =>
        cases e2
        intro u σ' H' t' s' I' p'
        obtain ⟨b1, b2, b3⟩ := body_end hpa I hc s' I'
        exact q u H' t' b1 b2 (Sh.goes (fun a o ea h => ⟨ea, fun z => h (z.imp (fun ⟨j, q⟩ => ⟨j, b3 j a q⟩) id)⟩) p')
      | f b =>
        cases e2
        intro u σ' H' t' s' I' p'
        obtain ⟨b1, b2, b3⟩ := body_end hpa I hc s' I'
        obtain ⟨p, h1, h2, h3, h4, h5⟩ := p'
        exact q u H' t' b1 b2 ⟨p, h1, h2, h3, fun ⟨j, z⟩ => h4 ⟨j, b3 j p z⟩, h5.goes (fun a o ea h => ⟨ea, fun z => h (z.imp (fun ⟨j, q⟩ => ⟨j, b3 j a q⟩) id)⟩) rfl⟩
      | b i => cases e2
  · cases e

/-! ### calls -/
def retV : Val → Option Val
  | .b _ => none
  | v => some v
def callD (F : FD) : List Val → DE := fun vals env => (asDs vals).bind fun ds => (F (ds.map .d)).bind fun r => (retV r.1).map fun v => (v, env)
def callB (F : FD) : List Val → DE := fun vals env => match vals with
  | .b i :: rest => match env[i]? with
    | some (Cl.o k b) => (asDs rest).bind fun ds => (F (.o (some 0) b :: ds.map .d)).bind fun r => match r.2 with
      | Cl.o _ b' :: _ => (retV r.1).map fun v => (v, env.set i (.o k b'))
      | _ => none
    | _ => none
  | _ => none
def callF (F : FD) : List Val → DE := fun vals env => match vals with
  | .b _ :: _ => callB F vals env
  | _ => callD F vals env
theorem mapd_at {ds : List D} {i : Nat} {c : Cl} (h : (ds.map Cl.d)[i]? = some c) : ∃ x, ds[i]? = some x ∧ c = .d x := by
  rw [List.getElem?_map] at h
  obtain ⟨x, h1, h2⟩ := Option.map_eq_some_iff.mp h
  exact ⟨x, h1, h2.symm⟩
/-- the parameters' cells of a call by data -/
theorem Okk.args {pa : Nat → Option Addr} {tmp : Addr → Prop} {H : Hp} {σ : L2.St} {env : En} {us : List V} {ds : List D} (I : Okk K pa tmp H σ env) (h : ShAll K (Nb tmp σ env) H us ds) :
    Okk K (fun _ => none) (Ownd tmp σ env) H (us.map some) (ds.map .d) ∧ ∀ i p, ¬ Owd (us.map some) (ds.map .d) i p := by
  have no : ∀ i p, ¬ Owd (us.map some) (ds.map .d) i p := fun i p ⟨⟨k, b, e⟩, _⟩ => by
    obtain ⟨x, _, z⟩ := mapd_at e
    cases z
  refine ⟨⟨by rw [List.length_map, List.length_map, h.length], fun i x e => ?_, fun i k b e => ?_, fun i j p z => absurd z (no i p), fun p z => ?_⟩, no⟩
  · obtain ⟨y, ey, z⟩ := mapd_at e
    cases z
    obtain ⟨v, h1, h2⟩ := h.get' ey
    exact ⟨v, by rw [List.getElem?_map, h1]; rfl, h2.goes fun a o ea ka => ⟨ea, fun z => z.elim (fun ⟨j, q⟩ => no j a q) ka⟩⟩
  · obtain ⟨y, ey, z⟩ := mapd_at e
    cases z
  · rcases z with z | z
    · exact I.slotTracked z
    · exact I.tin p z
/-- what a call by data leaves -/
theorem callD_run {n : Nat} {F : FD} (hF : ∀ cells r, F cells = some r → cells.length = n) {pa : Nat → Option Addr} {tmp : Addr → Prop} {σ : L2.St} {H : Hp} {env : En} (I : Okk K pa tmp H σ env) {us : List V} {ds : List D} (hs : ShAll K (Nb tmp σ env) H us ds)
    {ret v : Val} {outs : List Cl} (ef : F (ds.map .d) = some (ret, outs)) (ev : retV ret = some v) {Q : VK} {E : XK} (q : ∀ u H' tmp', Sp1 σ env env tmp tmp' H H' → Okk K pa tmp' H' σ env → PostV K tmp tmp' H' σ env u v → Q u H') : spF K n F us H Q E := by
  obtain ⟨Ia, no⟩ := I.args hs
  have hlen : us.length = n := by
    rw [hs.length]
    have := hF _ _ ef
    rwa [List.length_map] at this
  refine ⟨hlen, fun _ => none, _, ds.map .d, fun j p h => (nomatch h), Ia, ret, outs, ef, fun u H' t' s' I' p' => ?_⟩
  have kall : ∀ a o, H a = some o → H' a = some o := fun a o ea => s'.keep a o ea fun ⟨i, z⟩ => no i a z
  have nb : ∀ {tx : Addr → Prop}, (∀ a, tx a → tmp a ∨ t' a) → Go (Nb t' (us.map some) outs) (Nb tx σ env) H' H' := fun {tx} hx a o ea h => ⟨ea, fun z => by
    rcases z with z | z
    · exact h (.inr (s'.inc a (.inl z)))
    · rcases hx a z with z | z
      · exact h (.inr (s'.inc a (.inr z)))
      · exact h (.inr z)⟩
  cases ret with
  | d x =>
    cases ev
    exact q u H' tmp (.grow kall) (I.grow kall) (Sh.goes (nb fun a z => .inl z) p')
  | f b =>
    cases ev
    obtain ⟨p, h1, h2, h3, h4, h5⟩ := p'
    have hp : H p = none := by
      rcases s'.new p h2 with z | z
      · exact absurd z h3
      · exact z
    obtain ⟨o, eo⟩ := h5.tracked
    exact q u H' (mor tmp p) (.more hp kall) (I.more hp kall (by rw [eo]; exact nofun)) ⟨p, h1, .inr rfl, fun z => h3 (.inr z), notSlot_none I hp, h5.goes (nb fun a z => z.imp id fun z => by rw [z]; exact h2) rfl⟩
  | b i => cases ev
/-- the parameters' cells of a call that lends a slot's box -/
theorem Okk.argsB {pa : Nat → Option Addr} {tmp : Addr → Prop} {H : Hp} {σ : L2.St} {env : En} {us : List V} {ds : List D} {i : Nat} {k : Option Nat} {b : Box} {u : V} (I : Okk K pa tmp H σ env) (h : ShAll K (Nb tmp σ env) H us ds) (ei : env[i]? = some (Cl.o k b)) (eu : σ[i]? = some (some u)) :
    ∃ p, u = .ref p ∧ Owd σ env i p ∧ Okk K (fun j => if j = 0 then some p else none) (fun a => Ownd tmp σ env a ∧ a ≠ p) H ((u :: us).map some) (.o (some 0) b :: ds.map .d) ∧ ∀ j a, Owd ((u :: us).map some) (.o (some 0) b :: ds.map .d) j a ↔ j = 0 ∧ a = p := by
  obtain ⟨p, e1, e2, e3, _⟩ := I.own i k b ei
  rw [eu] at e1
  have e1' := Option.some.inj (Option.some.inj e1)
  subst e1'
  have ow : Owd σ env i p := ⟨⟨k, b, ei⟩, eu⟩
  have iff : ∀ j a, Owd ((V.ref p :: us).map some) (.o (some 0) b :: ds.map .d) j a ↔ j = 0 ∧ a = p := fun j a => by
    constructor
    · rintro ⟨⟨k', b', e⟩, es⟩
      cases j with
      | zero => cases es; exact ⟨rfl, rfl⟩
      | succ j =>
        have e' : (ds.map Cl.d)[j]? = some (Cl.o k' b') := by simpa using e
        obtain ⟨x, _, z⟩ := mapd_at e'
        cases z
    · rintro ⟨rfl, rfl⟩
      exact ⟨⟨_, _, rfl⟩, rfl⟩
  have g : Go (Nb tmp σ env) (Nb (fun a => Ownd tmp σ env a ∧ a ≠ p) ((V.ref p :: us).map some) (.o (some 0) b :: ds.map .d)) H H := fun a o ea h => ⟨ea, fun z => by
    rcases z with ⟨j, z⟩ | z
    · obtain ⟨_, z⟩ := (iff j a).mp z
      rw [z] at h
      exact h (.inl ⟨i, ow⟩)
    · exact h z.1⟩
  refine ⟨p, rfl, ow, ⟨?_, fun j x e => ?_, fun j k' b' e => ?_, fun j l a h1 h2 => by rw [((iff j a).mp h1).1, ((iff l a).mp h2).1], fun a z => ?_⟩, iff⟩
  · rw [List.length_map, List.length_cons, List.length_cons, List.length_map, h.length]
  · cases j with
    | zero => cases e
    | succ j =>
      have e' : (ds.map Cl.d)[j]? = some (Cl.d x) := by simpa using e
      obtain ⟨y, ey, z⟩ := mapd_at e'
      cases z
      obtain ⟨v, h1, h2⟩ := h.get' ey
      exact ⟨v, by rw [List.getElem?_map, List.getElem?_cons_succ, h1]; rfl, h2.goes g⟩
  · cases j with
    | zero =>
      cases e
      exact ⟨p, rfl, e2.goes g rfl, fun z => z.2 rfl, fun l hl => by cases hl; rfl⟩
    | succ j =>
      have e' : (ds.map Cl.d)[j]? = some (Cl.o k' b') := by simpa using e
      obtain ⟨y, ey, z⟩ := mapd_at e'
      cases z
  · rcases z.1 with z | z
    · exact I.slotTracked z
    · exact I.tin a z
/-- what such a call leaves -/
theorem callB_run {n : Nat} {F : FD} (hF : ∀ cells r, F cells = some r → cells.length = n) {pa : Nat → Option Addr} {tmp : Addr → Prop} {σ : L2.St} {H : Hp} {env : En} (I : Okk K pa tmp H σ env) {us : List V} {ds : List D} (hs : ShAll K (Nb tmp σ env) H us ds) {i : Nat} {k k2 : Option Nat} {b b' : Box} {u0 : V}
    (ei : env[i]? = some (Cl.o k b)) (eu : σ[i]? = some (some u0)) {ret v : Val} {outs : List Cl} (ef : F (.o (some 0) b :: ds.map .d) = some (ret, .o k2 b' :: outs)) (ev : retV ret = some v) {Q : VK} {E : XK}
    (q : ∀ u H' tmp', Sp1 σ env (env.set i (.o k b')) tmp tmp' H H' → Okk K pa tmp' H' σ (env.set i (.o k b')) → PostV K tmp tmp' H' σ (env.set i (.o k b')) u v → Q u H') : spF K n F (u0 :: us) H Q E := by
  obtain ⟨p, rfl, ow, Ia, iff⟩ := I.argsB hs ei eu
  have hlen : (V.ref p :: us).length = n := by
    have := hF _ _ ef
    rw [List.length_cons, List.length_map] at this
    rw [List.length_cons, hs.length]
    exact this
  refine ⟨hlen, _, _, _, fun j r h => ?_, Ia, ret, _, ef, fun u H' t' s' I' p' => ?_⟩
  · by_cases hj : j = 0
    · subst hj
      rw [if_pos rfl] at h
      cases h
      exact ⟨rfl, _, _, rfl⟩
    · rw [if_neg hj] at h
      cases h
  have hi : i < env.length := (List.getElem?_eq_some_iff.mp ei).1
  have keep : ∀ a o, H a = some o → a ≠ p → H' a = some o := fun a o ea n => s'.keep a o ea fun ⟨j, z⟩ => n ((iff j a).mp z).2
  have kk : ∀ j kk bx, (env.set i (.o k b'))[j]? = some (Cl.o kk bx) → (j = i ∧ kk = k ∧ bx = b') ∨ (j ≠ i ∧ env[j]? = some (Cl.o kk bx)) := fun j kk bx e => by
    by_cases hj : i = j
    · subst hj
      rw [List.getElem?_set_self hi] at e
      cases e
      exact .inl ⟨rfl, rfl, rfl⟩
    · rw [List.getElem?_set_ne hj] at e
      exact .inr ⟨fun z => hj z.symm, e⟩
  have sub : ∀ j a, Owd σ (env.set i (.o k b')) j a → Owd σ env j a := fun j a ⟨⟨kx, bx, e⟩, es⟩ => by
    rcases kk j kx bx e with ⟨rfl, _, _⟩ | ⟨_, e⟩
    · exact ⟨⟨k, b, ei⟩, es⟩
    · exact ⟨⟨kx, bx, e⟩, es⟩
  have own_p : Owd ((V.ref p :: us).map some) (.o k2 b' :: outs) 0 p := ⟨⟨k2, b', rfl⟩, rfl⟩
  -- from the caller's heap to the one behind, for what was there
  have g0 : ∀ {tx : Addr → Prop}, (∀ a, tx a → tmp a ∨ H a = none) → Go (Nb tmp σ env) (Nb tx σ (env.set i (.o k b'))) H H' := fun {tx} hx a o ea h => by
    have n : a ≠ p := fun z => h (by rw [z]; exact .inl ⟨i, ow⟩)
    refine ⟨keep a o ea n, fun z => ?_⟩
    rcases z with ⟨j, z⟩ | z
    · exact h (.inl ⟨j, sub j a z⟩)
    · rcases hx a z with z | z
      · exact h (.inr z)
      · rw [ea] at z; cases z
  -- .. for what the callee tells
  have g1 : ∀ {tx : Addr → Prop}, (∀ a, tx a → tmp a ∨ t' a) → Go (Nb t' ((V.ref p :: us).map some) (.o k2 b' :: outs)) (Nb tx σ (env.set i (.o k b'))) H' H' := fun {tx} hx a o ea h => ⟨ea, fun z => by
    have n : a ≠ p := fun z => h (by rw [z]; exact .inl ⟨0, own_p⟩)
    rcases z with ⟨j, z⟩ | z
    · exact h (.inr (s'.inc a ⟨.inl ⟨j, sub j a z⟩, n⟩))
    · rcases hx a z with z | z
      · exact h (.inr (s'.inc a ⟨.inr z, n⟩))
      · exact h (.inr z)⟩
  obtain ⟨p2, c1, c2, _, _⟩ := I'.own 0 k2 b' rfl
  cases c1
  have mk : ∀ {tx : Addr → Prop}, (∀ a, tx a → tmp a ∨ H a = none) → (∀ a, tx a → tmp a ∨ t' a) → (∀ a, tx a → H' a ≠ none) → ¬ tx p → Okk K pa tx H' σ (env.set i (.o k b')) := fun {tx} h1 h2 h3 h4 => by
    refine ⟨by rw [List.length_set]; exact I.len, fun j x e => ?_, fun j kx bx e => ?_, fun a c r z1 z2 => I.inj a c r (sub a r z1) (sub c r z2), h3⟩
    · by_cases hj : i = j
      · subst hj
        rw [List.getElem?_set_self hi] at e
        cases e
      · rw [List.getElem?_set_ne hj] at e
        obtain ⟨w, a1, a2⟩ := I.dat j x e
        exact ⟨w, a1, a2.goes (g0 h1)⟩
    · rcases kk j kx bx e with ⟨rfl, rfl, rfl⟩ | ⟨hj, e⟩
      · obtain ⟨r, a1, _, a3, a4⟩ := I.own j _ b ei
        rw [ow.2] at a1
        cases a1
        exact ⟨p, ow.2, c2.goes (g1 h2) rfl, h4, a4⟩
      · obtain ⟨r, a1, a2, a3, a4⟩ := I.own j kx bx e
        have n : r ≠ p := fun z => by
          subst z
          exact hj (I.inj j i r ⟨⟨kx, bx, e⟩, a1⟩ ow)
        obtain ⟨o, eo⟩ := a2.tracked
        refine ⟨r, a1, a2.goes (g0 h1) ((keep r o eo n).trans eo.symm), fun z => ?_, a4⟩
        rcases h1 r z with z | z
        · exact a3 z
        · rw [eo] at z; cases z
  have ntp : ¬ tmp p := I.slotNotTmp ⟨i, ow⟩
  have sp : ∀ {tx : Addr → Prop}, (∀ a, tmp a → tx a) → (∀ a, tx a → tmp a ∨ H a = none) → Sp1 σ env (env.set i (.o k b')) tmp tx H H' := fun {tx} h1 h2 => ⟨fun a o ea n => keep a o ea fun z => n (by rw [z]; exact ⟨i, ow⟩), sub, h1, h2, s'.trk⟩
  cases ret with
  | d x =>
    cases ev
    exact q u H' tmp (sp (fun _ h => h) fun _ h => .inl h) (mk (fun _ h => .inl h) (fun _ h => .inl h) (fun a h => s'.trk a (I.tin a h)) ntp) (Sh.goes (g1 fun a z => .inl z) p')
  | f bx =>
    cases ev
    obtain ⟨r, h1, h2, h3, h4, h5⟩ := p'
    have hr : H r = none := by
      rcases s'.new r h2 with z | z
      · exact absurd z h3
      · exact z
    obtain ⟨o, eo⟩ := h5.tracked
    have nrp : r ≠ p := fun z => by
      subst z
      exact I.slotTracked ⟨i, ow⟩ hr
    have nt : ¬ tmp r := fun z => I.tin r z hr
    refine q u H' (mor tmp r) (sp (fun _ h => .inl h) fun a h => h.imp id fun z => by rw [z]; exact hr) (mk (fun a h => h.imp id fun z => by rw [z]; exact hr) (fun a h => h.imp id fun z => by rw [z]; exact h2) (fun a h => ?_) fun z => ?_) ⟨r, h1, .inr rfl, nt, fun ⟨j, z⟩ => I.slotTracked ⟨j, sub j r z⟩ hr, h5.goes (g1 fun a z => z.imp id fun z => by rw [z]; exact h2) rfl⟩
    · rcases h with h | h
      · exact s'.trk a (I.tin a h)
      · rw [h, eo]; exact nofun
    · rcases z with z | z
      · exact ntp z
      · exact nrp z.symm
  | b j => cases ev
/-- f(..) -/
def dCallF (F : FD) (a : DA) : DE := fun env => (a env).bind fun p => callF F p.1 p.2
theorem se_fnv {n : Nat} {F : FD} (hF : ∀ cells r, F cells = some r → cells.length = n) {pa : Nat → Option Addr} {tmp t1 : Addr → Prop} {σ : L2.St} {H : Hp} {env env' : En} {us : List V} {vals : List Val} {val : Val} (I1 : Okk K pa t1 H σ env) (h0 : ∀ p, tmp p → t1 p) (p1 : PVs K tmp t1 H σ env us vals)
    (e : callF F vals env = some (val, env')) {Q : VK} {E : XK} (q : ∀ u H' tmp', Sp1 σ env env' tmp tmp' H H' → Okk K pa tmp' H' σ env' → PostV K tmp tmp' H' σ env' u val → Q u H') : spF K n F us H Q E := by
  have viaD : callD F vals env = some (val, env') → spF K n F us H Q E := fun e => by
    obtain ⟨ds, ed, e⟩ := Option.bind_eq_some_iff.mp e
    obtain ⟨⟨ret, outs⟩, ef, e⟩ := Option.bind_eq_some_iff.mp e
    obtain ⟨v, ev, e⟩ := Option.map_eq_some_iff.mp e
    cases e
    exact callD_run hF (I1.less h0) (asDs_at I1 h0 p1 ed) ef ev q
  unfold callF at e
  split at e
  · rename_i i rest
    simp only [callB] at e
    split at e
    · rename_i k b ei
      obtain ⟨ds, ed, e⟩ := Option.bind_eq_some_iff.mp e
      obtain ⟨⟨ret, outs⟩, ef, e⟩ := Option.bind_eq_some_iff.mp e
      dsimp only at e
      split at e
      · obtain ⟨v, ev, e⟩ := Option.map_eq_some_iff.mp e
        cases e
        match us, p1 with
        | u0 :: us, p1 => exact callB_run hF (I1.less h0) (asDs_at I1 h0 p1.2 ed) ei p1.1 ef ev q
      · cases e
    · cases e
  · exact viaD e
theorem se_fn {n : Nat} {F : FD} (hF : ∀ cells r, F cells = some r → cells.length = n) {ta : TA} {a : DA} {E : XK} (ha : SA K ta a) : SE K (tCall (spF K n F) [] E ta) (dCallF F a) := by
  intro pa tmp σ H env I val env' e Q q
  obtain ⟨⟨vs, e1⟩, ev, e⟩ := Option.bind_eq_some_iff.mp e
  refine ha pa tmp σ H env I vs e1 ev _ fun us H1 t1 s1 I1 p1 => ?_
  rw [List.append_nil]
  exact se_fnv hF I1 s1.inc p1 e fun u H' t' s' I' p' => q u H' t' ((s1.less s1.inc fun _ h => h).trans s') I' p'
end
end DL
end
section
set_option Elab.async false
set_option linter.all false
set_option maxRecDepth 100000
namespace DL
open PySem PySem.Spec PyProof.Rows L2

/-! ### defs called where no text is being made of a container (the guards are known) -/
structure FnG (P : Program) (w : World) (K : PySem.W.Frag) (mg : Str → Option Value) (base : Heap) (k : Nat) (f : Addr) (fd : FuncData) (ps : List Str) (sp : Sp) : Prop where
  len : ∀ vs H Q E, sp vs H Q E → vs.length = ps.length
  run : ∀ (A : Around) (outer : List PySem.Env) (s : Shared) (H : Hp) (args : Args) (us : List Value) (vs : List V) (Q : VK) (E : XK), Room k A → A.guards = some [] → Env0 P w K mg base A outer s H → BindsTo s fd args (ps.zip us) → Vals vs us → sp vs H Q E →
    codeAny (model P w) A (.call (.ref f) args) (CR CX0 outer P w H s Q E) s
theorem FnG.mono {P : Program} {w : World} {K : PySem.W.Frag} {mg : Str → Option Value} {base : Heap} {j k : Nat} {f : Addr} {fd : FuncData} {ps : List Str} {sp : Sp} (F : FnG P w K mg base j f fd ps sp) (h : j ≤ k) : FnG P w K mg base k f fd ps sp :=
  ⟨F.len, fun A outer s H args us vs Q E hr => F.run A outer s H args us vs Q E (hr.mono h)⟩
section
variable {X : Cx} {k n : Nat} {f : Addr} {fd : FuncData} {ps ks : List Str} {sp : Sp} {E : XK} {x : Str} {p pos : Pos} {e : Expr} {es : List Expr} {kws : List Keyword} {t tk : TA} {g : List Value → List Value → List Value} {gV : List V → List V → List V}
theorem run_G {pins : List (Addr × Obj)} {σ : L2.St} {H : Hp} {s : Shared} {Q : VK} {us : List Value} {vs : List V} {kw : List (Str × Value)} {bs : List Value} (F : FnG X.prog X.w X.K X.mg X.base k f fd ps sp) (hr : Room k X.A) (hg : X.A.guards = some []) (I : Inv X pins σ H s)
    (hb : BindsTo s fd ⟨us, kw⟩ (ps.zip bs)) (r : Vals vs bs) (h : sp vs H Q E) : wpAny (model X.prog X.w) X.A (call (.ref f) us kw) (EP X pins σ Q) X.xe s := by
  refine wpAny_call (codeAny_mono (F.run X.A X.stack s H ⟨us, kw⟩ bs vs Q E hr hg I.env0 hb r h) fun res s' hq => ?_)
  cases res with
  | error z => exact False.elim hq
  | ok fl => cases fl with
    | ret u => exact I.after hq
    | _ => exact False.elim hq
theorem pe_callG (F : FnG X.prog X.w X.K X.mg X.base k f fd ps sp) (hr : Room k X.A) (hgd : X.A.guards = some []) (hg : Gl X x) (hm : X.mg x = some (.ref f)) (hk : PySem.W.keepIn X.K (.ref f) = true) (hb : Binds X.K fd ps []) (ha : PA X (e :: es) t)
    (hdb : (x == ("__debug__" : Str)) = false := by decide) (he : starEach (e :: es) X.env = (false, eval e X.env) :: starEach es X.env := by rfl) (hpl : (backTo pos (starEach es X.env)).any (·.1) = false := by rfl) :
    PE X (.Call (.Name x p) (e :: es) [] pos) (tCall sp [] E t) := ⟨fun pins s σ H Q I h => wpAny_Call_Name_kw (ld_glob I hg hm
  (PySem.W.callWith_K (h₀ := X.base) I.ok.mod.kin hk (thn (ha.run pos pins s σ H _ I h) fun us s1 ⟨vs, H1, I1, r, q⟩ => ⟨I1.kIn, by
    have q : sp (vs ++ []) H1 Q E := q
    rw [List.append_nil] at q
    have l1 : us.length = ps.length := by rw [← r.length]; exact F.len _ _ _ _ q
    have b := hb s1 us I1.kIn (by rw [List.append_nil]; exact l1)
    rw [List.append_nil] at b
    exact run_G F hr hgd I1 b r q⟩) he hpl) hdb)⟩
theorem pe_call0G (F : FnG X.prog X.w X.K X.mg X.base k f fd [] sp) (hr : Room k X.A) (hgd : X.A.guards = some []) (hg : Gl X x) (hm : X.mg x = some (.ref f)) (hk : PySem.W.keepIn X.K (.ref f) = true) (hb : Binds X.K fd [] [])
    (hdb : (x == ("__debug__" : Str)) = false := by decide) : PE X (.Call (.Name x p) [] [] pos) (tCall sp [] E tNil) := ⟨fun pins s σ H Q I h => wpAny_Call_Name_kw (ld_glob I hg hm
  (PySem.W.callWith_K0 I.kIn hk (run_G F hr hgd I (hb s [] I.kIn rfl) (.nil) (show sp [] H Q E from h))) hdb)⟩
/-- .. with keywords: n positional values -/
theorem pe_callGK (F : FnG X.prog X.w X.K X.mg X.base k f fd ps sp) (hr : Room k X.A) (hgd : X.A.guards = some []) (hg : Gl X x) (hm : X.mg x = some (.ref f)) (hk : PySem.W.keepIn X.K (.ref f) = true) (hb : KBn X.K fd ps n ks g gV) (ha : PA X (e :: es) t) (hkw : PK X kws tk)
    (hall : (backToKw pos (keywordEach kws X.env)).all (·.1.isSome) = true := by rfl) (hks : (backToKw pos (keywordEach kws X.env)).filterMap (·.1) = ks := by rfl) (hdb : (x == ("__debug__" : Str)) = false := by decide)
    (he : starEach (e :: es) X.env = (false, eval e X.env) :: starEach es X.env := by rfl)
    (hpl : ((backTo pos (starEach (e :: es) X.env)).any (·.1) || (backToKw pos (keywordEach kws X.env)).any (·.1.isNone)) = false := by rfl) :
    PE X (.Call (.Name x p) (e :: es) kws pos) (tCallN n ks.length sp gV E t tk) := ⟨fun pins s σ H Q I h => wpAny_Call_Name_kw (ld_glob I hg hm
  (PySem.W.callWith_KW (h₀ := X.base) I.ok.mod.kin hk hall (thn (ha.run pos pins s σ H _ I h) fun us s1 ⟨vs, H1, I1, r, q⟩ =>
    thn (hkw.run pos pins s1 σ H1 _ I1 q) fun ws s2 ⟨zs, H2, I2, rz, l1, l2, q2⟩ => ⟨I2.kIn, by
      rw [hks]
      exact run_G F hr hgd I2 (hb.to s2 us ws I2.kIn (r.length.symm.trans l1) (rz.length.symm.trans l2)) (hb.rel r rz) q2⟩) hpl he) hdb)⟩
theorem pe_callG0K (F : FnG X.prog X.w X.K X.mg X.base k f fd ps sp) (hr : Room k X.A) (hgd : X.A.guards = some []) (hg : Gl X x) (hm : X.mg x = some (.ref f)) (hk : PySem.W.keepIn X.K (.ref f) = true) (hb : KBn X.K fd ps 0 ks g gV) (hkw : PK X kws tk)
    (hall : (backToKw pos (keywordEach kws X.env)).all (·.1.isSome) = true := by rfl) (hks : (backToKw pos (keywordEach kws X.env)).filterMap (·.1) = ks := by rfl) (hdb : (x == ("__debug__" : Str)) = false := by decide)
    (hpl : ((backTo pos (starEach [] X.env)).any (·.1) || (backToKw pos (keywordEach kws X.env)).any (·.1.isNone)) = false := by rfl) :
    PE X (.Call (.Name x p) [] kws pos) (tCallN 0 ks.length sp gV E tNil tk) := ⟨fun pins s σ H Q I h => wpAny_Call_Name_kw (ld_glob I hg hm
  (PySem.W.callWith_KW0 (h₀ := X.base) I.ok.mod.kin hk hall (thn (hkw.run pos pins s σ H _ I h) fun ws s2 ⟨zs, H2, I2, rz, l1, l2, q2⟩ => ⟨I2.kIn, by
    rw [hks]
    exact run_G (us := []) F hr hgd I2 (hb.to s2 [] ws I2.kIn rfl (rz.length.symm.trans l2)) (hb.rel .nil rz) q2⟩) hpl) hdb)⟩
end
section
variable {P : Program} {w : World} {K : PySem.W.Frag} {mg : Str → Option Value} {base : Heap}
/-- a def of the text keeps its promise, by its body -/
theorem fun_G {x qual : Str} {st : Stmt} {f : Addr} {fd : FuncData} {N ps : List Str} {k : Nat} {sp : Sp} (F : Fun K x qual st f fd) (S : FnScope N ps (defScope st)) (len : ∀ vs H Q E, sp vs H Q E → vs.length = ps.length)
    (hbody : ∀ (cdv : Value) (A : Around) (outer : List PySem.Env) (s : Shared) (H : Hp) (E : XK), Room k (A.deeper (envOfC qual (defScope st) s.heap.objs.size f cdv)) → (A.deeper (envOfC qual (defScope st) s.heap.objs.size f cdv)).guards = some [] →
      ∃ t, PSs (cxOf CX0 P w K mg base N qual (defScope st) f cdv A outer s H E).nox (defBody st) t ∧ ∀ vs Q, sp vs H Q E → t { nx := fun _ H' => Q .non H', rt := Q } (L2.start N vs) H) : FnG P w K mg base (k + 1) f fd ps sp := by
  refine ⟨len, fun A outer s H args us vs Q E hr hg e0 hb r hsp => ?_⟩
  obtain ⟨oc, od, kV, doc, pm, an, cdv, ct, osl, rfl, lk, hcd⟩ := F.ex
  have kept : ∀ b o, base.get? b = some o → s.heap.get? b = some o := fun b o z => (e0.bs b o z).1
  have KX : K.In s.heap := e0.mod.kin.keeps kept
  refine codeAny_call_function hr.depth (KX _ _ lk) rfl S.co S.gen rfl (PySem.W.codeRec_of KX hcd) (hb _ _ _ _
    (wpAny_newFunctionEnv_cells S.kind (fun ⟨n, v⟩ hy => ?_) fun env he s1 inC => ?_))
  · rcases S.par n (List.of_mem_zip hy).1 with z | z
    · exact .inl z
    · exact .inr ⟨z, PySem.W.cellsFrom_some _ _ _ (.inl z)⟩
  subst he
  obtain ⟨t, ht, hq⟩ := hbody cdv A outer s H E (hr.deeper _) hg
  have I := inv_start (CX := CX0) (E := E) S hr.hd e0 (len _ _ _ _ hsp) r inC
  refine ⟨(e0.mod.nolimit.keeps kept).keeps inC.toInCall.keep, codeAny_func (wpAny_mono (ht.nox.run [] s1 (L2.start N vs) H _ I (hq vs Q hsp)) (fun fl s' hs => ?_) fun _ _ z => z)⟩
  cases fl with
  | ret u =>
    obtain ⟨v, σ', H', J, rv, q⟩ := hs
    exact ⟨v, H', J.os, J.bare, J.base, J.hok, rv, q⟩
  | next =>
    obtain ⟨σ', H', J, q⟩ := hs
    exact ⟨.non, H', J.os, J.bare, J.base, J.hok, (rfl : (Value.none : Value) = Value.none), q⟩
  | _ =>
    obtain ⟨_, _, _, q⟩ := hs
    exact q.elim
end
end DL
end
section
set_option Elab.async false
set_option linter.all false
set_option maxRecDepth 100000
/-! More of the values' layer: None, isinstance, chains, lists made of lists, slices, sums, repr, divmod. -/
namespace DL
open PySem PySem.Spec PyProof.Rows L2
section
variable {K : PySem.W.Frag}
/-! ### None -/
def isNone (env : En) : Val → Option Bool
  | .d .none => some true
  | .d _ => some false
  | .f _ => some false
  | .b i => match env[i]? with
    | some (Cl.o _ _) => some false
    | _ => none
def fIs (neg : Bool) : Val → Val → DE := fun x y env => match y with
  | .d .none => (isNone env x).map fun b => (.d (.bool (b != neg)), env)
  | _ => none
theorem isNone_at {pa : Nat → Option Addr} {tmp0 tmp : Addr → Prop} {σ : L2.St} {H : Hp} {env : En} {u : V} {v : Val} {b : Bool} (I : Okk K pa tmp H σ env) (h : PostV K tmp0 tmp H σ env u v) (e : isNone env v = some b) : decide (u = .non) = b := by
  cases v with
  | d x =>
    have h' : Sh K (Nb tmp σ env) H u x := h
    cases h' <;> cases e <;> rfl
  | f bx => obtain ⟨p, e', _⟩ := h; subst e'; cases e; rfl
  | b i =>
    have e : (match env[i]? with | some (Cl.o _ _) => some false | _ => none) = some b := e
    split at e
    · rename_i k bx ei
      cases e
      obtain ⟨p, e1, _⟩ := I.own i k bx ei
      have h' : σ[i]? = some (some u) := h
      rw [e1] at h'
      cases h'
      rfl
    · cases e
theorem r2_isN : R2S K (fun x y H Q => y = .non ∧ Q (.bl (decide (x = .non))) H) (fIs false) := by
  intro pa tmp0 tmp σ H env I h0 u1 v1 u2 v2 p1 p2 val env' e Q q
  unfold fIs at e
  split at e
  · obtain ⟨b, eb, e⟩ := Option.map_eq_some_iff.mp e
    cases e
    cases p2
    refine ⟨rfl, ?_⟩
    rw [isNone_at I p1 eb]
    have z : (b != false) = b := by cases b <;> rfl
    rw [z] at q
    exact q _ H tmp .refl I (.bl _)
  · cases e
theorem r2_notN : R2S K (fun x y H Q => y = .non ∧ Q (.bl (!decide (x = .non))) H) (fIs true) := by
  intro pa tmp0 tmp σ H env I h0 u1 v1 u2 v2 p1 p2 val env' e Q q
  unfold fIs at e
  split at e
  · obtain ⟨b, eb, e⟩ := Option.map_eq_some_iff.mp e
    cases e
    cases p2
    refine ⟨rfl, ?_⟩
    rw [isNone_at I p1 eb]
    have z : (b != true) = !b := by cases b <;> rfl
    rw [z] at q
    exact q _ H tmp .refl I (.bl _)
  · cases e

/-! ### isinstance -/
inductive Ty where | non | bl | int | str | lst | tup | dct
deriving DecidableEq, Repr
def Ty.nm : Ty → String
  | .non => "NoneType"
  | .bl => "bool"
  | .int => "int"
  | .str => "str"
  | .lst => "list"
  | .tup => "tuple"
  | .dct => "dict"
def isiB : Ty → Ty → Bool
  | .bl, .int => true
  | a, b => decide (a = b)
theorem isi_ok : ∀ a b : Ty, b ≠ .non → kitB a.nm b.nm = some (isiB a b) := by
  intro a b h
  cases a <;> cases b <;> first | exact absurd rfl h | decide +kernel
def tyOf (env : En) : Val → Option Ty
  | .d .none => some .non
  | .d (.bool _) => some .bl
  | .d (.int _) => some .int
  | .d (.str _) => some .str
  | .d (.list _) => some .lst
  | .d (.tuple _) => some .tup
  | .d (.dict _) => some .dct
  | .f (.l _) => some .lst
  | .f (.m _) => some .dct
  | .b i => match env[i]? with
    | some (Cl.o _ (.l _)) => some .lst
    | some (Cl.o _ (.m _)) => some .dct
    | _ => none
theorem boxTy {ok : Addr → Prop} {H : Hp} {p : Addr} : ∀ {b : Box}, BoxAt K ok H p b → TyX K H (.ref p) (.type (match b with | .l _ => Ty.lst | .m _ => Ty.dct).nm)
  | .l _, ⟨_, e, _⟩ => .base (.lst e)
  | .m _, ⟨_, e, _⟩ => .base (.dK e)
theorem tyOf_at {pa : Nat → Option Addr} {tmp0 tmp : Addr → Prop} {σ : L2.St} {H : Hp} {env : En} {u : V} {v : Val} {t : Ty} (I : Okk K pa tmp H σ env) (h : PostV K tmp0 tmp H σ env u v) (e : tyOf env v = some t) : TyX K H u (.type t.nm) := by
  cases v with
  | d x =>
    have h' : Sh K (Nb tmp σ env) H u x := h
    cases h' with
    | non => cases e; exact .base .non
    | bl b => cases e; exact .base (.bl b)
    | int i => cases e; exact .base (.int i)
    | str x => cases e; exact .base (.str x)
    | lst r _ _ =>
      cases e
      rcases r with r | ⟨o, r⟩
      · exact .base (.lst r)
      · exact .base (.frz r)
    | lstK r _ =>
      cases e
      obtain ⟨o, its, n, h1, h2, _⟩ := r
      exact .kList h1 h2
    | tup r _ _ =>
      cases e
      rcases r with r | ⟨o, r⟩
      · exact .base (.tup r)
      · exact .fTuple r
    | tupK r _ =>
      cases e
      obtain ⟨o, its, n, h1, h2, _⟩ := r
      exact .kTuple h1 h2
    | dct r _ =>
      cases e
      exact .base (.dK r)
  | f b =>
    obtain ⟨p, e', _, _, _, hb⟩ := h
    subst e'
    have := boxTy hb
    cases b <;> cases e <;> exact this
  | b i =>
    have h' : σ[i]? = some (some u) := h
    have e : (match env[i]? with | some (Cl.o _ (.l _)) => some Ty.lst | some (Cl.o _ (.m _)) => some Ty.dct | _ => none) = some t := e
    split at e
    · rename_i k xs ei
      cases e
      obtain ⟨p, e1, hb, _⟩ := I.own i k _ ei
      rw [e1] at h'
      cases h'
      exact boxTy hb
    · rename_i k xs ei
      cases e
      obtain ⟨p, e1, hb, _⟩ := I.own i k _ ei
      rw [e1] at h'
      cases h'
      exact boxTy hb
    · cases e
def dIsi (T : Ty) (a : DE) : DE := fun env => (a env).bind fun p => (tyOf p.2 p.1).map fun t => (.d (.bool (isiB t T)), p.2)
theorem se_isi {ta : TE} {a : DE} {T : Ty} (hT : T ≠ .non) (ha : SE K ta a) : SE K (tCB (rIsi K) (tCons ta (tCons (tC (.ty T.nm)) tNil))) (dIsi T a) := by
  intro pa tmp σ H env I val env' e Q q
  obtain ⟨⟨v, e1⟩, ev, e⟩ := Option.bind_eq_some_iff.mp e
  obtain ⟨t, et, e⟩ := Option.map_eq_some_iff.mp e
  cases e
  refine ha pa tmp σ H env I v e1 ev _ fun u H1 t1 s1 I1 p1 => ?_
  exact ⟨u, .ty T.nm, _, _, isiB t T, rfl, .ty _, tyOf_at I1 p1 et, kit_ty (isi_ok t T hT), q _ H1 tmp (s1.less s1.inc fun _ h => h) (I1.less s1.inc) (.bl _)⟩

/-! ### a < b < c -/
def dChain (f f' : Val → Val → DE) (a b c : DE) : DE := fun env => (a env).bind fun p => (b p.2).bind fun q => (f p.1 q.1 q.2).bind fun r => match r.1 with
  | .d (.bool true) => (c r.2).bind fun s => f' q.1 s.1 s.2
  | .d (.bool false) => some (.d (.bool false), r.2)
  | _ => none
theorem se_chain {ta tb tc : TE} {a b c : DE} {r r' : R2} {f f' : Val → Val → DE} (ha : SE K ta a) (hb : SE K tb b) (hc : SE K tc c) (hr : R2S K r f) (hr' : R2S K r' f') : SE K (tChain r r' ta tb tc) (dChain f f' a b c) := by
  intro pa tmp σ H env I val env' e Q q
  obtain ⟨⟨x, e1⟩, ex, e⟩ := Option.bind_eq_some_iff.mp e
  obtain ⟨⟨y, e2⟩, ey, e⟩ := Option.bind_eq_some_iff.mp e
  obtain ⟨⟨z, e3⟩, ez, e⟩ := Option.bind_eq_some_iff.mp e
  refine ha pa tmp σ H env I x e1 ex _ fun u1 H1 t1 s1 I1 p1 => hb pa t1 σ H1 e1 I1 y e2 ey _ fun u2 H2 t2 s2 I2 p2 => ?_
  have inc2 : ∀ p, tmp p → t2 p := fun p h => s2.inc p (s1.inc p h)
  refine hr pa tmp t2 σ H2 e2 I2 inc2 u1 x u2 y (p1.step s2) (p2.tmp0 s1.inc) z e3 ez _ fun u3 H3 t3 s3 I3 p3 => ?_
  have s03 := (s1.trans s2).trans s3
  dsimp only at e
  split at e
  · cases p3
    obtain ⟨⟨w, e4⟩, ew, e⟩ := Option.bind_eq_some_iff.mp e
    refine ⟨true, rfl, ?_⟩
    rw [if_pos rfl]
    refine hc pa t3 σ H3 e3 I3 w e4 ew _ fun u4 H4 t4 s4 I4 p4 => ?_
    exact hr' pa tmp t4 σ H4 e4 I4 (fun p h => s4.inc p (s3.inc p (inc2 p h))) u2 y u4 w (((p2.tmp0 s1.inc).step s3).step s4) (p4.tmp0 fun p h => s3.inc p (inc2 p h)) val env' e Q fun u H' t' s' I' p' => q u H' t' ((s03.trans s4).trans s') I' p'
  · cases p3
    cases e
    refine ⟨false, rfl, ?_⟩
    rw [if_neg Bool.false_ne_true]
    exact q _ H3 tmp (s03.less s03.inc fun _ h => h) (I3.less s03.inc) (.bl false)
  · cases e

/-! ### lists of lists -/
/-- what is surely a tracked list -/
def lstT (env : En) : Val → Option (List D)
  | .f (.l xs) => some xs
  | .b i => match env[i]? with
    | some (Cl.o _ (.l xs)) => some xs
    | _ => none
  | _ => none
theorem lstT_at {pa : Nat → Option Addr} {tmp0 tmp : Addr → Prop} {σ : L2.St} {H : Hp} {env : En} {u : V} {v : Val} {xs : List D} (I : Okk K pa tmp H σ env) (h : PostV K tmp0 tmp H σ env u v) (e : lstT env v = some xs) : ∃ p vs, u = .ref p ∧ H p = some (.lst vs) ∧ ShAll K (Nb tmp σ env) H vs xs := by
  unfold lstT at e
  split at e
  · cases e
    obtain ⟨p, h1, _, _, _, vs, h4, h5⟩ := h
    exact ⟨p, vs, h1, h4, h5⟩
  · split at e
    · rename_i k ys ei
      cases e
      obtain ⟨p, h1, ⟨vs, h2, h3⟩, _⟩ := I.own _ _ _ ei
      have h' : σ[_]? = some (some u) := h
      rw [h1] at h'
      cases h'
      exact ⟨p, vs, rfl, h2, h3⟩
    · cases e
  · cases e
theorem ShAll.rep {ok : Addr → Prop} {H : Hp} {vs : List V} {ds : List D} (h : ShAll K ok H vs ds) : ∀ n, ShAll K ok H (List.replicate n vs).flatten (List.replicate n ds).flatten
  | 0 => .nil
  | n + 1 => by
    rw [List.replicate_succ, List.replicate_succ, List.flatten_cons, List.flatten_cons]
    exact h.append (ShAll.rep h n)
def fRep : Val → Val → DE := fun x y env => match y with
  | .d (.int k) => (lstT env x).bind fun xs => if decide (-(2 ^ 63) ≤ k ∧ k < 2 ^ 63) && szOk (xs.length * k.toNat) then some (.f (.l (List.replicate k.toNat xs).flatten), env) else none
  | _ => none
theorem r2_rep : R2S K rRep fRep := by
  intro pa tmp0 tmp σ H env I h0 u1 v1 u2 v2 p1 p2 val env' e Q q
  unfold fRep at e
  split at e
  · rename_i k
    obtain ⟨xs, ex, e⟩ := Option.bind_eq_some_iff.mp e
    split at e
    · rename_i hc
      cases e
      cases p2
      obtain ⟨c1, c2⟩ := (Bool.and_eq_true _ _).mp hc
      obtain ⟨b1, b2⟩ := of_decide_eq_true c1
      obtain ⟨p, vs, rfl, h2, h3⟩ := lstT_at I p1 ex
      refine ⟨p, k, vs, rfl, rfl, h2, b1, b2, by rw [h3.length]; exact szOk_le c2, fun l hl => ?_⟩
      obtain ⟨s2, I2, h4⟩ := lst_new (tmp := tmp) I (fun _ h => h) (h3.rep k.toNat) hl
      exact q _ _ _ s2 I2 (h4.tmp0 h0)
    · cases e
  · cases e
def fCat : Val → Val → DE := fun x y env => (lstT env x).bind fun xs => (lstT env y).bind fun ys => if szOk (xs.length + ys.length) then some (.f (.l (xs ++ ys)), env) else none
theorem r2_cat : R2S K rCat fCat := by
  intro pa tmp0 tmp σ H env I h0 u1 v1 u2 v2 p1 p2 val env' e Q q
  obtain ⟨xs, ex, e⟩ := Option.bind_eq_some_iff.mp e
  obtain ⟨ys, ey, e⟩ := Option.bind_eq_some_iff.mp e
  split at e
  · rename_i hc
    cases e
    obtain ⟨p, vs, rfl, h2, h3⟩ := lstT_at I p1 ex
    obtain ⟨p', vs', rfl, h2', h3'⟩ := lstT_at I p2 ey
    refine ⟨p, p', vs, vs', rfl, rfl, h2, h2', by rw [h3.length, h3'.length]; exact szOk_le hc, fun l hl => ?_⟩
    obtain ⟨s2, I2, h4⟩ := lst_new (tmp := tmp) I (fun _ h => h) (h3.append h3') hl
    exact q _ _ _ s2 I2 (h4.tmp0 h0)
  · cases e

/-! ### slices -/
def cutD (xs : List D) (lo hi : Option Int) : List D := (xs.drop (HT.sIx xs.length 0 lo)).take (HT.sIx xs.length xs.length hi - HT.sIx xs.length 0 lo)
theorem ShAll.cut {ok : Addr → Prop} {H : Hp} {vs : List V} {ds : List D} (h : ShAll K ok H vs ds) (lo hi : Option Int) : ShAll K ok H (cutV vs lo hi) (cutD ds lo hi) := by
  unfold cutV cutD
  rw [h.length]
  exact (h.drop _).take _
abbrev DO := En → Option (Option Int × En)
def SO (K : PySem.W.Frag) (to : TO) (den : DO) : Prop := ∀ (pa : Nat → Option Addr) (tmp : Addr → Prop) (σ : L2.St) (H : Hp) (env : En), Okk K pa tmp H σ env → ∀ o env', den env = some (o, env') →
  ∀ Q : Option Int → Hp → Prop, (∀ H', Sp1 σ env env' tmp tmp H H' → Okk K pa tmp H' σ env' → Q o H') → to σ H Q
def dNoPart : DO := fun env => some (none, env)
def dPart (a : DE) : DO := fun env => (a env).bind fun p => match p.1 with
  | .d (.int i) => some (some i, p.2)
  | _ => none
theorem so_none : SO K tNoPart dNoPart := by
  intro pa tmp σ H env I o env' e Q q
  cases e
  exact q H .refl I
theorem so_some {te : TE} {a : DE} (ha : SE K te a) : SO K (tPart te) (dPart a) := by
  intro pa tmp σ H env I o env' e Q q
  obtain ⟨⟨v, e1⟩, ev, e⟩ := Option.bind_eq_some_iff.mp e
  refine ha pa tmp σ H env I v e1 ev _ fun u H' t' s' I' p' => ?_
  dsimp only at e
  split at e
  · cases e
    cases p'
    exact ⟨_, rfl, q H' (s'.less s'.inc fun _ h => h) (I'.less s'.inc)⟩
  · cases e
/-- of a list, of a tuple (the whole of a tuple is itself) -/
def isWhole (n : Nat) (lo hi : Option Int) : Bool := decide (HT.sIx n 0 lo = 0 ∧ HT.sIx n n hi = n)
def fSl (x : Val) (lo hi : Option Int) : DE := fun env => match x with
  | .d (.tuple xs) => if isWhole xs.length lo hi then none else some (.d (.tuple (cutD xs lo hi)), env)
  | v => (listOf env v).map fun xs => (.f (.l (cutD xs lo hi)), env)
def rSlA (K : PySem.W.Frag) : V → Option Int → Option Int → Hp → VK → Prop := fun x lo hi H Q => rSlL K x lo hi H Q ∨ rSlT K x lo hi H Q
theorem sl_any {X : Cx} : SlR X (rSlA X.K) := SlR.or sl_list sl_tup
def dSl (a : DE) (lo hi : DO) : DE := fun env => (a env).bind fun p => (lo p.2).bind fun q => (hi q.2).bind fun r => fSl p.1 q.1 r.1 r.2
theorem fSl_run {pa : Nat → Option Addr} {tmp t1 : Addr → Prop} {σ : L2.St} {H : Hp} {env env' : En} {u : V} {x val : Val} {l h : Option Int} (I : Okk K pa t1 H σ env) (h0 : ∀ p, tmp p → t1 p) (p : PostV K tmp t1 H σ env u x) (e : fSl x l h env = some (val, env')) {Q : VK}
    (q : ∀ u H' tmp', Sp1 σ env env' t1 tmp' H H' ∨ (Sp1 σ env env' t1 t1 H H' ∧ tmp' = tmp) → (∀ p, tmp p → tmp' p) → Okk K pa tmp' H' σ env' → PostV K tmp tmp' H' σ env' u val → Q u H') : rSlA K u l h H Q := by
  unfold fSl at e
  split at e
  · rename_i ys
    split at e
    · cases e
    · rename_i hw
      cases e
      obtain ⟨r, vs, rfl, h4, h5⟩ := tupOf_at p (rfl : tupOf (.d (.tuple ys)) = some ys)
      refine .inr ⟨r, vs, rfl, h4, fun z => hw (decide_eq_true (by rw [h5.length] at z; exact z)), fun a ha => ?_⟩
      obtain ⟨s4, I4, h6⟩ := tup_new (tmp := tmp) I h0 ((h5.goes (Nb.less h0)).cut l h) ha
      exact q _ _ tmp (.inr ⟨s4, rfl⟩) (fun _ h => h) (I4.less h0) h6
  · obtain ⟨xs, h1, h2⟩ := Option.map_eq_some_iff.mp e
    cases h2
    obtain ⟨r, vs, rfl, h4, h5⟩ := listOf_at I p h1
    refine .inl ⟨r, vs, rfl, h4, fun a ha => ?_⟩
    obtain ⟨s4, I4, h6⟩ := lst_new (tmp := t1) I (fun _ h => h) (h5.cut l h) ha
    exact q _ _ _ (.inl s4) (fun p h => .inl (h0 p h)) I4 (h6.tmp0 h0)
theorem se_sl {te : TE} {tl th : TO} {a : DE} {lo hi : DO} (ha : SE K te a) (hl : SO K tl lo) (hh : SO K th hi) : SE K (tSl (rSlA K) te tl th) (dSl a lo hi) := by
  intro pa tmp σ H env I val env' e Q q
  obtain ⟨⟨x, e1⟩, ex, e⟩ := Option.bind_eq_some_iff.mp e
  obtain ⟨⟨l, e2⟩, el, e⟩ := Option.bind_eq_some_iff.mp e
  obtain ⟨⟨h, e3⟩, eh, e⟩ := Option.bind_eq_some_iff.mp e
  refine ha pa tmp σ H env I x e1 ex _ fun u H1 t1 s1 I1 p1 => hl pa t1 σ H1 e1 I1 l e2 el _ fun H2 s2 I2 => hh pa t1 σ H2 e2 I2 h e3 eh _ fun H3 s3 I3 => ?_
  have s13 := (s1.trans s2).trans s3
  refine fSl_run I3 s1.inc ((p1.step s2).step s3) e fun u' H' t' s4 inc I4 p4 => ?_
  rcases s4 with s4 | ⟨s4, rfl⟩
  · exact q u' H' t' (s13.trans s4) I4 p4
  · exact q u' H' _ ((s13.trans s4).less s1.inc fun _ h => h) I4 p4
end
end DL
end
section
set_option Elab.async false
set_option linter.all false
set_option maxRecDepth 100000
/-! Stores into owned lists, methods of them, more built-ins. -/
namespace DL
open PySem PySem.Spec PyProof.Rows L2
section
variable {K : PySem.W.Frag}
/-! ### an owned box is changed -/
def BoxVal (K : PySem.W.Frag) (ok : Addr → Prop) (H : Hp) (p : Addr) (o : HO) (b : Box) : Prop := ∀ (ok' : Addr → Prop) (H' : Hp), Go ok ok' H H' → H' p = some o → BoxAt K ok' H' p b
theorem boxL {ok : Addr → Prop} {H : Hp} {p : Addr} {vs : List V} {xs : List D} (h : ShAll K ok H vs xs) : BoxVal K ok H p (.lst vs) (.l xs) := fun _ _ g e => ⟨vs, e, h.goes g⟩
theorem boxM {ok : Addr → Prop} {H : Hp} {p : Addr} {ws : List (Key × V)} {kvs : List (Key × D)} (k : ws.map (·.1) = kvs.map (·.1)) (h : ShAll K ok H (ws.map (·.2)) (kvs.map (·.2))) : BoxVal K ok H p (.dK ws) (.m kvs) := fun _ _ g e => ⟨ws, e, k, h.goes g⟩
theorem owd_box {σ : L2.St} {env : En} {i : Nat} {k : Option Nat} {b b' : Box} (e : env[i]? = some (Cl.o k b)) (j : Nat) (q : Addr) : Owd σ (env.set i (.o k b')) j q ↔ Owd σ env j q := by
  have hi : i < env.length := (List.getElem?_eq_some_iff.mp e).1
  constructor
  · rintro ⟨⟨k', bx, ej⟩, es⟩
    by_cases hj : i = j
    · subst hj
      exact ⟨⟨k, b, e⟩, es⟩
    · rw [List.getElem?_set_ne hj] at ej
      exact ⟨⟨k', bx, ej⟩, es⟩
  · rintro ⟨⟨k', bx, ej⟩, es⟩
    by_cases hj : i = j
    · subst hj
      exact ⟨⟨k, b', List.getElem?_set_self hi⟩, es⟩
    · exact ⟨⟨k', bx, by rw [List.getElem?_set_ne hj]; exact ej⟩, es⟩
theorem Okk.setB {pa : Nat → Option Addr} {tmp : Addr → Prop} {H : Hp} {σ : L2.St} {env : En} {i : Nat} {k : Option Nat} {b b' : Box} {p : Addr} {o : HO} (I : Okk K pa tmp H σ env) (e : env[i]? = some (Cl.o k b)) (es : σ[i]? = some (some (.ref p)))
    (hb : BoxVal K (Nb tmp σ env) H p o b') : Okk K pa tmp (upd H p o) σ (env.set i (.o k b')) ∧ Sp1 σ env (env.set i (.o k b')) tmp tmp H (upd H p o) := by
  have hi : i < env.length := (List.getElem?_eq_some_iff.mp e).1
  have iff := fun j q => owd_box (σ := σ) (b' := b') e j q
  have own_i : Owd σ env i p := ⟨⟨k, b, e⟩, es⟩
  have g : Go (Nb tmp σ env) (Nb tmp σ (env.set i (.o k b'))) H (upd H p o) := fun a u ea h => by
    have n : a ≠ p := fun z => h (by rw [z]; exact .inl ⟨i, own_i⟩)
    exact ⟨by rw [upd_ne n]; exact ea, fun z => h (z.imp (fun ⟨j, q⟩ => ⟨j, (iff j a).mp q⟩) id)⟩
  obtain ⟨p', e1, _, nt, hk⟩ := I.own i k b e
  rw [es] at e1
  cases e1
  refine ⟨⟨by rw [List.length_set]; exact I.len, fun j x ej => ?_, fun j kk bx ej => ?_, fun a c q h1 h2 => I.inj a c q ((iff a q).mp h1) ((iff c q).mp h2), fun q h => ?_⟩, ⟨fun a u ea h => ?_, fun j q h => (iff j q).mp h, fun _ h => h, fun _ h => .inl h, fun a h => ?_⟩⟩
  · by_cases hj : i = j
    · subst hj
      rw [List.getElem?_set_self hi] at ej
      cases ej
    · rw [List.getElem?_set_ne hj] at ej
      obtain ⟨v, h1, h2⟩ := I.dat j x ej
      exact ⟨v, h1, h2.goes g⟩
  · by_cases hj : i = j
    · subst hj
      rw [List.getElem?_set_self hi] at ej
      cases ej
      exact ⟨p, es, hb _ _ g upd_same, nt, hk⟩
    · rw [List.getElem?_set_ne hj] at ej
      obtain ⟨q, h1, h2, h3, h4⟩ := I.own j kk bx ej
      have n : q ≠ p := fun z => by
        subst z
        exact hj (I.inj i j q own_i ⟨⟨kk, bx, ej⟩, h1⟩)
      exact ⟨q, h1, h2.goes g (upd_ne n), h3, h4⟩
  · by_cases z : q = p
    · rw [z, upd_same]; exact nofun
    · rw [upd_ne z]; exact I.tin q h
  · rw [upd_ne (fun z => h (by rw [z]; exact ⟨i, own_i⟩))]
    exact ea
  · by_cases z : a = p
    · rw [z, upd_same]; exact nofun
    · rw [upd_ne z]; exact h

/-! ### x[i] = v, x a slot's own list -/
def ownL (env : En) (s : Nat) : Option (Option Nat × List D) := match env[s]? with
  | some (Cl.o kk (.l xs)) => some (kk, xs)
  | _ => none
theorem ownL_at {env : En} {s : Nat} {kk : Option Nat} {xs : List D} (e : ownL env s = some (kk, xs)) : env[s]? = some (Cl.o kk (.l xs)) := by
  unfold ownL at e
  split at e
  · rename_i h; cases e; exact h
  · cases e
def aSub (s : Nat) (ix : DE) : DG := fun x env => (ownL env s).bind fun _ => (ix env).bind fun p => match p.1 with
  | .d (.int k) => (ownL p.2 s).bind fun o => (ixN o.2.length k).map fun j => p.2.set s (.o o.1 (.l (o.2.set j x)))
  | _ => none
theorem sg_sub {s : Nat} {ti : TE} {ix : DE} (hi : SE K ti ix) : SG K [] (L2.gSub (tVar s) ti rSetL) (aSub s ix) := by
  intro pa tmp σ H env I u x h env' e Q q
  obtain ⟨⟨k0, ys⟩, e0, e⟩ := Option.bind_eq_some_iff.mp e
  obtain ⟨⟨v, e1⟩, ev, e⟩ := Option.bind_eq_some_iff.mp e
  dsimp only at e
  split at e
  · rename_i k
    obtain ⟨⟨kk, xs⟩, es, e⟩ := Option.bind_eq_some_iff.mp e
    obtain ⟨j, hj, e⟩ := Option.map_eq_some_iff.mp e
    cases e
    obtain ⟨p, h1, _⟩ := I.own s k0 _ (ownL_at e0)
    refine ⟨_, h1, hi pa tmp σ H env I _ e1 ev _ fun w H1 t1 s1 I1 p1 => ?_⟩
    cases p1
    have I1' := I1.less s1.inc
    have s1' := s1.less s1.inc fun _ h => h
    obtain ⟨p', h1', ⟨vs, h2, h3⟩, _⟩ := I1'.own s kk _ (ownL_at es)
    rw [h1] at h1'
    cases h1'
    obtain ⟨I2, s2⟩ := I1'.setB (o := .lst (vs.set j u)) (b' := .l (xs.set j x)) (ownL_at es) h1 (boxL (ShAll.set (h.goes s1'.goes) h3 j))
    exact ⟨p, vs, k, j, rfl, rfl, h2, by rw [h3.length]; exact hj, q σ _ (s1'.trans s2).sp2 I2 fun _ _ => rfl⟩
  · cases e
theorem ao_sub {s : Nat} {ix : DE} (hx : ∀ env v e, ix env = some (v, e) → e = env) : AsgOk [s] (aSub s ix) := fun x env env' e => by
  obtain ⟨⟨k0, ys⟩, e0, e⟩ := Option.bind_eq_some_iff.mp e
  obtain ⟨⟨v, e1⟩, ev, e⟩ := Option.bind_eq_some_iff.mp e
  cases hx _ _ _ ev
  dsimp only at e
  split at e
  · obtain ⟨⟨kk, xs⟩, es, e⟩ := Option.bind_eq_some_iff.mp e
    obtain ⟨j, hj, e⟩ := Option.map_eq_some_iff.mp e
    cases e
    exact ⟨fun i hi => List.getElem?_set_ne (fun z => hi (by rw [z]; exact List.mem_singleton.mpr rfl)), List.length_set⟩
  · cases e
/-! ### x[i] op= v -/
def rGetL (K : PySem.W.Frag) : V → V → Hp → VK → Prop := fun x y H Q => ∃ p xs i v, x = .ref p ∧ y = .int i ∧ SqL K H p xs ∧ atI xs i = some v ∧ Q v H
theorem get_list {X : Cx} : PGet X (rGetL X.K) := by
  intro pins s σ H x y v u Q I rx ry h
  obtain ⟨p, xs, i, z, rfl, rfl, hq, he, q⟩ := h
  cases rx
  obtain ⟨t, rfl⟩ := ry
  obtain ⟨its, r, pl, hz⟩ := I.list hq
  obtain ⟨j, h1, h2, h3, h4, h5⟩ := atI_get he
  obtain ⟨w, ew, rw'⟩ := r.get h2
  have hl := r.length
  have hn := line63
  have fin : EP X pins σ Q w s := ⟨z, H, I, rw', q⟩
  by_cases h0 : 0 ≤ i
  · have hj : i.toNat = j := by
      rw [seqIndex_of h0 h5] at h1
      exact Option.some.inj h1
    exact wpAny_getItem_list pl.isList h0 (by omega) (by rw [hj]; simpa using ew) fin
  · have hj : (i + (its.toArray.size : Int)).toNat = j := by
      rw [seqIndex_neg (by omega) h4] at h1
      rw [List.size_toArray, ← hl]
      exact Option.some.inj h1
    exact wpAny_getItem_list_neg pl.isList (by omega) (by rw [List.size_toArray] <;> omega) (by omega) (by rw [hj]; simpa using ew) fin
def dAugS (s : Nat) (ix : DE) (f : Int → Int → Int) (a : DE) : DS := fun env => (ownL env s).bind fun _ => (ix env).bind fun p => match p.1 with
  | .d (.int k) => (ownL p.2 s).bind fun o => match atI o.2 k with
    | some (.int x) => (a p.2).bind fun q => match q.1 with
      | .d (.int y) => (ownL q.2 s).bind fun o2 => (ixN o2.2.length k).map fun j => (.nx, q.2.set s (.o o2.1 (.l (o2.2.set j (.int (f x y))))))
      | _ => none
    | _ => none
  | _ => none
theorem ss_augS {s : Nat} {ti te : TE} {ix a : DE} {f : Int → Int → Int} (hi : SE K ti ix) (ha : SE K te a) : SS K (tAugS (tVar s) ti te (rGetL K) (ipI f) rSetL) (dAugS s ix f a) := by
  intro pa tmp σ H env I fl env' e E q
  obtain ⟨⟨k0, ys⟩, e0, e⟩ := Option.bind_eq_some_iff.mp e
  obtain ⟨⟨v, e1⟩, ev, e⟩ := Option.bind_eq_some_iff.mp e
  dsimp only at e
  split at e
  · rename_i k
    obtain ⟨⟨kk, xs⟩, es, e⟩ := Option.bind_eq_some_iff.mp e
    dsimp only at e
    split at e
    · rename_i x hx
      obtain ⟨⟨w, e2⟩, ew, e⟩ := Option.bind_eq_some_iff.mp e
      dsimp only at e
      split at e
      · rename_i y
        obtain ⟨⟨k2, zs⟩, es2, e⟩ := Option.bind_eq_some_iff.mp e
        obtain ⟨j, hj, e⟩ := Option.map_eq_some_iff.mp e
        cases e
        obtain ⟨p, h1, _⟩ := I.own s k0 _ (ownL_at e0)
        refine ⟨_, h1, hi pa tmp σ H env I _ e1 ev _ fun w1 H1 t1 s1 I1 p1 => ?_⟩
        cases p1
        have I1' := I1.less s1.inc
        have s1' := s1.less s1.inc fun _ h => h
        obtain ⟨p', h1', ⟨vs, h2, h3⟩, _⟩ := I1'.own s kk _ (ownL_at es)
        rw [h1] at h1'
        cases h1'
        obtain ⟨vx, h4, h5⟩ := atI_sh h3 hx
        cases h5
        refine ⟨p, vs, k, _, rfl, rfl, .inl (.inl h2), h4, ha pa tmp σ H1 e1 I1' _ e2 ew _ fun w2 H2 t2 s2 I2 p2 => ?_⟩
        cases p2
        have I2' := I2.less s2.inc
        have s2' := s2.less s2.inc fun _ h => h
        obtain ⟨p', h1', ⟨vs2, h6, h7⟩, _⟩ := I2'.own s k2 _ (ownL_at es2)
        rw [h1] at h1'
        cases h1'
        obtain ⟨I3, s3⟩ := I2'.setB (o := .lst (vs2.set j (.int (f x y)))) (b' := .l (zs.set j (.int (f x y)))) (ownL_at es2) h1 (boxL (ShAll.set (.int _) h7 j))
        exact ⟨x, y, rfl, rfl, p, vs2, k, j, rfl, rfl, h6, by rw [h7.length]; exact hj, q σ _ ((s1'.trans s2').trans s3).sp2 I3⟩
      · cases e
    · cases e
  · cases e
/-! ### x.append(v) -/
def dApp (s : Nat) (a : DE) : DS := fun env => (ownL env s).bind fun _ => (a env).bind fun p => (asD p.1).bind fun d => (ownL p.2 s).bind fun o => if szOk (o.2.length + 1) then some (.nx, p.2.set s (.o o.1 (.l (o.2 ++ [d])))) else none
theorem ss_app {s : Nat} {te : TE} {a : DE} (ha : SE K te a) : SS K (tDrop (tBM K "list" rAppend (tVar s) (tCons te tNil))) (dApp s a) := by
  intro pa tmp σ H env I fl env' e E q
  obtain ⟨⟨k0, ys⟩, e0, e⟩ := Option.bind_eq_some_iff.mp e
  obtain ⟨⟨v, e1⟩, ev, e⟩ := Option.bind_eq_some_iff.mp e
  obtain ⟨d, ed, e⟩ := Option.bind_eq_some_iff.mp e
  obtain ⟨⟨kk, xs⟩, es, e⟩ := Option.bind_eq_some_iff.mp e
  split at e
  · rename_i hz
    cases e
    obtain ⟨p, h1, ⟨vs0, hp0, _⟩, _⟩ := I.own s k0 _ (ownL_at e0)
    refine ⟨_, h1, .inl ⟨rfl, vs0, .inl (.inl hp0)⟩, ha pa tmp σ H env I _ e1 ev _ fun u H1 t1 s1 I1 p1 => ?_⟩
    have hd := asD_at I1 s1.inc p1 ed
    have I1' := I1.less s1.inc
    have s1' := s1.less s1.inc fun _ h => h
    obtain ⟨p', h1', ⟨vs, h2, h3⟩, _⟩ := I1'.own s kk _ (ownL_at es)
    rw [h1] at h1'
    cases h1'
    obtain ⟨I2, s2⟩ := I1'.setB (o := .lst (vs ++ [u])) (b' := .l (xs ++ [d])) (ownL_at es) h1 (boxL (h3.append (.cons hd .nil)))
    have hl := h3.length
    have hz' := szOk_le hz
    dsimp only at hz'
    exact ⟨p, vs, u, rfl, rfl, h2, by omega, q σ _ (s1'.trans s2).sp2 I2⟩
  · cases e

/-! ### divmod, sums of tuples, repr -/
def fDivmod : List Val → DE := fun vs env => match vs with
  | [.d (.int i), .d (.int j)] => if 0 < j ∧ Builtin.divisionGoesByPylong i j = false then some (.d (.tuple [.int (i / j), .int (i % j)]), env) else none
  | _ => none
theorem rs_divmod : RS K (fun xs H Q => ∃ i j, xs = [.int i, .int j] ∧ CDivP i j ∧ ∀ p, H p = none → Q (.ref p) (upd H p (.tup [.int (i / j), .int (i % j)]))) fDivmod := by
  intro pa tmp0 tmp σ H env I h0 us vs p val env' e Q q
  unfold fDivmod at e
  split at e
  · rename_i i j
    split at e
    · rename_i hc
      cases e
      match us, p with
      | [u1, u2], p =>
        obtain ⟨p1, p2, _⟩ := p
        cases p1
        cases p2
        refine ⟨i, j, rfl, hc, fun l hl => ?_⟩
        obtain ⟨s2, I2, h4⟩ := tup_new (tmp := tmp) (us := [.int (i / j), .int (i % j)]) (ds := [.int (i / j), .int (i % j)]) I (fun _ h => h) (.cons (.int _) (.cons (.int _) .nil)) hl
        exact q _ _ tmp s2 I2 h4
    · cases e
  · cases e
theorem pylong_small {i j : Int} (h : j.natAbs < 2 ^ 8999) : Builtin.divisionGoesByPylong i j = false := by
  unfold Builtin.divisionGoesByPylong
  have hl : j.natAbs.log2 < 8999 ∨ j.natAbs = 0 := by
    by_cases h0 : j.natAbs = 0
    · exact .inr h0
    · exact .inl ((Nat.log2_lt h0).mpr h)
  have hd : ¬ ((if (j == 0) = true then 0 else j.natAbs.log2 / 30 + 1) > 300) := by
    split
    · omega
    · rename_i hj
      rcases hl with hl | hl
      · omega
      · exact absurd (by simpa using hl) hj
  simp only [decide_eq_false hd, Bool.false_and]
/-- repr of lists and tuples -/
def isSeqD : D → Bool
  | .list _ => true
  | .tuple _ => true
  | _ => false
def showOk (d : D) : Bool := isSeqD d && d.showable && decide (d.depth ≤ 60) && szOk d.shown.length && !d.hasDict
def gRepr : En → Val → Option D := fun _ v => (asD v).bind fun d => if showOk d then some (.str d.shown) else none
def rRepr (K : PySem.W.Frag) : List V → Hp → VK → Prop := fun xs H Q => ∃ a d, xs = [V.ref a] ∧ Dp K H (.ref a) d ∧ showOk d = true ∧ Q (.str d.shown) H
mutual
theorem dp_nodict {H : Hp} : ∀ {v : V} {d : D}, Dp K H v d → d.hasDict = false
  | _, _, .non => rfl
  | _, _, .bl _ => rfl
  | _, _, .int _ => rfl
  | _, _, .str _ => rfl
  | _, _, .lst _ r => by show PyData.hasDictAll _ = false; exact dps_nodict r
  | _, _, .tup _ r => by show PyData.hasDictAll _ = false; exact dps_nodict r
theorem dps_nodict {H : Hp} : ∀ {vs : List V} {ds : List D}, DpAll K H vs ds → PyData.hasDictAll ds = false
  | _, _, .nil => rfl
  | _, _, .cons h r => by
    show (_ || _) = false
    rw [dp_nodict h, dps_nodict r]
    rfl
end
theorem call_repr {X : Cx} (hg : X.A.guards = some []) (hu : X.A.units + 64 < cLine) : CallR X (.builtin "repr") (rRepr X.K) := by
  intro pins s σ H xs us Q I r h
  obtain ⟨a, d, rfl, hd, ok, q⟩ := h
  rw [Vals.ref1 r]
  obtain ⟨as, rd⟩ := Dp.reads I d (.ref a) (.ref a) hd rfl
  unfold showOk at ok
  rw [Bool.and_eq_true, Bool.and_eq_true, Bool.and_eq_true, Bool.and_eq_true] at ok
  obtain ⟨⟨⟨⟨_, hs⟩, hdep⟩, hz⟩, _⟩ := ok
  have hdep' := of_decide_eq_true hdep
  exact repr_of_reads' rd hs (fun z => by rw [dp_nodict hd] at z; cases z) hg (by omega) (fun _ _ e => e) (fun h' u tk hk => ⟨.str d.shown, H, I.kept hk, ⟨_, rfl⟩, q⟩) (szOk_le hz)
theorem rs_repr : RS K (rRepr K) (f1 gRepr) := rs_f1 fun pa tmp0 tmp σ H env I h0 u v z p e => by
  obtain ⟨d, ed, e⟩ := Option.bind_eq_some_iff.mp e
  split at e
  · rename_i ok
    cases e
    have hsh := asD_at I h0 p ed
    have hd := hsh.dp (by
      have := ((Bool.and_eq_true _ _).mp ok).2
      simpa using this)
    have hr : ∃ a, u = .ref a := by
      unfold showOk at ok
      rw [Bool.and_eq_true, Bool.and_eq_true, Bool.and_eq_true, Bool.and_eq_true] at ok
      have h1 := ok.1.1.1.1
      cases hsh <;> first | exact ⟨_, rfl⟩ | cases h1
    obtain ⟨a, rfl⟩ := hr
    exact ⟨_, .str _, fun Q q => ⟨a, d, rfl, hd, ok, q⟩⟩
  · cases e
/-- sum of a tuple -/
theorem sum_tup_raw {prog : Program} {w : World} {A : Around} {E : Value → Shared → Prop} {s : Shared} {t : Addr} {its : List Value} {ns : List Int} {Q : Value → Shared → Prop} (hh : A.handled = none) (hl : s.heap.IsTuple t its.toArray) (hi : IntsAre its ns)
    (h : ∀ h' tk t', (∀ b o, s.heap.get? b = some o → h'.get? b = some o) → Q (.int ns.sum t') { s with heap := h', toks := tk }) : wpAny (model prog w) A (call (.builtin "sum") [.ref t]) Q E s := by
  obtain ⟨xs, e⟩ := hi.allInts.items
  have hn : numsOf (intItems xs).toList = ns := by rw [← e]; exact hi.numsOf
  rw [nums_intItems] at hn
  rw [e] at hl
  have ht : t < s.heap.objs.size := by
    obtain ⟨o, ho, _⟩ := hl
    exact Heap.lt_size ho
  refine call_sum_walkG (wpAny_pyIter_tuple hl ?_)
  refine ⟨_, [_, t], [_], _, _, _, numAt xs, rfl, Walks.tuple (A := A.in1) hh _ t (Nat.ne_of_lt ht) (intItems xs), ⟨⟨_, Heap.get?_push_size _ rfl, rfl, rfl⟩, hl.push _⟩, fun c hc => ?_, fun _ _ => intItems_at, fun h' tk t' hk => ?_⟩
  · rw [Heap.size_push]
    rcases List.mem_cons.mp hc with rfl | hc
    · exact Nat.lt_succ_self _
    · rcases List.mem_cons.mp hc with rfl | hc
      · exact Nat.lt_succ_of_lt ht
      · cases hc
  · have hold : ∀ c o, s.heap.get? c = some o → h'.get? c = some o := fun c o e => by
      refine hk c o (fun hm => ?_) (Heap.get?_push_of_some _ e)
      rcases List.mem_cons.mp hm with e1 | hm
      · exact absurd (e1 ▸ Heap.lt_size e) (Nat.lt_irrefl _)
      · cases hm
    have := h h' tk t' hold
    rw [show (intItems xs).size = xs.size by simp [intItems], preSum_eq, List.take_of_length_le (by simp), hn]
    exact this
def rSumA (K : PySem.W.Frag) : List V → Hp → VK → Prop := fun vs H Q => ∃ (a : Addr) (ns : List Int), vs = [V.ref a] ∧ (SqL K H a (ns.map V.int) ∨ SqT K H a (ns.map V.int)) ∧ Q (.int ns.sum) H
theorem call_sumA {X : Cx} (hc : X.calm = true) : CallR X (.builtin "sum") (rSumA X.K) := by
  intro pins s σ H vs us Q I r h
  obtain ⟨a, ns, rfl, hs, q⟩ := h
  rcases hs with hs | hs
  · exact cr_sum hc pins s σ H _ us Q I r ⟨a, ns, rfl, hs, q⟩
  · obtain ⟨its, rv, hl, _⟩ := I.tuple hs
    rw [Vals.ref1 r]
    exact sum_tup_raw (I.ok.hd hc) hl rv.ints fun h' tk t' hk => ⟨.int _, H, I.kept hk, ⟨_, rfl⟩, q⟩
def seqOf (env : En) (v : Val) : Option (List D) := match tupOf v with
  | some xs => some xs
  | none => listOf env v
theorem seqOf_at {pa : Nat → Option Addr} {tmp0 tmp : Addr → Prop} {σ : L2.St} {H : Hp} {env : En} {u : V} {v : Val} {xs : List D} (I : Okk K pa tmp H σ env) (h : PostV K tmp0 tmp H σ env u v) (e : seqOf env v = some xs) :
    ∃ p vs, u = .ref p ∧ (SqL K H p vs ∨ SqT K H p vs) ∧ ShAll K (Nb tmp σ env) H vs xs := by
  unfold seqOf at e
  split at e
  · rename_i ys ey
    cases e
    obtain ⟨p, vs, h1, h2, h3⟩ := tupOf_at h ey
    exact ⟨p, vs, h1, .inr h2, h3⟩
  · obtain ⟨p, vs, h1, h2, h3⟩ := listOf_at I h e
    exact ⟨p, vs, h1, .inl h2, h3⟩
def gSumA : En → Val → Option D := fun env v => (seqOf env v).bind fun xs => (intsOf xs).map fun ns => .int ns.sum
theorem rs_sumA : RS K (rSumA K) (f1 gSumA) := rs_f1 fun pa tmp0 tmp σ H env I h0 u v z p e => by
  obtain ⟨xs, ex, e⟩ := Option.bind_eq_some_iff.mp e
  obtain ⟨ns, en, e⟩ := Option.map_eq_some_iff.mp e
  cases e
  obtain ⟨a, ws, h1, h2, h3⟩ := seqOf_at I p ex
  rw [intsOf_eq en] at h3
  rw [h3.ints] at h2
  subst h1
  exact ⟨_, .int _, fun Q q => ⟨a, ns, rfl, h2, q⟩⟩
/-! ### in, not in: flat items -/
def flatD : D → Bool
  | .none => true
  | .bool _ => true
  | .int _ => true
  | .str _ => true
  | _ => false
theorem flat_sh {ok : Addr → Prop} {H : Hp} {v : V} {d : D} (h : Sh K ok H v d) (f : flatD d = true) : flatV v = true := by
  cases h <;> first | rfl | cases f
theorem flats_sh {ok : Addr → Prop} {H : Hp} : ∀ {vs : List V} {ds : List D}, ShAll K ok H vs ds → ds.all flatD = true → vs.all flatV = true
  | _, _, .nil, _ => rfl
  | _, _, .cons h r, f => by
    rw [List.all_cons, Bool.and_eq_true] at f ⊢
    exact ⟨flat_sh h f.1, flats_sh r f.2⟩
/-- ints among ints; else nothing is told -/
def fIn (neg : Bool) : Val → Val → DE := fun x y env => match x with
  | .d (.int i) => (seqOf env y).bind fun xs => (intsOf xs).map fun ns => (.d (.bool (if neg then !ns.contains i else ns.contains i)), env)
  | _ => none
theorem inV_ints (i : Int) : ∀ ns : List Int, inV (.int i) (ns.map V.int) = ns.contains i
  | [] => rfl
  | n :: ns => by
    have ih := inV_ints i ns
    show (eqV (.int n) (.int i) || inV (.int i) (ns.map V.int)) = _
    rw [ih, List.contains_cons]
    congr 1
    show decide (n = i) = _
    by_cases h : n = i
    · subst h; simp
    · have h' : ¬ i = n := fun z => h z.symm
      simp [h, h']
theorem flat_ints : ∀ ns : List Int, (ns.map V.int).all flatV = true
  | [] => rfl
  | _ :: ns => by rw [List.map_cons, List.all_cons, flat_ints ns]; rfl
theorem r2_in {neg : Bool} : R2S K (rIn K neg) (fIn neg) := by
  intro pa tmp0 tmp σ H env I h0 u1 v1 u2 v2 p1 p2 val env' e Q q
  unfold fIn at e
  split at e
  · rename_i i
    obtain ⟨xs, ex, e⟩ := Option.bind_eq_some_iff.mp e
    obtain ⟨ns, en, e⟩ := Option.map_eq_some_iff.mp e
    cases e
    cases p1
    obtain ⟨a, ws, h1, h2, h3⟩ := seqOf_at I p2 ex
    rw [intsOf_eq en] at h3
    rw [h3.ints] at h2
    subst h1
    refine ⟨a, ns.map V.int, rfl, h2, rfl, flat_ints ns, ?_⟩
    rw [inV_ints]
    exact q _ H tmp .refl I (.bl _)
  · cases e
end
end DL
end
section
set_option Elab.async false
set_option linter.all false
set_option maxRecDepth 100000
/-! Calls that hand a new box on, calls with keywords, forgetting, walks over pairs. -/
namespace DL
open PySem PySem.Spec PyProof.Rows L2
section
variable {K : PySem.W.Frag}
/-! ### f(new box, data ..) -/
def pureDs : List Val → Option (List D)
  | [] => some []
  | .d x :: vs => (pureDs vs).map fun ds => x :: ds
  | _ => none
theorem pureDs_at {tmp0 tmp : Addr → Prop} {σ : L2.St} {H : Hp} {env : En} : ∀ {us : List V} {vs : List Val} {ds : List D}, PVs K tmp0 tmp H σ env us vs → pureDs vs = some ds → ShAll K (Nb tmp σ env) H us ds
  | [], [], ds, _, e => by cases e; exact .nil
  | u :: us, .d x :: vs, ds, h, e => by
    obtain ⟨r, er, e⟩ := Option.map_eq_some_iff.mp (show (pureDs vs).map (fun ds => x :: ds) = some ds from e)
    cases e
    exact .cons h.1 (pureDs_at h.2 er)
  | u :: us, .f b :: vs, _, _, e => by cases e
  | u :: us, .b i :: vs, _, _, e => by cases e
  | [], _ :: _, _, h, _ => h.elim
  | _ :: _, [], _, h, _ => h.elim
def callO (F : FD) : List Val → DE := fun vals env => match vals with
  | .f b :: rest => (pureDs rest).bind fun ds => (F (.o (some 0) b :: ds.map .d)).bind fun r => (retV r.1).map fun v => (v, env)
  | _ => none
theorem callO_inv {F : FD} {vs : List Val} {env env' : En} {val : Val} (e : callO F vs env = some (val, env')) : ∃ b rest ds ret outs, vs = .f b :: rest ∧ pureDs rest = some ds ∧ F (.o (some 0) b :: ds.map .d) = some (ret, outs) ∧ retV ret = some val ∧ env' = env := by
  unfold callO at e
  split at e
  · rename_i b rest
    obtain ⟨ds, ed, e⟩ := Option.bind_eq_some_iff.mp e
    obtain ⟨⟨ret, outs⟩, ef, e⟩ := Option.bind_eq_some_iff.mp e
    obtain ⟨v, evv, e⟩ := Option.map_eq_some_iff.mp e
    cases e
    exact ⟨b, rest, ds, ret, outs, rfl, ed, ef, evv, rfl⟩
  · cases e
def dCallO (F : FD) (a : DA) : DE := fun env => (a env).bind fun p => callO F p.1 p.2
theorem se_fnO {n : Nat} {F : FD} (hF : ∀ cells r, F cells = some r → cells.length = n) {ta : TA} {a : DA} {E : XK} (ha : SA K ta a) : SE K (tCall (spF K n F) [] E ta) (dCallO F a) := by
  intro pa tmp σ H env I val env' e Q q
  obtain ⟨⟨vs, e1⟩, ev, e⟩ := Option.bind_eq_some_iff.mp e
  refine ha pa tmp σ H env I vs e1 ev _ fun us H1 t1 s1 I1 p1 => ?_
  rw [List.append_nil]
  obtain ⟨b, rest, ds, ret, outs, rfl, ed, ef, evv, rfl⟩ := callO_inv e
  clear e
  · match us, p1 with
    | u0 :: us, p1 =>
      obtain ⟨p, rfl, tp, ntp, nsl, hb⟩ := p1.1
      have hs := pureDs_at p1.2 ed
      have hp0 : H p = none := by
        rcases s1.new p tp with z | z
        · exact absurd z ntp
        · exact z
      have iff : ∀ j a, Owd ((V.ref p :: us).map some) (.o (some 0) b :: ds.map .d) j a ↔ j = 0 ∧ a = p := fun j a => by
        constructor
        · rintro ⟨⟨k', b', e⟩, es⟩
          cases j with
          | zero => cases es; exact ⟨rfl, rfl⟩
          | succ j =>
            have e' : (ds.map Cl.d)[j]? = some (Cl.o k' b') := by simpa using e
            obtain ⟨x, _, z⟩ := mapd_at e'
            cases z
        · rintro ⟨rfl, rfl⟩
          exact ⟨⟨_, _, rfl⟩, rfl⟩
      have g : Go (Nb t1 σ env') (Nb (fun a => Ownd t1 σ env' a ∧ a ≠ p) ((V.ref p :: us).map some) (.o (some 0) b :: ds.map .d)) H1 H1 := fun a o ea h => ⟨ea, fun z => by
        rcases z with ⟨j, z⟩ | z
        · obtain ⟨_, z⟩ := (iff j a).mp z
          rw [z] at h
          exact h (.inr tp)
        · exact h z.1⟩
      have Ia : Okk K (fun j => if j = 0 then some p else none) (fun a => Ownd t1 σ env' a ∧ a ≠ p) H1 ((V.ref p :: us).map some) (.o (some 0) b :: ds.map .d) := by
        refine ⟨?_, fun j x e => ?_, fun j k' b' e => ?_, fun j l a h1 h2 => by rw [((iff j a).mp h1).1, ((iff l a).mp h2).1], fun a z => ?_⟩
        · rw [List.length_map, List.length_cons, List.length_cons, List.length_map, hs.length]
        · cases j with
          | zero => cases e
          | succ j =>
            have e' : (ds.map Cl.d)[j]? = some (Cl.d x) := by simpa using e
            obtain ⟨y, ey, z⟩ := mapd_at e'
            cases z
            obtain ⟨v, h1, h2⟩ := hs.get' ey
            exact ⟨v, by rw [List.getElem?_map, List.getElem?_cons_succ, h1]; rfl, h2.goes g⟩
        · cases j with
          | zero =>
            cases e
            exact ⟨p, rfl, hb.goes g rfl, fun z => z.2 rfl, fun l hl => by cases hl; rfl⟩
          | succ j =>
            have e' : (ds.map Cl.d)[j]? = some (Cl.o k' b') := by simpa using e
            obtain ⟨y, ey, z⟩ := mapd_at e'
            cases z
        · rcases z.1 with z | z
          · exact I1.slotTracked z
          · exact I1.tin a z
      have hlen : (V.ref p :: us).length = n := by
        have := hF _ _ ef
        rw [List.length_cons, List.length_map] at this
        rw [List.length_cons, hs.length]
        exact this
      refine ⟨hlen, _, _, _, fun j r h => ?_, Ia, ret, outs, ef, fun u H' t' s' I' p' => ?_⟩
      · by_cases hj : j = 0
        · subst hj
          rw [if_pos rfl] at h
          cases h
          exact ⟨rfl, _, _, rfl⟩
        · rw [if_neg hj] at h
          cases h
      have keep : ∀ a o, H1 a = some o → a ≠ p → H' a = some o := fun a o ea n => s'.keep a o ea fun ⟨j, z⟩ => n ((iff j a).mp z).2
      have nslE : ¬ Slt σ env p := notSlot_none I hp0
      have sp : ∀ {tx : Addr → Prop}, (∀ a, tmp a → tx a) → (∀ a, tx a → tmp a ∨ H a = none) → Sp1 σ env env' tmp tx H H' := fun {tx} h1 h2 =>
        ⟨fun a o ea na => keep a o (s1.keep a o ea na) (ne_of_none ea hp0), s1.sub, h1, h2, fun a h => s'.trk a (s1.trk a h)⟩
      -- for what was there
      have g0 : ∀ {tx : Addr → Prop}, (∀ a, tx a → tmp a ∨ H1 a = none) → Go (Nb t1 σ env') (Nb tx σ env') H1 H' := fun {tx} hx a o ea h => by
        have n : a ≠ p := fun z => h (by rw [z]; exact .inr tp)
        refine ⟨keep a o ea n, fun z => ?_⟩
        rcases z with z | z
        · exact h (.inl z)
        · rcases hx a z with z | z
          · exact h (.inr (s1.inc a z))
          · rw [ea] at z; cases z
      have mk : ∀ {tx : Addr → Prop}, (∀ a, tx a → tmp a ∨ H1 a = none) → (∀ a, tx a → H' a ≠ none) → Okk K pa tx H' σ env' := fun {tx} h1 h3 => by
        refine ⟨I1.len, fun j x e => ?_, fun j kx bx e => ?_, I1.inj, h3⟩
        · obtain ⟨w, a1, a2⟩ := I1.dat j x e
          exact ⟨w, a1, a2.goes (g0 h1)⟩
        · obtain ⟨r, a1, a2, a3, a4⟩ := I1.own j kx bx e
          have n : r ≠ p := fun z => nsl ⟨j, ⟨⟨kx, bx, e⟩, by rw [a1, z]⟩⟩
          obtain ⟨o, eo⟩ := a2.tracked
          refine ⟨r, a1, a2.goes (g0 h1) ((keep r o eo n).trans eo.symm), fun z => ?_, a4⟩
          rcases h1 r z with z | z
          · exact a3 (s1.inc r z)
          · rw [eo] at z; cases z
      -- for what the callee tells
      have g1 : ∀ {tx : Addr → Prop}, (∀ a, tx a → (tmp a ∨ t' a)) → Go (Nb t' ((V.ref p :: us).map some) outs) (Nb tx σ env') H' H' := fun {tx} hx a o ea h => ⟨ea, fun z => by
        rcases z with z | z
        · exact h (.inr (s'.inc a ⟨.inl z, fun q => nsl (by rw [← q]; exact z)⟩))
        · rcases hx a z with z | z
          · exact h (.inr (s'.inc a ⟨.inr (s1.inc a z), fun q => ntp (by rw [← q]; exact z)⟩))
          · exact h (.inr z)⟩
      cases ret with
      | d x =>
        cases evv
        exact q u H' tmp (sp (fun _ h => h) fun _ h => .inl h) (mk (fun _ h => .inl h) fun a h => s'.trk a (I1.tin a (s1.inc a h))) (Sh.goes (g1 fun a z => .inl z) p')
      | f bx =>
        cases evv
        obtain ⟨r, h1, h2, h3, h4, h5⟩ := p'
        have hr : H r = none ∧ (r = p ∨ H1 r = none) := by
          rcases s'.new r h2 with z | z
          · exact absurd z h3
          · refine ⟨?_, .inr z⟩
            cases e : H r with
            | none => rfl
            | some o => exact absurd z (s1.trk r (by rw [e]; exact nofun))
        obtain ⟨o, eo⟩ := h5.tracked
        have hr1 : H1 r = none := by
          rcases s'.new r h2 with z | z
          · exact absurd z h3
          · exact z
        have nr : ¬ Slt σ env' r := fun z => I1.slotTracked z hr1
        have nt : ¬ tmp r := fun z => I1.tin r (s1.inc r z) hr1
        refine q u H' (mor tmp r) (sp (fun _ h => .inl h) fun a h => h.imp id fun z => by rw [z]; exact hr.1) (mk (fun a h => h.imp id fun z => by rw [z]; exact hr1) fun a h => ?_) ⟨r, h1, .inr rfl, nt, nr, h5.goes (g1 fun a z => z.imp id fun z => by rw [z]; exact h2) rfl⟩
        rcases h with h | h
        · exact s'.trk a (I1.tin a (s1.inc a h))
        · rw [h, eo]; exact nofun
      | b j => cases evv
    | [], p1 => exact p1.elim
/-! ### calls with keywords: the arguments in another order -/
def permL (π : List Nat) (xs : List V) : List V := π.filterMap fun (i : Nat) => xs[i]?
def permV (π : List Nat) (xs : List Val) : List Val := π.filterMap fun (i : Nat) => xs[i]?
theorem PVs.app {t0 tmp : Addr → Prop} {H : Hp} {σ : L2.St} {env : En} : ∀ {us : List V} {vs : List Val} {us' : List V} {vs' : List Val}, PVs K t0 tmp H σ env us vs → PVs K t0 tmp H σ env us' vs' → PVs K t0 tmp H σ env (us ++ us') (vs ++ vs')
  | [], [], _, _, _, h => h
  | _ :: _, _ :: _, _, _, h, h' => ⟨h.1, PVs.app h.2 h'⟩
  | [], _ :: _, _, _, h, _ => h.elim
  | _ :: _, [], _, _, h, _ => h.elim
theorem PVs.get {t0 tmp : Addr → Prop} {H : Hp} {σ : L2.St} {env : En} : ∀ {us : List V} {vs : List Val} (i : Nat), PVs K t0 tmp H σ env us vs → (us[i]? = none ∧ vs[i]? = none) ∨ ∃ u v, us[i]? = some u ∧ vs[i]? = some v ∧ PostV K t0 tmp H σ env u v
  | [], [], _, _ => .inl ⟨rfl, rfl⟩
  | _ :: _, _ :: _, 0, h => .inr ⟨_, _, rfl, rfl, h.1⟩
  | _ :: us, _ :: vs, i + 1, h => by
    rw [List.getElem?_cons_succ, List.getElem?_cons_succ]
    exact PVs.get i h.2
  | [], _ :: _, _, h => h.elim
  | _ :: _, [], _, h => h.elim
theorem PVs.perm {t0 tmp : Addr → Prop} {H : Hp} {σ : L2.St} {env : En} {us : List V} {vs : List Val} (h : PVs K t0 tmp H σ env us vs) : ∀ π : List Nat, PVs K t0 tmp H σ env (permL π us) (permV π vs)
  | [] => trivial
  | i :: π => by
    have ih := PVs.perm h π
    unfold permL permV at ih ⊢
    rcases PVs.get i h with ⟨h1, h2⟩ | ⟨u, v, h1, h2, h3⟩
    · rw [List.filterMap_cons, List.filterMap_cons, h1, h2]
      exact ih
    · rw [List.filterMap_cons, List.filterMap_cons, h1, h2]
      exact ⟨h3, ih⟩
def dCallK (F : FD) (n m : Nat) (π : List Nat) (a b : DA) : DE := fun env => (a env).bind fun p => (b p.2).bind fun q => if p.1.length = n ∧ q.1.length = m then callF F (permV π (p.1 ++ q.1)) q.2 else none
theorem se_fnK {N n m : Nat} {F : FD} {π : List Nat} (hF : ∀ cells r, F cells = some r → cells.length = N) {ta tk : TA} {a b : DA} {E : XK} (ha : SA K ta a) (hb : SA K tk b) : SE K (tCallN n m (spF K N F) (fun vs zs => permL π (vs ++ zs)) E ta tk) (dCallK F n m π a b) := by
  intro pa tmp σ H env I val env' e Q q
  obtain ⟨⟨vs, e1⟩, ev, e⟩ := Option.bind_eq_some_iff.mp e
  obtain ⟨⟨zs, e2⟩, ez, e⟩ := Option.bind_eq_some_iff.mp e
  split at e
  · rename_i hl
    refine ha pa tmp σ H env I vs e1 ev _ fun us H1 t1 s1 I1 p1 => hb pa t1 σ H1 e1 I1 zs e2 ez _ fun ws H2 t2 s2 I2 p2 => ?_
    have inc2 : ∀ p, tmp p → t2 p := fun p h => s2.inc p (s1.inc p h)
    have pp := ((p1.step s2).app (p2.tmp0 s1.inc)).perm π
    refine ⟨p1.len.trans hl.1, p2.len.trans hl.2, ?_⟩
    exact se_fnv hF I2 inc2 pp e fun u H' t' s' I' p' => q u H' t' (((s1.trans s2).less inc2 fun _ h => h).trans s') I' p'
  · cases e
/-! ### what isn't read any more -/
def forget (is : List Nat) (env : En) : En := is.foldl (fun e i => e.set i .un) env
theorem Okk.forget1 {pa : Nat → Option Addr} {tmp : Addr → Prop} {H : Hp} {σ : L2.St} {env : En} (I : Okk K pa tmp H σ env) (i : Nat) : Okk K pa tmp H σ (env.set i .un) ∧ Sp1 σ env (env.set i .un) tmp tmp H H := by
  have hc : ∀ k b, Cl.un ≠ Cl.o k b := fun _ _ z => by cases z
  have sub : ∀ j q, Owd σ (env.set i .un) j q → Owd σ env j q := fun j q h => (owd_set_of hc h).2
  have g : Go (Nb tmp σ env) (Nb tmp σ (env.set i .un)) H H := fun a o ea h => ⟨ea, fun z => h (z.imp (fun ⟨j, q⟩ => ⟨j, sub j a q⟩) id)⟩
  have at_ : ∀ {j : Nat} {c : Cl}, (env.set i .un)[j]? = some c → c ≠ .un → env[j]? = some c := fun {j c} e n => by
    by_cases hj : i = j
    · subst hj
      by_cases hl : i < env.length
      · rw [List.getElem?_set_self hl] at e
        exact absurd (Option.some.inj e).symm n
      · rw [List.getElem?_eq_none (by rw [List.length_set]; omega)] at e
        cases e
    · rwa [List.getElem?_set_ne hj] at e
  refine ⟨⟨by rw [List.length_set]; exact I.len, fun j x e => ?_, fun j k b e => ?_, fun a b q h1 h2 => I.inj a b q (sub a q h1) (sub b q h2), I.tin⟩, ⟨fun _ _ h _ => h, sub, fun _ h => h, fun _ h => .inl h, fun _ h => h⟩⟩
  · obtain ⟨v, h1, h2⟩ := I.dat j x (at_ e nofun)
    exact ⟨v, h1, h2.goes g⟩
  · obtain ⟨q, h1, h2, h3, h4⟩ := I.own j k b (at_ e nofun)
    exact ⟨q, h1, h2.goes g rfl, h3, h4⟩
theorem Okk.forget {pa : Nat → Option Addr} {tmp : Addr → Prop} {H : Hp} {σ : L2.St} : ∀ (is : List Nat) {env : En}, Okk K pa tmp H σ env → Okk K pa tmp H σ (forget is env) ∧ Sp1 σ env (DL.forget is env) tmp tmp H H
  | [], _, I => ⟨I, .refl⟩
  | i :: is, env, I => by
    obtain ⟨I1, s1⟩ := I.forget1 i
    obtain ⟨I2, s2⟩ := Okk.forget is I1
    exact ⟨I2, s1.trans s2⟩
/-- .. behind a statement that goes on -/
def dFg (is : List Nat) (a : DS) : DS := fun env => (a env).map fun p => match p.1 with
  | .nx => (.nx, forget is p.2)
  | f => (f, p.2)
theorem ss_fg {t : TS} {a : DS} {is : List Nat} (ha : SS K t a) : SS K t (dFg is a) := by
  intro pa tmp σ H env I fl env' e E q
  obtain ⟨⟨f1, e1⟩, ex, e⟩ := Option.map_eq_some_iff.mp e
  refine ha pa tmp σ H env I f1 e1 ex _ ?_
  cases f1 with
  | nx =>
    cases e
    exact fun σ' H' s' I' => let ⟨I2, s2⟩ := I'.forget is; q σ' H' (s'.trans s2.sp2) I2
  | bk => cases e; exact q
  | ct => cases e; exact q
  | rt v => cases e; exact q
end
end DL
end
section
set_option Elab.async false
set_option linter.all false
set_option maxRecDepth 100000
/-! Walks over pairs: enumerate, zip, of lists and tuples. -/
namespace DL
open PySem PySem.Spec PyProof.Rows L2 RZ AutoSeq1
theorem meets_enumerate_newT (l : Addr) (items : Array Value) (n : Nat) (dct : Option Addr) (sl : Array (Option Value)) :
    Meets (Builtin.«enumerate.__new__» ⟨[.type "enumerate", .ref l], []⟩) (fun _ R s => s.heap.get? l = some { cls := .type "tuple", dict := dct, data := .seq items n, slots := sl } ∧
      R (.ok (.ret (.ref (s.heap.push { cls := .type "tuple_iterator", data := .fields #[.ref l, .int 0 0] }).objs.size)))
        { s with heap := (s.heap.push { cls := .type "tuple_iterator", data := .fields #[.ref l, .int 0 0] }).push { cls := .type "enumerate", data := .fields #[.none, .bool false, .ref s.heap.objs.size, rawInt 0, .none, .none] } }) :=
  .of_wp fun prog w A R s h => by
    obtain ⟨hp, g, d, tk, os⟩ := s; obtain ⟨hl, h⟩ := h
    have hsub := sub_enumerate
    have hL : Heap.IsTuple (Shared.heap ⟨hp, g, d, tk, os⟩) l items := ⟨_, hl, rfl, n, rfl⟩
    wp_walk using wpAny_loadPart' hl
    refine wpAny_stack_any fun st => wpAny_pure ?_
    split
    · rename_i c _ _ _ _ _
      cases (c == Value.type "enumerate")
      · wp_walk using wpAny_loadPart' hl, wpAny_pyIter_tuple hL
        exact ⟨_, rfl, h⟩
      · wp_walk using wpAny_loadPart' hl, wpAny_pyIter_tuple hL
        exact ⟨_, rfl, h⟩
    · wp_walk using wpAny_loadPart' hl, wpAny_pyIter_tuple hL
      exact ⟨_, rfl, h⟩
section
variable {prog : Program} {w : World} {A : Around} {E : Value → Shared → Prop} {s : Shared}
theorem call_enumerate_tup {l : Addr} {items : Array Value} {Q : Value → Shared → Prop} (hL : IsTup s.heap l items)
    (h : ∀ h', IsEnum h' (s.heap.objs.size + 1) s.heap.objs.size 0 .none → h'.IsTupleIter s.heap.objs.size l 0 → h'.objs.size = s.heap.objs.size + 2 →
      (∀ b o, s.heap.get? b = some o → h'.get? b = some o) → Q (.ref (s.heap.objs.size + 1)) { s with heap := h' }) :
    wpAny (model prog w) A (call (.type "enumerate") [.ref l]) Q E s := by
  obtain ⟨⟨c, dct, dt, sl⟩, hl, hc, n, hd⟩ := hL
  replace hc : c = .type "tuple" := hc
  replace hd : dt = .seq items n := hd
  subst hc hd
  refine callType_new F.called_enumerate (by decide) (F.typeCall_enumerate_1 _) (F.newCall_enumerate_1 _) (fun obj => F.args_object_init_2 obj _) F.entry_enumerate_new
    (meets_enumerate_newT l items n dct sl) ⟨hl, ?_⟩
  have hz : (s.heap.push { cls := .type "tuple_iterator", data := .fields #[.ref l, .int 0 0] }).objs.size = s.heap.objs.size + 1 := Heap.size_push ..
  show _ ∧ _
  rw [hz]
  have he : IsEnum ((s.heap.push { cls := .type "tuple_iterator", data := .fields #[.ref l, .int 0 0] }).push
      { cls := .type "enumerate", data := .fields #[.none, .bool false, .ref s.heap.objs.size, rawInt 0, .none, .none] }) (s.heap.objs.size + 1) s.heap.objs.size 0 .none := by
    have := Heap.get?_push_size (s.heap.push { cls := .type "tuple_iterator", data := .fields #[.ref l, .int 0 0] })
      (o := { cls := .type "enumerate", data := .fields #[.none, .bool false, .ref s.heap.objs.size, rawInt 0, .none, .none] }) rfl
    rw [hz] at this; exact this
  refine ⟨⟨_, he, rfl⟩, h _ he ⟨_, Heap.get?_push_of_some _ (Heap.get?_push_size _ rfl), rfl, rfl⟩ (by rw [Heap.size_push, hz]) fun b o x => Heap.get?_push_of_some _ (Heap.get?_push_of_some _ x)⟩
end
theorem pyNext_enumT_end {prog : Program} {w : World} {A : Around} {E : Value → Shared → Prop} {s : Shared} {e it t : Addr} {i : Nat} {c : Int} {items : Array Value} {old : Value} {Q : Option Value → Shared → Prop} (hh : A.handled = none) (he : IsEnum s.heap e it c old) (hit : s.heap.IsTupleIter it t i) (ht : s.heap.IsTuple t items) (hx : items[i]? = none)
    (hQ : ∀ h', Heap.ExtBut it s.heap h' → Q none { s with heap := h' }) : wpAny (model prog w) A (pyNext (.ref e)) Q E s := by
  have hT : s.TypeIs (.ref e) "enumerate" := ⟨_, he, rfl⟩
  unfold pyNext
  refine wpAny_bind (wpAny_attempt (wpAny_callSpecial?_slot (name := Str.ofString "__next__") hT F.slot_enumerate_next
    (wpAny_call_entry F.slot_enumerate_next hT F.entry_enumerate_next ?_ (F.args_enumerate_next_1 _))))
  show wpAny _ _ (field (.ref e) 2 >>= _) _ _ _
  refine wpAny_bind (wpAny_field he rfl (x := .ref it) rfl ?_)
  refine wpAny_bind (PySem.wpAny_nextOf_tuple_end hh hit ht hx fun h' x he' hx' => ?_)
  obtain ⟨o, ho, hc⟩ := hx'
  refine wpAny_bind (wpAny_isInstance (T := "StopIteration") (b := true) ⟨o, ho, hc⟩ isSubtype_stop ?_)
  exact wpAny_pure (hQ _ he')
/-- the tuple at a, each item in a new pair with its place -/
def IteT (K : PySem.W.Frag) (a : Addr) : It :=
  ⟨fun i H => ∃ (xs : List V) (x : V), SqT K H a xs ∧ xs[i]? = some x, fun i H v H' => ∃ T x, v = .ref T ∧ H T = none ∧ H' = upd H T (.tup [.int (i : Nat), x]) ∧ ∀ xs, SqT K H a xs → xs[i]? = some x, fun i H => ∃ xs : List V, SqT K H a xs ∧ xs.length ≤ i⟩
theorem turn_enumT {P : Program} {w : World} {K : PySem.W.Frag} {elts : List Expr} {kk : Nat} {tpos : Pos} (a e it : Addr) :
    Turn P w K (.Tuple elts kk tpos) (IteT K a) [e, it] e (fun i h => (∃ old, IsEnum h e it ((i : Nat) : Int) old) ∧ h.IsTupleIter it a i ∧ e ≠ it) where
  mem := by simp
  obj := fun i h st b hb => by
    obtain ⟨⟨old, he⟩, ⟨o, ho, hc, hd⟩, _⟩ := st
    have e' : b = e ∨ b = it := by simpa using hb
    rcases e' with z | z
    · rw [z]; exact ⟨_, he, fun v q => nomatch q⟩
    · rw [z]; exact ⟨o, ho, fun v q => by rw [hd] at q; cases q⟩
  keep := fun i h h' st k => let ⟨⟨old, he⟩, hi, hne⟩ := st; ⟨⟨old, k e (by simp) _ he⟩, hi.at fun o q => k it (by simp) o q, hne⟩
  item := by
    intro X hP hw hK hc i pins s σ H E I hf st hg
    subst hP hw hK
    obtain ⟨⟨old, he⟩, hit, hne⟩ := st
    obtain ⟨xs, x, hq, hx⟩ := hg
    obtain ⟨its, rv, p, hz⟩ := I.tuple hq
    obtain ⟨u, hu, ru⟩ := rv.get hx
    have hel : e < s.heap.objs.size := Heap.lt_size he
    have hil : it < s.heap.objs.size := by obtain ⟨_, q, _⟩ := hit; exact Heap.lt_size q
    have pT : s.heap.IsTuple a its.toArray := p
    have hai : a ≠ it := fun z => by
      obtain ⟨o, ho, hc, _⟩ := hit
      obtain ⟨o', ho', hc', _⟩ := pT
      rw [z, ho] at ho'
      cases ho'
      rw [hc] at hc'
      exact absurd (Value.type.inj hc') (by decide)
    have hae : e ≠ a := fun z => by
      obtain ⟨o', ho', hc', _⟩ := pT
      rw [← z] at ho'
      have he' : s.heap.get? e = _ := he
      rw [he'] at ho'
      cases ho'
      exact absurd (Value.type.inj hc') (by decide)
    have hil2 : i < its.toArray.size := by
      have := (List.getElem?_eq_some_iff.mp hu).1
      simpa using this
    refine wpAny_pyNext_enum_itemD (Draws.tuple (A := X.A.in1) (I.ok.hd hc) it a hai its.toArray) he ⟨hit, pT⟩ hil2 hne (by simp [hne, hae]) fun u' h' tk hP ho hs' hT hsz hk => ?_
    have eu : u' = u := by
      have hP' : its.toArray[i]? = some u' := hP
      rw [show its.toArray[i]? = its[i]? by simp, hu] at hP'
      exact (Option.some.inj hP').symm
    subst eu
    refine ⟨_, rfl, wpAny_letOwnedTupleGo_enum (s := { s with heap := h', toks := tk + 1 }) ho fun h'' he' sb => ?_⟩
    have hT2 : h''.get? s.heap.objs.size = some { cls := .type "tuple", data := .seq #[.int i tk, u'] } := (sb.2 _ (Nat.ne_of_gt hel)).trans hT
    have new : ObjOk X.prog X.w (upd H s.heap.objs.size (.tup [.int (i : Nat), x])) h'' s.heap.objs.size (.tup [.int (i : Nat), x]) :=
      ⟨by show 2 ≤ sizeLine; decide, [.int i tk, u'], .cons ⟨_, rfl⟩ (.cons ru .nil), ⟨_, hT2, rfl, _, rfl⟩⟩
    have I1 : Inv X pins σ (upd H s.heap.objs.size (.tup [.int (i : Nat), x])) { s with heap := h'', toks := tk + 1 } :=
      I.turnedNew (ch := [e, it]) (fun b ob hb q => (sb.2 b (fun z => hb (by simp [z]))).trans (hk b ob (fun z => hb (by simp [z])) (fun z => hb (by simp [z])) q)) hf (Nat.le_refl _) new
    refine ⟨.ref s.heap.objs.size, _, I1, rfl, ⟨_, x, rfl, I.hok.fresh (Nat.le_refl _), rfl, fun ys hy => by rw [I.tuple_inj hy hq]; exact hx⟩, ⟨⟨u', ?_⟩, hs'.1.at fun o q => (sb.2 it (Ne.symm hne)).trans q, hne⟩, fun b hb => ?_⟩
    · have e1 : ((i + 1 : Nat) : Int) = (i : Int) + 1 := by omega
      rw [e1]; exact he'
    · have hb' : b < s.heap.objs.size := by
        have e' : b = e ∨ b = it := by simpa using hb
        rcases e' with z | z
        · rw [z]; exact hel
        · rw [z]; exact hil
      rw [upd_ne (Nat.ne_of_lt hb')]
      exact (hf b hb).1
  done := by
    intro X hP hw hK hc i pins s σ H E I hf st hg
    subst hP hw hK
    obtain ⟨⟨old, he⟩, hit, hne⟩ := st
    obtain ⟨xs, hq, hx⟩ := hg
    obtain ⟨its, rv, p, hz⟩ := I.tuple hq
    have pT : s.heap.IsTuple a its.toArray := p
    have hl := rv.length
    obtain ⟨f0, f1, f2, f3, f4, f5⟩ := hf it (by simp)
    have hai : a ≠ it := fun z => by
      obtain ⟨o, ho, hc, _⟩ := hit
      obtain ⟨o', ho', hc', _⟩ := pT
      rw [z, ho] at ho'
      cases ho'
      rw [hc] at hc'
      exact absurd (Value.type.inj hc') (by decide)
    have hii : i = its.toArray.size ∨ its.toArray.size < i := by simp; omega
    refine pyNext_enumT_end (I.ok.hd hc) he hit pT (by simp; omega) fun h' eb => ⟨rfl, I.turned (t' := s.toks) (fun b o hb q => eb b o hb q) f0 f1 f3 f4 f5⟩
  self := fun A i s Q E st h => let ⟨⟨_, he⟩, _⟩ := st; wpAny_pyIter_enum he h

/-- enumerate of a list or a tuple -/
def iEnumA (K : PySem.W.Frag) (ta : TA) : TI := fun σ H R => ta σ H fun vs H1 => ∃ a, vs = [.ref a] ∧ (((∃ xs, SqL K H1 a xs) ∧ R (Ite K a) H1) ∨ ((∃ xs, SqT K H1 a xs) ∧ R (IteT K a) H1))
theorem pi_enumA {X : Cx} {e : Expr} {ta : TA} {p pos tpos : Pos} {elts : List Expr} {kk : Nat} (hg : Gl X "enumerate") (hm : X.mg "enumerate" = none) (ha : PA X [e] ta) (hs : starEach [e] X.env = [(false, eval e X.env)] := by rfl) :
    PI X (.Tuple elts kk tpos) (.Call (.Name "enumerate" p) [e] [] pos) (iEnumA X.K ta) := by
  refine ⟨fun pins s σ H R I h => ?_⟩
  refine Call_ (ld_blt I hg hm boot_enumerate (PyProof.Rows.callWith_type1 (thn (ha.run pos pins s σ H _ I h) fun us s1 ⟨vs, H1, I1, r1, q1⟩ => ?_) hs rfl))
  obtain ⟨a, ex, q⟩ := q1
  subst ex
  cases r1 with
  | cons r rr =>
    cases rr
    cases r
    have hlt : ∀ b, b = s1.heap.objs.size + 1 ∨ b = s1.heap.objs.size → s1.heap.objs.size ≤ b := fun b e' => by
      rcases e' with z | z
      · rw [z]; exact Nat.le_add_right _ _
      · rw [z]; exact Nat.le_refl _
    rcases q with ⟨⟨xs, hq⟩, q⟩ | ⟨⟨xs, hq⟩, q⟩
    · obtain ⟨its, rv, p', hz⟩ := I1.list hq
      refine call_enumerate_list p'.isList fun h' he hit hsz hk => wpAny_pyIter_enum he ?_
      have I2 : Inv X pins σ H1 { s1 with heap := h' } := I1.kept (t' := s1.toks) hk
      refine ⟨s1.heap.objs.size + 1, [s1.heap.objs.size + 1, s1.heap.objs.size], _, _, H1, rfl, I2, turn_enum a (s1.heap.objs.size + 1) s1.heap.objs.size, ⟨⟨.none, he⟩, hit, Nat.succ_ne_self _⟩, fun b hb => ?_, q⟩
      have hle := hlt b (by simpa using hb)
      exact I1.fpOk hle (I1.hok.fresh hle)
    · obtain ⟨its, rv, p', hz⟩ := I1.tuple hq
      refine call_enumerate_tup p' fun h' he hit hsz hk => wpAny_pyIter_enum he ?_
      have I2 : Inv X pins σ H1 { s1 with heap := h' } := I1.kept (t' := s1.toks) hk
      refine ⟨s1.heap.objs.size + 1, [s1.heap.objs.size + 1, s1.heap.objs.size], _, _, H1, rfl, I2, turn_enumT a (s1.heap.objs.size + 1) s1.heap.objs.size, ⟨⟨.none, he⟩, hit, Nat.succ_ne_self _⟩, fun b hb => ?_, q⟩
      have hle := hlt b (by simpa using hb)
      exact I1.fpOk hle (I1.hok.fresh hle)
section
variable {K : PySem.W.Frag}
def enumD (ds : List D) : List D := ds.zipIdx.map fun p => .tuple [.int (p.2 : Int), p.1]
theorem enumD_get {ds : List D} {i : Nat} {d : D} (e : (enumD ds)[i]? = some d) : ∃ x, ds[i]? = some x ∧ d = .tuple [.int (i : Int), x] := by
  unfold enumD at e
  rw [List.getElem?_map, List.getElem?_zipIdx] at e
  obtain ⟨p, e2, rfl⟩ := Option.map_eq_some_iff.mp e
  obtain ⟨x, ex, rfl⟩ := Option.map_eq_some_iff.mp e2
  exact ⟨x, ex, by simp⟩
theorem enumD_len (ds : List D) : (enumD ds).length = ds.length := by
  unfold enumD; rw [List.length_map, List.length_zipIdx]
theorem walk_enum {ok : Addr → Prop} {H : Hp} {a : Addr} {vs : List V} {ds : List D} (h : (Rd H a (.lst vs) ∧ ok a) ∨ KLs K a vs) (r : ShAll K ok H vs ds) : WalkD K (Ite K a) (enumD ds) ok H := fun H1 k => by
  have sq : SqL K H1 a vs := by
    rcases h with ⟨h | ⟨o, h⟩, h2⟩ | h
    · exact .inl (.inl (k _ _ h h2))
    · exact .inl (.inr ⟨o, k _ _ h h2⟩)
    · exact .inr h
  refine ⟨fun i d e => ?_, fun i hi => ⟨vs, sq, by rw [r.length]; rwa [enumD_len] at hi⟩⟩
  obtain ⟨x, ex, rfl⟩ := enumD_get e
  obtain ⟨v, ev, hv⟩ := r.get' ex
  refine ⟨⟨vs, v, sq, ev⟩, fun u H2 y => ?_⟩
  obtain ⟨T, x', rfl, hT, rfl, f⟩ := y
  cases (f vs sq).symm.trans ev
  refine ⟨fun b o eb => grow_upd hT b o eb, .tup (.inl upd_same) (.inr hT) (.cons (.int _) (.cons (hv.goes fun b o eb kb => ⟨grow_upd hT b o (k b o eb kb), .inl ⟨(by rw [eb]; exact nofun), kb⟩⟩) .nil))⟩
theorem walk_enumT {ok : Addr → Prop} {H : Hp} {a : Addr} {vs : List V} {ds : List D} (h : (Rd H a (.tup vs) ∧ ok a) ∨ KTp K a vs) (r : ShAll K ok H vs ds) : WalkD K (IteT K a) (enumD ds) ok H := fun H1 k => by
  have sq : SqT K H1 a vs := by
    rcases h with ⟨h | ⟨o, h⟩, h2⟩ | h
    · exact .inl (.inl (k _ _ h h2))
    · exact .inl (.inr ⟨o, k _ _ h h2⟩)
    · exact .inr h
  refine ⟨fun i d e => ?_, fun i hi => ⟨vs, sq, by rw [r.length]; rwa [enumD_len] at hi⟩⟩
  obtain ⟨x, ex, rfl⟩ := enumD_get e
  obtain ⟨v, ev, hv⟩ := r.get' ex
  refine ⟨⟨vs, v, sq, ev⟩, fun u H2 y => ?_⟩
  obtain ⟨T, x', rfl, hT, rfl, f⟩ := y
  cases (f vs sq).symm.trans ev
  refine ⟨fun b o eb => grow_upd hT b o eb, .tup (.inl upd_same) (.inr hT) (.cons (.int _) (.cons (hv.goes fun b o eb kb => ⟨grow_upd hT b o (k b o eb kb), .inl ⟨(by rw [eb]; exact nofun), kb⟩⟩) .nil))⟩
/-- data that is walked: a tuple, a list of nobody's -/
def walkD : Val → Option (List D)
  | .d (.tuple xs) => some xs
  | .d (.list xs) => some xs
  | .f (.l xs) => some xs
  | _ => none
theorem walkD_at {pa : Nat → Option Addr} {tmp tmp1 : Addr → Prop} {σ : L2.St} {H : Hp} {env : En} {u : V} {v : Val} {ds : List D} (I : Okk K pa tmp1 H σ env) (h0 : ∀ p, tmp p → tmp1 p) (p : PostV K tmp tmp1 H σ env u v) (e : walkD v = some ds) :
    ∃ a vs, u = .ref a ∧ ShAll K (Nb tmp σ env) H vs ds ∧ ((SqL K H a vs ∧ ((Rd H a (.lst vs) ∧ Nb tmp σ env a) ∨ KLs K a vs)) ∨ (SqT K H a vs ∧ ((Rd H a (.tup vs) ∧ Nb tmp σ env a) ∨ KTp K a vs))) := by
  unfold walkD at e
  split at e
  · cases e
    obtain ⟨b, vs, h1, h2, h3, h4⟩ := Sh.tup_inv (Sh.goes (Nb.less h0) p)
    exact ⟨b, vs, h1, h3, .inr ⟨h2, h4⟩⟩
  · cases e
    obtain ⟨b, vs, h1, h2, h3, h4⟩ := Sh.list_inv (Sh.goes (Nb.less h0) p)
    exact ⟨b, vs, h1, h3, .inl ⟨h2, h4⟩⟩
  · cases e
    obtain ⟨b, vs, h1, h2, h3, h4⟩ := Sh.list_inv (asD_at (x := .list ds) I h0 p rfl)
    exact ⟨b, vs, h1, h3, .inl ⟨h2, h4⟩⟩
  · cases e
def dEnum (a : DA) : DI := fun env => (a env).bind fun p => match p.1 with
  | [v] => (walkD v).map fun ds => (enumD ds, p.2)
  | _ => none
theorem si_enum {ta : TA} {a : DA} (ha : SA K ta a) : SI K (iEnumA K ta) (dEnum a) := by
  intro pa tmp σ H env I ds env' e R q
  obtain ⟨⟨vs, e1⟩, ev, e⟩ := Option.bind_eq_some_iff.mp e
  refine ha pa tmp σ H env I vs e1 ev _ fun us H' t' s' I' p' => ?_
  dsimp only at e
  split at e
  · rename_i v
    obtain ⟨xs, ex, e⟩ := Option.map_eq_some_iff.mp e
    cases e
    match us, p' with
    | [u], p' =>
      obtain ⟨b, ws, rfl, h3, h4⟩ := walkD_at I' s'.inc p'.1 ex
      have I2 := I'.less s'.inc
      have s2 := s'.less s'.inc fun _ h => h
      rcases h4 with ⟨h2, h4⟩ | ⟨h2, h4⟩
      · exact ⟨b, rfl, .inl ⟨⟨ws, h2⟩, q _ H' s2 I2 (walk_enum h4 h3)⟩⟩
      · exact ⟨b, rfl, .inr ⟨⟨ws, h2⟩, q _ H' s2 I2 (walk_enumT h4 h3)⟩⟩
  · cases e
/-! zip of two lists, of two tuples -/
def zipD (xs ys : List D) : List D := (xs.zip ys).map fun p => .tuple [p.1, p.2]
theorem zipD_get {xs ys : List D} {i : Nat} {d : D} (e : (zipD xs ys)[i]? = some d) : ∃ x y, xs[i]? = some x ∧ ys[i]? = some y ∧ d = .tuple [x, y] := by
  unfold zipD at e
  rw [List.getElem?_map] at e
  obtain ⟨p, e2, rfl⟩ := Option.map_eq_some_iff.mp e
  obtain ⟨h1, h2⟩ := List.getElem?_zip_eq_some.mp e2
  exact ⟨p.1, p.2, h1, h2, rfl⟩
theorem zipD_len (xs ys : List D) : (zipD xs ys).length = min xs.length ys.length := by
  unfold zipD; rw [List.length_map, List.length_zip]
theorem sqL_keep {ok : Addr → Prop} {H H1 : Hp} {a : Addr} {vs : List V} (k : ∀ a o, H a = some o → ok a → H1 a = some o) (h : (Rd H a (.lst vs) ∧ ok a) ∨ KLs K a vs) : SqL K H1 a vs := by
  rcases h with ⟨h | ⟨o, h⟩, h2⟩ | h
  · exact .inl (.inl (k _ _ h h2))
  · exact .inl (.inr ⟨o, k _ _ h h2⟩)
  · exact .inr h
theorem sqT_keep {ok : Addr → Prop} {H H1 : Hp} {a : Addr} {vs : List V} (k : ∀ a o, H a = some o → ok a → H1 a = some o) (h : (Rd H a (.tup vs) ∧ ok a) ∨ KTp K a vs) : SqT K H1 a vs := by
  rcases h with ⟨h | ⟨o, h⟩, h2⟩ | h
  · exact .inl (.inl (k _ _ h h2))
  · exact .inl (.inr ⟨o, k _ _ h h2⟩)
  · exact .inr h
theorem walk_zip {ok : Addr → Prop} {H : Hp} {a b : Addr} {vs ws : List V} {ds es : List D} (h : (Rd H a (.lst vs) ∧ ok a) ∨ KLs K a vs) (h' : (Rd H b (.lst ws) ∧ ok b) ∨ KLs K b ws) (r : ShAll K ok H vs ds) (r' : ShAll K ok H ws es) : WalkD K (Itz K a b) (zipD ds es) ok H := fun H1 k => by
  have sq := sqL_keep k h
  have sq' := sqL_keep k h'
  refine ⟨fun i d e => ?_, fun i hi => ⟨vs, ws, sq, sq', by rw [zipD_len] at hi; rw [r.length, r'.length]; omega⟩⟩
  obtain ⟨x, y, ex, ey, rfl⟩ := zipD_get e
  obtain ⟨v, ev, hv⟩ := r.get' ex
  obtain ⟨w, ew, hw⟩ := r'.get' ey
  refine ⟨⟨vs, ws, v, w, sq, sq', ev, ew⟩, fun u H2 z => ?_⟩
  obtain ⟨T, x', y', rfl, hT, rfl, f, f'⟩ := z
  have e1 := (f vs sq).symm.trans ev
  have e2 := (f' ws sq').symm.trans ew
  cases e1
  cases e2
  have go : Go ok (fun a => (H a ≠ none ∧ ok a) ∨ H1 a = none) H (upd H1 T (.tup [v, w])) := fun b o eb kb => ⟨grow_upd hT b o (k b o eb kb), .inl ⟨(by rw [eb]; exact nofun), kb⟩⟩
  exact ⟨fun b o eb => grow_upd hT b o eb, .tup (.inl upd_same) (.inr hT) (.cons (hv.goes go) (.cons (hw.goes go) .nil))⟩
theorem walk_zipT {ok : Addr → Prop} {H : Hp} {a b : Addr} {vs ws : List V} {ds es : List D} (h : (Rd H a (.tup vs) ∧ ok a) ∨ KTp K a vs) (h' : (Rd H b (.tup ws) ∧ ok b) ∨ KTp K b ws) (r : ShAll K ok H vs ds) (r' : ShAll K ok H ws es) : WalkD K (ItzT K a b) (zipD ds es) ok H := fun H1 k => by
  have sq := sqT_keep k h
  have sq' := sqT_keep k h'
  refine ⟨fun i d e => ?_, fun i hi => ⟨vs, ws, sq, sq', by rw [zipD_len] at hi; rw [r.length, r'.length]; omega⟩⟩
  obtain ⟨x, y, ex, ey, rfl⟩ := zipD_get e
  obtain ⟨v, ev, hv⟩ := r.get' ex
  obtain ⟨w, ew, hw⟩ := r'.get' ey
  refine ⟨⟨vs, ws, v, w, sq, sq', ev, ew⟩, fun u H2 z => ?_⟩
  obtain ⟨T, x', y', rfl, hT, rfl, f, f'⟩ := z
  have e1 := (f vs sq).symm.trans ev
  have e2 := (f' ws sq').symm.trans ew
  cases e1
  cases e2
  have go : Go ok (fun a => (H a ≠ none ∧ ok a) ∨ H1 a = none) H (upd H1 T (.tup [v, w])) := fun b o eb kb => ⟨grow_upd hT b o (k b o eb kb), .inl ⟨(by rw [eb]; exact nofun), kb⟩⟩
  exact ⟨fun b o eb => grow_upd hT b o eb, .tup (.inl upd_same) (.inr hT) (.cons (hv.goes go) (.cons (hw.goes go) .nil))⟩
def isTupV : Val → Bool
  | .d (.tuple _) => true
  | _ => false
def dZip (a : DA) : DI := fun env => (a env).bind fun p => match p.1 with
  | [v, w] => if isTupV v == isTupV w then (walkD v).bind fun ds => (walkD w).map fun es => (zipD ds es, p.2) else none
  | _ => none
theorem sqLT {H : Hp} {a : Addr} {v : Val} {u : V} {tmp tmp1 : Addr → Prop} {σ : L2.St} {env : En} {ds : List D} (p : PostV K tmp tmp1 H σ env u v) (e : walkD v = some ds) (hv : isTupV v = true) : v = .d (.tuple ds) := by
  unfold isTupV at hv
  split at hv
  · cases e; rfl
  · cases hv
theorem walk_list_of {pa : Nat → Option Addr} {tmp tmp1 : Addr → Prop} {σ : L2.St} {H : Hp} {env : En} {u : V} {v : Val} {ds : List D} (I : Okk K pa tmp1 H σ env) (h0 : ∀ p, tmp p → tmp1 p) (p : PostV K tmp tmp1 H σ env u v) (e : walkD v = some ds) (hv : isTupV v = false) :
    ∃ a vs, u = .ref a ∧ ShAll K (Nb tmp σ env) H vs ds ∧ SqL K H a vs ∧ ((Rd H a (.lst vs) ∧ Nb tmp σ env a) ∨ KLs K a vs) := by
  unfold walkD at e
  split at e
  · cases hv
  · cases e
    obtain ⟨b, vs, h1, h2, h3, h4⟩ := Sh.list_inv (Sh.goes (Nb.less h0) p)
    exact ⟨b, vs, h1, h3, h2, h4⟩
  · cases e
    obtain ⟨b, vs, h1, h2, h3, h4⟩ := Sh.list_inv (asD_at (x := .list ds) I h0 p rfl)
    exact ⟨b, vs, h1, h3, h2, h4⟩
  · cases e
theorem walk_tup_of {pa : Nat → Option Addr} {tmp tmp1 : Addr → Prop} {σ : L2.St} {H : Hp} {env : En} {u : V} {v : Val} {ds : List D} (I : Okk K pa tmp1 H σ env) (h0 : ∀ p, tmp p → tmp1 p) (p : PostV K tmp tmp1 H σ env u v) (e : walkD v = some ds) (hv : isTupV v = true) :
    ∃ a vs, u = .ref a ∧ ShAll K (Nb tmp σ env) H vs ds ∧ SqT K H a vs ∧ ((Rd H a (.tup vs) ∧ Nb tmp σ env a) ∨ KTp K a vs) := by
  unfold isTupV at hv
  split at hv
  · cases e
    obtain ⟨b, vs, h1, h2, h3, h4⟩ := Sh.tup_inv (Sh.goes (Nb.less h0) p)
    exact ⟨b, vs, h1, h3, h2, h4⟩
  · cases hv
theorem si_zip {ta : TA} {a : DA} (ha : SA K ta a) : SI K (iZipA K ta) (dZip a) := by
  intro pa tmp σ H env I ds env' e R q
  obtain ⟨⟨vs, e1⟩, ev, e⟩ := Option.bind_eq_some_iff.mp e
  refine ha pa tmp σ H env I vs e1 ev _ fun us H' t' s' I' p' => ?_
  dsimp only at e
  split at e
  · rename_i v w
    split at e
    · rename_i ht
      obtain ⟨xs, ex, e⟩ := Option.bind_eq_some_iff.mp e
      obtain ⟨ys, ey, e⟩ := Option.map_eq_some_iff.mp e
      cases e
      match us, p' with
      | [u1, u2], p' =>
        have I2 := I'.less s'.inc
        have s2 := s'.less s'.inc fun _ h => h
        have ht' : isTupV v = isTupV w := eq_of_beq ht
        cases hv : isTupV v with
        | true =>
          obtain ⟨b, ws, rfl, h3, h2, h4⟩ := walk_tup_of I' s'.inc p'.1 ex hv
          obtain ⟨b', ws', rfl, h3', h2', h4'⟩ := walk_tup_of I' s'.inc p'.2.1 ey (ht'.symm.trans hv)
          exact ⟨b, b', ws, ws', rfl, .inr ⟨h2, h2', q _ H' s2 I2 (walk_zipT h4 h4' h3 h3')⟩⟩
        | false =>
          obtain ⟨b, ws, rfl, h3, h2, h4⟩ := walk_list_of I' s'.inc p'.1 ex hv
          obtain ⟨b', ws', rfl, h3', h2', h4'⟩ := walk_list_of I' s'.inc p'.2.1 ey (ht'.symm.trans hv)
          exact ⟨b, b', ws, ws', rfl, .inl ⟨h2, h2', q _ H' s2 I2 (walk_zip h4 h4' h3 h3')⟩⟩
    · cases e
  · cases e
end
end DL
end
section
set_option Elab.async false
set_option linter.all false
set_option maxRecDepth 100000
/-! Slices: the whole of a tuple, turned round. -/
namespace DL
open PySem PySem.Spec PyProof.Rows L2
section
variable {prog : Program} {w : World} {A : Around} {E : Value → Shared → Prop} {s : Shared}
theorem getItem_tuple_whole {t sl : Addr} {items : Array Value} {vl vu : Value} {lo hi : Option Int} {Q : Value → Shared → Prop} (ht : IsTup s.heap t items) (hs : s.heap.IsSliceOf sl vl vu .none) (pl : IsPart vl lo) (pu : IsPart vu hi)
    (hw : HT.sIx items.size 0 lo = 0 ∧ HT.sIx items.size items.size hi = items.size) (h : Q (.ref t) s) : wpAny (model prog w) A (getItem (.ref t) (.ref sl)) Q E s := by
  obtain ⟨os, hos, hcs, hds⟩ := id hs
  have hTs : s.TypeIs (.ref sl) "slice" := ⟨os, hos, hcs⟩
  unfold getItem
  try with_reducible refine wpAny_holding ?_
  first | refine wpAny_bind (wpAny_pure ?_) | skip
  refine wpAny_bind (wpAny_sequenceKey ht.typeIs (by decide) ?_)
  refine wpAny_bind (wpAny_callSpecial?_slot (name := Str.ofString "__getitem__") ht.typeIs PyProof.Rows.slot_tuple_getitem
    (wpAny_call_entry PyProof.Rows.slot_tuple_getitem ht.typeIs entry_tuple_getitem ?_ (args_tuple_getitem _ _)))
  show wpAny _ _ (Builtin.Tuple.tupleItemsOf (.ref t) >>= _) _ _ s
  refine wpAny_bind (tupleItemsOf_ ht ?_)
  refine wpAny_bind (wpAny_typeOf hTs ?_)
  rw [if_pos (by decide)]
  refine wpAny_bind (HT.sliceApplied_gen hs pl pu ?_)
  have hyes : ((((HT.sIx items.size 0 lo : Nat) : Int) == 0 && (1 : Int) == 1 && (HT.sIx items.size items.size hi - HT.sIx items.size 0 lo) == items.size) = true) := by
    rw [hw.1, hw.2]
    simp
  show wpAny _ _ (if (((HT.sIx items.size 0 lo : Nat) : Int) == 0 && (1 : Int) == 1 && (HT.sIx items.size items.size hi - HT.sIx items.size 0 lo) == items.size) = true then _ else _) _ _ s
  rw [if_pos hyes]
  refine wpAny_bind ?_
  show wpAny _ _ (Builtin.Tuple.tupleIsExact (.ref t)) _ _ s
  unfold Builtin.Tuple.tupleIsExact
  refine wpAny_bind (wpAny_typeOf ht.typeIs (wpAny_pure ?_))
  rw [if_pos (by decide)]
  refine wpAny_bind (wpAny_rule ?_)
  exact wpAny_pure ⟨_, rfl, wpAny_pure h⟩
theorem rev_range (xs : Array Value) : ((List.range xs.size).filterMap fun (k : Nat) => xs[((xs.size : Int) - 1 + (k : Int) * (-1)).toNat]?).toArray = xs.toList.reverse.toArray := by
  congr 1
  have e : (fun (k : Nat) => xs[((xs.size : Int) - 1 + (k : Int) * (-1)).toNat]?) = (fun (i : Int) => xs[i.toNat]?) ∘ fun (k : Nat) => (xs.size : Int) - 1 - (k : Int) := by
    funext k
    have e1 : (xs.size : Int) - 1 + (k : Int) * (-1) = (xs.size : Int) - 1 - (k : Int) := by omega
    show xs[((xs.size : Int) - 1 + (k : Int) * (-1)).toNat]? = xs[((xs.size : Int) - 1 - (k : Int)).toNat]?
    rw [e1]
  have hr : ∀ n : Nat, (List.range n).map (fun (k : Nat) => (n : Int) - 1 - (k : Int)) = ((List.range n).map fun (k : Nat) => (k : Int)).reverse := fun n => by
    apply List.ext_getElem?
    intro i
    by_cases hi : i < n
    · rw [List.getElem?_map, List.getElem?_range hi, List.getElem?_reverse (by simpa using hi), List.getElem?_map]
      have h2 : n - 1 - i < n := by omega
      rw [show ((List.range n).map fun (k : Nat) => (k : Int)).length - 1 - i = n - 1 - i by simp, List.getElem?_range h2]
      simp
      omega
    · rw [List.getElem?_eq_none (by simpa using Nat.le_of_not_lt hi), List.getElem?_eq_none (by simpa using Nat.le_of_not_lt hi)]
  rw [e, ← List.filterMap_map, hr, List.filterMap_reverse, List.filterMap_map]
  congr 1
  have e3 : ((fun (i : Int) => xs[i.toNat]?) ∘ fun (k : Nat) => (k : Int)) = fun (k : Nat) => xs.toList[k]? := by
    funext k
    simp
  rw [e3]
  have := PySem.W.krv_all xs
  simpa using this
theorem getItem_tuple_rev {t sl : Addr} {items : Array Value} {vs : Value} {Q : Value → Shared → Prop} (ht : IsTup s.heap t items) (hs : s.heap.IsSliceOf sl .none .none vs) (ps : IsPart vs (some (-1)))
    (h : Q (.ref s.heap.objs.size) { s with heap := s.heap.push { cls := .type "tuple", data := .seq items.toList.reverse.toArray } })
    (hsz : items.size ≤ sizeLine) : wpAny (model prog w) A (getItem (.ref t) (.ref sl)) Q E s := by
  have htake : sizeOk (.seq items.toList.reverse.toArray) := by
    show items.toList.reverse.toArray.size ≤ sizeLine
    rw [List.size_toArray, List.length_reverse, Array.length_toList]
    exact hsz
  obtain ⟨os, hos, hcs, hds⟩ := id hs
  have hTs : s.TypeIs (.ref sl) "slice" := ⟨os, hos, hcs⟩
  unfold getItem
  try with_reducible refine wpAny_holding ?_
  first | refine wpAny_bind (wpAny_pure ?_) | skip
  refine wpAny_bind (wpAny_sequenceKey ht.typeIs (by decide) ?_)
  refine wpAny_bind (wpAny_callSpecial?_slot (name := Str.ofString "__getitem__") ht.typeIs PyProof.Rows.slot_tuple_getitem
    (wpAny_call_entry PyProof.Rows.slot_tuple_getitem ht.typeIs entry_tuple_getitem ?_ (args_tuple_getitem _ _)))
  show wpAny _ _ (Builtin.Tuple.tupleItemsOf (.ref t) >>= _) _ _ s
  refine wpAny_bind (tupleItemsOf_ ht ?_)
  refine wpAny_bind (wpAny_typeOf hTs ?_)
  rw [if_pos (by decide)]
  have ap : ∀ {Q' : Int × Int × Nat → Shared → Prop}, Q' ((items.size : Int) - 1, -1, items.size) s → wpAny (model prog w) A.in1 (Builtin.Slice.sliceApplied (.ref sl) (pure (items.size : Int))) Q' (fun e s' => E e s') s := fun {Q'} hq => by
    unfold Builtin.Slice.sliceApplied Builtin.Slice.sliceFields
    refine wpAny_bind (wpAny_bind (wpAny_field hos hds (x := .none) rfl (wpAny_bind (wpAny_field hos hds (x := .none) rfl (wpAny_bind (wpAny_field hos hds (x := vs) rfl (wpAny_pure ?_)))))))
    refine wpAny_bind (HT.slicePart_ ps ?_)
    show wpAny _ _ (if ((-1 : Int) == 0) = true then _ else _) _ _ s
    rw [if_neg (by decide)]
    refine wpAny_bind (slicePart_none (wpAny_bind (slicePart_none (wpAny_bind (wpAny_pure ?_)))))
    show wpAny _ _ (match Builtin.Slice.sliceAdjust none none (-1) (items.size : Int) with | (lo, hi) => pure (lo, (-1 : Int), Builtin.Slice.slicePlaces lo hi (-1))) _ _ s
    have e1 : Builtin.Slice.sliceAdjust none none (-1) (items.size : Int) = ((items.size : Int) - 1, -1) := rfl
    rw [e1]
    have e2 : Builtin.Slice.slicePlaces ((items.size : Int) - 1) (-1) (-1) = items.size := by
      unfold Builtin.Slice.slicePlaces
      have h1 : ¬ ((-1 : Int) > 0) := by omega
      simp only [h1, if_false, Int.neg_neg, Int.ediv_one]
      split <;> omega
    show wpAny _ _ (pure ((items.size : Int) - 1, (-1 : Int), Builtin.Slice.slicePlaces ((items.size : Int) - 1) (-1) (-1))) _ _ s
    rw [e2]
    exact wpAny_pure hq
  refine wpAny_bind (ap ?_)
  have hno : ¬ (((items.size : Int) - 1 == 0 && (-1 : Int) == 1 && items.size == items.size) = true) := by
    have : ((-1 : Int) == 1) = false := by decide
    rw [this, Bool.and_false, Bool.false_and]
    exact Bool.false_ne_true
  show wpAny _ _ (if ((items.size : Int) - 1 == 0 && (-1 : Int) == 1 && items.size == items.size) = true then _ else _) _ _ s
  rw [if_neg hno, rev_range]
  first
    | exact wpAny_bind (m := Builtin.Tuple.tupleExact _) (wpAny_newObj_type (wpAny_pure ⟨_, rfl, wpAny_pure h⟩) htake)
    | exact wpAny_bind (m := Builtin.Tuple.tupleExact _) (wpAny_newObj_type (wpAny_bind (wpAny_pure (wpAny_pure ⟨_, rfl, wpAny_pure h⟩))) htake)
    | exact wpAny_bind (wpAny_bind (m := Builtin.Tuple.tupleExact _) (wpAny_newObj_type (wpAny_pure (wpAny_pure ⟨_, rfl, wpAny_pure h⟩)) htake))
    | exact wpAny_bind (wpAny_bind (m := Builtin.Tuple.tupleExact _) (wpAny_newObj_type (wpAny_pure ⟨_, rfl, wpAny_pure h⟩) htake))
end
section
variable {X : Cx}
/-- t[lo:hi], the whole of it being t itself -/
def rSlW (K : PySem.W.Frag) : V → Option Int → Option Int → Hp → VK → Prop := fun x lo hi H Q => ∃ a xs, x = .ref a ∧ SqT K H a xs ∧ (HT.sIx xs.length 0 lo = 0 ∧ HT.sIx xs.length xs.length hi = xs.length) ∧ Q (.ref a) H
theorem sl_tupW : SlR X (rSlW X.K) := by
  intro pins s σ H x v vl vu lo hi sl Q I rx hs pl pu h
  obtain ⟨a, xs, rfl, hx, hw, q⟩ := h
  cases rx
  obtain ⟨its, r, ht, hz⟩ := I.tuple hx
  have hlen : its.toArray.size = xs.length := by rw [List.size_toArray]; exact r.length.symm
  exact ⟨"tuple", _, PyProof.Rows.slot_tuple_getitem.lookup, ht.typeIs, getItem_tuple_whole ht hs pl pu (by rw [hlen]; exact hw) ⟨.ref a, H, I, rfl, q⟩⟩
def rSlB (K : PySem.W.Frag) : V → Option Int → Option Int → Hp → VK → Prop := fun x lo hi H Q => rSlA K x lo hi H Q ∨ rSlW K x lo hi H Q
theorem sl_all : SlR X (rSlB X.K) := SlR.or sl_any sl_tupW
/-- e[::-1] of a list or a tuple -/
def tRev (K : PySem.W.Frag) (te : TE) : TE := fun σ H Q => te σ H fun x H1 => ∃ a xs, x = .ref a ∧ ((SqL K H1 a xs ∧ ∀ p, H1 p = none → Q (.ref p) (upd H1 p (.lst xs.reverse))) ∨ (SqT K H1 a xs ∧ ∀ p, H1 p = none → Q (.ref p) (upd H1 p (.tup xs.reverse))))
theorem pe_rev {e : Expr} {te : TE} {k : Nat} {p1 p2 p3 pos : Pos} (he : PE X e te) : PE X (.Subscript e (.Slice none none (some (.UnaryOp .USub (.Constant (.int 1) k p1) p2)) p3) pos) (tRev X.K te) := by
  refine ⟨fun pins s σ H Q I h => ?_⟩
  refine Subscript_ (thn (he.run pins s σ H _ I h) fun v s1 ⟨x, H1, I1, r1, q1⟩ => ?_)
  refine wpAny_Slice ?_
  rw [evalPart_none]
  refine wpAny_pure ?_
  refine wpAny_pure ?_
  rw [evalPart_some]
  have hstep : PE X (.UnaryOp .USub (.Constant (.int 1) k p1) p2) (tUn (rU fun i => .int (-i)) (tC (.int 1))) := pe_un un_neg pe_int
  refine thn (hstep.run pins s1 σ H1 (fun x H' => x = .int (-1) ∧ H' = H1) I1 ⟨1, rfl, rfl, rfl⟩) fun vs s2 ⟨y, H2, I2, r2, ey, eH⟩ => ?_
  subst ey
  subst eH
  obtain ⟨tk, rfl⟩ := r2
  have I4 : Inv X pins σ H2 { s2 with heap := s2.heap.push { cls := .type "slice", data := .fields #[.none, .none, .int (-1) tk] } } := I2.kept (t' := s2.toks) fun b ob q => Heap.get?_push_of_some _ q
  have hsl : (s2.heap.push { cls := .type "slice", data := .fields #[.none, .none, .int (-1) tk] }).IsSliceOf s2.heap.objs.size .none .none (.int (-1) tk) := Heap.IsSliceOf.new ..
  obtain ⟨a, xs, rfl, q⟩ := q1
  cases r1
  rcases q with ⟨hx, q⟩ | ⟨hx, q⟩
  · obtain ⟨its, r, ht, hz⟩ := I4.list hx
    have hlen := r.length
    refine tail_any (ops := [.ref a, .ref s2.heap.objs.size]) ht.isList.typeIs slot_list_getitem.lookup ?_ (by with_unfolding_all rfl)
    refine wpAny_getItem_list_slice ht.isList hsl .none .none (.int (-1) tk) (by decide) ?_ (by rw [List.size_toArray] <;> omega)
    rw [PySem.W.krv_pick]
    refine ⟨.ref _, _, I4.laid (t' := s2.toks) (o := .lst xs.reverse) (fun b ob q => Heap.get?_push_of_some _ q) (Nat.le_refl _) ?_, rfl, q _ (I4.hok.fresh (Nat.le_refl _))⟩
    exact ⟨by rw [List.length_reverse]; exact hz, _, 0, r.reverse, Heap.get?_push_size _ rfl⟩
  · obtain ⟨its, r, ht, hz⟩ := I4.tuple hx
    have hlen := r.length
    refine tail_any (ops := [.ref a, .ref s2.heap.objs.size]) ht.typeIs PyProof.Rows.slot_tuple_getitem.lookup ?_ (by with_unfolding_all rfl)
    refine getItem_tuple_rev ht hsl (.int (-1) tk) ?_ (by rw [List.size_toArray] <;> omega)
    refine ⟨.ref _, _, I4.laid (t' := s2.toks) (o := .tup xs.reverse) (fun b ob q => Heap.get?_push_of_some _ q) (Nat.le_refl _) ?_, rfl, q _ (I4.hok.fresh (Nat.le_refl _))⟩
    exact ⟨by rw [List.length_reverse]; exact hz, _, r.reverse, IsTup.new _ _⟩
end
section
variable {K : PySem.W.Frag}
def fRev : Val → DE := fun v env => match v with
  | .d (.tuple xs) => some (.d (.tuple xs.reverse), env)
  | v => (listOf env v).map fun xs => (.f (.l xs.reverse), env)
def dRev (a : DE) : DE := dUn fRev a
theorem se_rev {te : TE} {a : DE} (ha : SE K te a) : SE K (tRev K te) (dRev a) := by
  intro pa tmp σ H env I val env' e Q q
  obtain ⟨⟨x, e1⟩, ex, e2⟩ := Option.bind_eq_some_iff.mp e
  clear e
  refine ha pa tmp σ H env I x e1 ex _ fun u1 H1 t1 s1 I1 p1 => ?_
  dsimp only at e2
  unfold fRev at e2
  split at e2
  · rename_i ys
    cases e2
    obtain ⟨p, vs, rfl, h4, h5⟩ := tupOf_at p1 (rfl : tupOf (.d (.tuple ys)) = some ys)
    refine ⟨p, vs, rfl, .inr ⟨h4, fun r hr => ?_⟩⟩
    obtain ⟨s4, I4, h6⟩ := tup_new (tmp := tmp) I1 s1.inc ((h5.goes (Nb.less s1.inc)).reverse) hr
    exact q _ _ tmp ((s1.trans s4).less s1.inc fun _ h => h) (I4.less s1.inc) h6
  · obtain ⟨xs, h1, h2⟩ := Option.map_eq_some_iff.mp e2
    cases h2
    obtain ⟨p, vs, rfl, h4, h5⟩ := listOf_at I1 p1 h1
    refine ⟨p, vs, rfl, .inl ⟨h4, fun r hr => ?_⟩⟩
    obtain ⟨s4, I4, h6⟩ := lst_new (tmp := t1) I1 (fun _ h => h) h5.reverse hr
    exact q _ _ _ (s1.trans s4) I4 (h6.tmp0 s1.inc)
/-- slices, the whole of a tuple too -/
def fSl2 (x : Val) (lo hi : Option Int) : DE := fun env => match x with
  | .d (.tuple xs) => some (.d (.tuple (cutD xs lo hi)), env)
  | v => (listOf env v).map fun xs => (.f (.l (cutD xs lo hi)), env)
theorem cut_whole {xs : List D} {lo hi : Option Int} (h : isWhole xs.length lo hi = true) : cutD xs lo hi = xs := by
  obtain ⟨h1, h2⟩ := of_decide_eq_true h
  unfold cutD
  rw [h1, h2, List.drop_zero, Nat.sub_zero, List.take_length]
theorem fSl_eq {x : Val} {l h : Option Int} {env : En} (hw : ¬ ∃ xs, x = .d (.tuple xs) ∧ isWhole xs.length l h = true) : fSl x l h env = fSl2 x l h env := by
  unfold fSl fSl2
  split
  · rename_i ys
    rw [if_neg (fun z => hw ⟨ys, rfl, z⟩)]
  · rename_i hx
    first
      | rfl
      | (split
         · rename_i ys
           exact absurd rfl (hx ys)
         · rfl)
def dSl2 (a : DE) (lo hi : DO) : DE := fun env => (a env).bind fun p => (lo p.2).bind fun q => (hi q.2).bind fun r => fSl2 p.1 q.1 r.1 r.2
theorem se_sl2 {te : TE} {tl th : TO} {a : DE} {lo hi : DO} (ha : SE K te a) (hl : SO K tl lo) (hh : SO K th hi) : SE K (tSl (rSlB K) te tl th) (dSl2 a lo hi) := by
  intro pa tmp σ H env I val env' e Q q
  obtain ⟨⟨x, e1⟩, ex, e⟩ := Option.bind_eq_some_iff.mp e
  obtain ⟨⟨l, e2⟩, el, e⟩ := Option.bind_eq_some_iff.mp e
  obtain ⟨⟨h, e3⟩, eh, e⟩ := Option.bind_eq_some_iff.mp e
  refine ha pa tmp σ H env I x e1 ex _ fun u H1 t1 s1 I1 p1 => hl pa t1 σ H1 e1 I1 l e2 el _ fun H2 s2 I2 => hh pa t1 σ H2 e2 I2 h e3 eh _ fun H3 s3 I3 => ?_
  have s13 := (s1.trans s2).trans s3
  have p3 := (p1.step s2).step s3
  have viaA : fSl x l h e3 = some (val, env') → rSlB K u l h H3 Q := fun e => .inl (fSl_run I3 s1.inc p3 e fun u' H' t' s4 inc I4 p4 => by
    rcases s4 with s4 | ⟨s4, rfl⟩
    · exact q u' H' t' (s13.trans s4) I4 p4
    · exact q u' H' _ ((s13.trans s4).less s1.inc fun _ h => h) I4 p4)
  by_cases hw : ∃ xs, x = .d (.tuple xs) ∧ isWhole xs.length l h = true
  · obtain ⟨xs, rfl, hw⟩ := hw
    have e' : some (Val.d (.tuple (cutD xs l h)), e3) = some (val, env') := e
    rw [cut_whole hw] at e'
    cases e'
    obtain ⟨p, vs, rfl, h4, h5⟩ := tupOf_at p3 (rfl : tupOf (.d (.tuple xs)) = some xs)
    have hw' := of_decide_eq_true hw
    rw [← h5.length] at hw'
    exact .inr ⟨p, vs, rfl, h4, hw', q _ H3 tmp (s13.less s1.inc fun _ h => h) (I3.less s1.inc) (Sh.goes (Nb.less s1.inc) p3)⟩
  · refine viaA ?_
    rw [fSl_eq hw]
    exact e
end
end DL
end
section
set_option Elab.async false
set_option linter.all false
set_option maxRecDepth 100000
/-! The end of a law whose promise is told where no text is being made. -/
namespace DL
open PySem PySem.Spec PyProof.Rows L2
section
variable {P : Program} {w : World} {K : PySem.W.Frag} {mg mb : Str → Option Value} {s₁ : Shared} {a : Addr} {vs : List Value} {ns : List Int}
/-- a heap in which the script alone may be tracked -/
structure OnlyAt (P : Program) (w : World) (K : PySem.W.Frag) (s₁ : Shared) (a : Addr) (ns : List Int) (H : Hp) : Prop where
  only : Only H
  seq : SqL K H a (ns.map V.int)
  ok : HOk P w H s₁.heap
  here : ∀ b, H b ≠ none → b = a
  out : H a ≠ none → K.lookup a = none
theorem onlyAt_ex (KX : K.In s₁.heap) (ha : s₁.heap.get? a = some { cls := .type "list", data := .seq vs.toArray }) (hi : IntsAre vs ns) (hl : ns.length ≤ sizeLine) : ∃ H, OnlyAt P w K s₁ a ns H := by
  have rv := vals_ints hi
  have hv : vs.toArray.size ≤ sizeLine := by rw [List.size_toArray, hi.length]; exact hl
  cases hk : K.lookup a with
  | some o =>
    have e := (KX a o hk).symm.trans ha
    cases e
    exact ⟨fun _ => none, fun _ => .inl rfl, .inr ⟨_, _, _, hk, rfl, rfl, rfl, hv, rv⟩, fun b u z => (nomatch z), fun b z => absurd rfl z, fun z => absurd rfl z⟩
  | none =>
    let fz : HO := .frz { cls := .type "list", data := .seq vs.toArray } (.lst (ns.map V.int))
    have at_ : upd (fun _ => none) a fz a = some fz := upd_same
    have off : ∀ b, b ≠ a → upd (fun _ => none) a fz b = none := fun b hb => upd_ne hb
    refine ⟨upd (fun _ => none) a fz, fun b => ?_, .inl (.inr ⟨_, at_⟩), fun b u z => ?_, fun b z => ?_, fun _ => hk⟩
    · by_cases hb : b = a
      · rw [hb]; exact .inr ⟨_, _, at_⟩
      · exact .inl (off b hb)
    · by_cases hb : b = a
      · subst hb
        cases at_.symm.trans z
        exact ⟨ha, by rw [List.length_map]; exact hl, vs, _, rv, ha⟩
      · cases (off b hb).symm.trans z
    · exact Classical.byContradiction fun hb => z (off b hb)
theorem law_callG {k : Nat} {fa : Addr} {fd : FuncData} {x : Str} {sp : Sp}
    (KX : K.In s₁.heap) (hns : s₁.heap.Ns mainGlobals mg) (hb : s₁.heap.Ns builtinsNs mb) (hbb : ∀ x : Str, x ≠ "__name__" → mb x = bootBuiltins x) (hlim : s₁.heap.NoLimit) (hg : s₁.gens = #[])
    (ha : s₁.heap.get? a = some { cls := .type "list", data := .seq vs.toArray }) (hi : IntsAre vs ns) (hl : ns.length ≤ sizeLine) (hr : Room k callerA)
    (F : ∀ base : Heap, K.In base → base.Ns mainGlobals mg → FnG P w K mg base k fa fd [x] sp) (hbind : ∀ (s : Shared) (u : Value), BindsTo s fd ⟨[u], []⟩ [(x, u)])
    (hsp : ∀ H : Hp, Only H → SqL K H a (ns.map V.int) → sp [.ref a] H (fun v _ => v = .bl true) fun _ _ _ => False) :
    codeAny (model P w) callerA (.call (.ref fa) ⟨[.ref a], []⟩) (fun r s' => r = .ok (.ret (.bool true)) ∧ OldK s₁.heap s'.heap ∧ s'.os = s₁.os ∧ AllBare s'.gens) s₁ := by
  obtain ⟨H, c⟩ := onlyAt_ex (P := P) (w := w) KX ha hi hl
  have free : ∀ {b : Addr} {o : Obj}, s₁.heap.get? b = some o → (b = a → False) → H b = none := fun {b o} e n => Classical.byContradiction fun z => n (c.here b z)
  have stays : ∀ {b : Addr} {o : Obj}, s₁.heap.get? b = some o → (b = a → False) → (hidT s₁.heap H).get? b = some o := fun e n => hidT_get e (free e n)
  have isDict : ∀ {b : Addr} {o : Obj} {es : Array DictEntry} {ep : Nat}, s₁.heap.get? b = some o → o.data = .dict es ep → b = a → False := fun {b o es ep} e d z => by
    subst z
    cases e.symm.trans ha
    cases d
  have names : ∀ {b : Addr} {m : Str → Option Value}, s₁.heap.Ns b m → (hidT s₁.heap H).Ns b m := fun {b m} ⟨o, es, ep, e, d, r⟩ => ⟨o, es, ep, stays e (isDict e d), d, r⟩
  have inK : K.In (hidT s₁.heap H) := fun b o e => by
    refine hidT_get (KX b o e) (Classical.byContradiction fun z => ?_)
    have hba := c.here b z
    subst hba
    cases (c.out z).symm.trans e
  have lim : (hidT s₁.heap H).NoLimit := let ⟨mc, h1, h2⟩ := hlim; ⟨mc, names h1, h2⟩
  have md : Mod K mg (hidT s₁.heap H) := ⟨inK, names hns, ⟨mb, names hb, hbb⟩, lim⟩
  have env : Env0 P w K mg (hidT s₁.heap H) callerA [] s₁ H := ⟨rfl, md, fun _ _ e => of_hidT e, Nat.le_of_eq (hidT_size _ _), trivial, fun _ h => (nomatch h), c.ok, .of_eq hg⟩
  refine codeAny_mono ((F _ inK (names hns)).run callerA [] s₁ H ⟨[.ref a], []⟩ [.ref a] [.ref a] _ _ hr rfl env (hbind s₁ (.ref a)) (.cons rfl .nil) (hsp H c.only c.seq)) fun r s' h => ?_
  cases r with
  | error e => exact False.elim h
  | ok fl =>
    cases fl with
    | ret u =>
      obtain ⟨v, H', os, bare, un, ok', r', q⟩ := h
      cases (show v = .bl true from q)
      cases (show u = Value.bool true from r')
      refine ⟨rfl, OldK.of_keep fun b o e => ?_, os, bare⟩
      rcases c.only b with z | ⟨ob, xs, z⟩
      · exact un.keep b o e z (fun z => (nomatch z)) fun z => (nomatch z)
      · obtain ⟨e1, _⟩ := c.ok b _ z
        obtain ⟨e2, _⟩ := ok' b _ (un.frzs b ob _ z)
        exact e2.trans (e1.symm.trans e)
    | _ => exact False.elim h
end
/-- a law: F gives the written part, the function object, the promise over every base -/
theorem walk_ofG {l : PySem.W.OpenLaw} {n k : Nat} {q : Program} {loose : List Str} {XP : (Str → Option Value) → Heap → Prop} {YP : World → Heap → Prop} {d : DefRec} {x : Str}
    (hn : l.most = some n) (hn2 : n ≤ sizeLine) (hdf : d.params.defaults = []) (hr : Room k callerA)
    (F : ∀ (w : World) (mg : Str → Option Value) (fa : Addr) (h : Heap), YP w h → h.Ns mainGlobals mg → mg d.name = some (.ref fa) →
      ∃ (K : PySem.W.Frag) (fd : FuncData) (sp : Sp), K.In h ∧ (∀ (s : Shared) (u : Value), BindsTo s fd ⟨[u], []⟩ [(x, u)]) ∧
        (∀ (H : Hp) (a : Addr) (ns : List Int), ns.length ≤ n → (∀ z ∈ ns, Builtin.Int.intBits z ≤ 1048576) → Only H → SqL K H a (ns.map V.int) → sp [.ref a] H (fun v _ => v = .bl true) fun _ _ _ => False) ∧
        ∀ base : Heap, K.In base → base.Ns mainGlobals mg → FnG l.prog w K mg base k fa fd [x] sp) :
    PySem.W.WalkO q loose XP YP l.row.toRowW d [] (fun f vs => PySem.call f vs) := by
  refine Att.attach_callB hn hdf fun w s₀ s₁ mg mb fa o pm cd doc a vs ns G Y ho hd hcd hmg hobj hints hlen hbits hg => ?_
  obtain ⟨K, fd, sp, KX, hb, hsp, hF⟩ := F w mg fa _ Y G.T.g hmg
  exact law_callG KX G.T.g G.T.b G.T.builtins G.T.nolimit hg hobj hints (Nat.le_trans hlen hn2) hr hF hb fun H hO hS => hsp H a ns hlen hbits hO hS
/-- the promise of a law by its den: True at every script -/
theorem spF_law {K : PySem.W.Frag} {F : FD} {H : Hp} {a : Addr} {ns : List Int} {E : XK} (hO : Only H) (hS : SqL K H a (ns.map V.int)) {outs : List Cl} (e : F [.d (.list (ns.map PyData.int))] = some (.d (.bool true), outs)) :
    spF K 1 F [.ref a] H (fun v _ => v = .bl true) E := by
  have sh : Sh K (fun _ => True) H (.ref a) (.list (ns.map PyData.int)) := by
    rcases hS with h | h
    · exact .lst h trivial (.of_ints ns)
    · exact .lstK h (.of_ints ns)
  have no : ∀ (env : En) (i : Nat) (p : Addr), env = [Cl.d (.list (ns.map PyData.int))] → ¬ Owd [some (V.ref a)] env i p := fun env i p ez ⟨⟨k, b, e1⟩, e2⟩ => by
    subst ez
    cases i with
    | zero => cases e1
    | succ i => simp at e1
  refine ⟨rfl, fun _ => none, fun _ => False, [.d (.list (ns.map PyData.int))], fun j p h => (nomatch h), ⟨rfl, fun i x ex => ?_, fun i k b ex => ?_, fun i j p h _ => absurd h (no _ i p rfl), fun p h => h.elim⟩, _, outs, e, fun u H' t' s' I' p' => ?_⟩
  · cases i with
    | zero =>
      cases ex
      exact ⟨.ref a, rfl, sh.goes fun b o eb _ => ⟨eb, fun z => z.elim (fun ⟨j, q⟩ => no _ j b rfl q) id⟩⟩
    | succ i => simp at ex
  · cases i with
    | zero => cases ex
    | succ i => simp at ex
  · cases p'
    rfl
/-- a def's own keywords -/
theorem kbn_of {K : PySem.W.Frag} {x qual : Str} {st : Stmt} {f : Addr} {fd : FuncData} {ps ks : List Str} {n : Nat} {π : List Nat} (F : Fun K x qual st f fd)
    (h : ∀ (kV doc pm : Value) (an : Option Addr) (cdv ct : Value) (us ws : List Value), us.length = n → ws.length = ks.length → bindArgs (PySem.W.fnOf x qual (defArgs st) (defBody st) (defScope st) .none kV doc pm an cdv ct) ⟨us, ks.zip ws⟩ = pure (ps.zip (π.filterMap fun (i : Nat) => (us ++ ws)[i]?))) :
    KBn K fd ps n ks (fun us ws => π.filterMap fun (i : Nat) => (us ++ ws)[i]?) (fun vs zs => permL π (vs ++ zs)) := by
  obtain ⟨oc, od, kV, doc, pm, an, cdv, ct, osl, rfl, lk, hcd⟩ := F.ex
  refine ⟨fun s us ws _ l1 l2 => .of_eq (h kV doc pm an cdv ct us ws l1 l2), fun {vs us zs ws} r1 r2 => ?_⟩
  have r := Vals.append r1 r2
  unfold permL
  generalize vs ++ zs = xs at r
  generalize us ++ ws = ys at r
  clear h
  induction π with
  | nil => exact .nil
  | cons i π ih =>
    rw [List.filterMap_cons, List.filterMap_cons]
    cases ex : xs[i]? with
    | none =>
      have hy : ys[i]? = none := by
        rw [List.getElem?_eq_none_iff] at ex ⊢
        rw [← r.length]
        exact ex
      rw [hy]
      exact ih
    | some v =>
      obtain ⟨u, hu, ru⟩ := r.get ex
      rw [hu]
      exact .cons ru ih
end DL
end
section
set_option Elab.async false
set_option linter.all false
set_option maxRecDepth 100000
/-! One rule an operator; the facts of a def that is called. -/
namespace DL
open PySem PySem.Spec PyProof.Rows L2
section
variable {X : Cx} {K : PySem.W.Frag}
theorem R2S.or1 {r r' : R2} {f f' : Val → Val → DE} (g : Val → Val → En → Bool) (h : R2S K r f) (h' : R2S K r' f') : R2S K (fun x y H Q => r x y H Q ∨ r' x y H Q) (fun a b env => if g a b env then f a b env else f' a b env) := by
  intro pa tmp0 tmp σ H env I h0 u1 v1 u2 v2 p1 p2 val env' e Q q
  dsimp only at e
  by_cases hg : g v1 v2 env = true
  · rw [if_pos hg] at e
    exact .inl (h pa tmp0 tmp σ H env I h0 u1 v1 u2 v2 p1 p2 val env' e Q q)
  · rw [if_neg hg] at e
    exact .inr (h' pa tmp0 tmp σ H env I h0 u1 v1 u2 v2 p1 p2 val env' e Q q)
/-! tuples put together -/
def fCatT : Val → Val → DE := fun x y env => (tupOf x).bind fun xs => (tupOf y).bind fun ys => if szOk (xs.length + ys.length) then some (.d (.tuple (xs ++ ys)), env) else none
theorem tupOf_d {v : Val} {xs : List D} (e : tupOf v = some xs) : v = .d (.tuple xs) := by
  unfold tupOf at e
  split at e
  · cases e; rfl
  · cases e
theorem r2_catT : R2S K (rCatA K) fCatT := by
  intro pa tmp0 tmp σ H env I h0 u1 v1 u2 v2 p1 p2 val env' e Q q
  obtain ⟨xs, ex, e⟩ := Option.bind_eq_some_iff.mp e
  obtain ⟨ys, ey, e⟩ := Option.bind_eq_some_iff.mp e
  split at e
  · rename_i hz
    cases e
    obtain ⟨p, vs, rfl, h2, h3⟩ := tupOf_at p1 ex
    obtain ⟨p', vs', rfl, h2', h3'⟩ := tupOf_at p2 ey
    cases tupOf_d ex
    cases tupOf_d ey
    refine ⟨p, p', vs, vs', rfl, rfl, h2, h2', by rw [h3.length, h3'.length]; exact szOk_le hz, fun z => ?_, fun _ z => ?_, fun _ _ l hl => ?_⟩
    · subst z
      cases h3
      rw [List.nil_append] at q
      exact q _ H tmp .refl I p2
    · subst z
      cases h3'
      rw [List.append_nil] at q
      exact q _ H tmp .refl I p1
    · obtain ⟨s2, I2, h4⟩ := tup_new (tmp := tmp) I (fun _ h => h) (h3.append h3') hl
      exact q _ _ tmp s2 I2 h4
  · cases e
/-! + : ints, lists, tuples -/
def isIntV : Val → Bool
  | .d (.int _) => true
  | _ => false
def rAddU (K : PySem.W.Frag) : R2 := fun x y H Q => rI0 (fun i j => .int (i + j)) x y H Q ∨ (rCatA K x y H Q ∨ rCat x y H Q)
def fAddU : Val → Val → DE := fun a b env => if isIntV a then fII gAdd a b env else if isTupV a then fCatT a b env else fCat a b env
theorem op_addU : OpR X (binaryOp .Add) (rAddU X.K) := OpR.or op_add (OpR.or op_catA op_cat)
theorem r2_addU : R2S K (rAddU K) fAddU := R2S.or1 (fun a _ _ => isIntV a) r2_add (R2S.or1 (fun a _ _ => isTupV a) r2_catT r2_cat)
def rSubU : R2 := rI0 fun i j => .int (i - j)
theorem op_subU : OpR X (binaryOp .Sub) rSubU := op_sub
theorem r2_subU : R2S K rSubU (fII gSub) := r2_sub
def rMulU : R2 := fun x y H Q => rI CMulA (fun i j => .int (i * j)) x y H Q ∨ rRep x y H Q
def fMulU : Val → Val → DE := fun a b env => if isIntV a then fII gMul a b env else fRep a b env
theorem op_mulU : OpR X (binaryOp .Mult) rMulU := OpR.or op_mulA op_rep
theorem r2_mulU : R2S K rMulU fMulU := R2S.or1 (fun a _ _ => isIntV a) r2_mul r2_rep
def rDivU : R2 := rI CDivA fun i j => .int (i.fdiv j)
theorem op_divU : OpR X (binaryOp .FloorDiv) rDivU := op_fdivA
theorem r2_divU : R2S K rDivU (fII gDiv) := r2_div
def rModU : R2 := rI (fun _ j => j ≠ 0) fun i j => .int (i.fmod j)
theorem op_modU : OpR X (binaryOp .Mod) rModU := op_modN
theorem r2_modU : R2S K rModU (fII gMod) := r2_mod
def rPowU : R2 := rI CPow fun i j => .int (i ^ j.toNat)
theorem op_powU : OpR X (binaryOp .Pow) rPowU := op_pow
theorem r2_powU : R2S K rPowU (fII gPow) := r2_pow
def rLtU : R2 := rI0 fun i j => .bl (decide (i < j))
def rLeU : R2 := rI0 fun i j => .bl (decide (i ≤ j))
def rGtU : R2 := rI0 fun i j => .bl (decide (j < i))
def rGeU : R2 := rI0 fun i j => .bl (decide (j ≤ i))
theorem op_ltU : OpR X (compareOp .Lt) rLtU := op_lt
theorem op_leU : OpR X (compareOp .LtE) rLeU := op_le
theorem op_gtU : OpR X (compareOp .Gt) rGtU := op_gt
theorem op_geU : OpR X (compareOp .GtE) rGeU := op_ge
theorem r2_ltU : R2S K rLtU (fII gLt) := r2_lt
theorem r2_leU : R2S K rLeU (fII gLe) := r2_le
theorem r2_gtU : R2S K rGtU (fII gGt) := r2_gt
theorem r2_geU : R2S K rGeU (fII gGe) := r2_ge
/-- data as it stands, an own list too -/
def datOf (env : En) : Val → Option D
  | .d x => some x
  | .f (.l xs) => some (.list xs)
  | .b i => match env[i]? with
    | some (Cl.o _ (.l xs)) => some (.list xs)
    | _ => none
  | _ => none
theorem datOf_dp {pa : Nat → Option Addr} {tmp0 tmp : Addr → Prop} {σ : L2.St} {H : Hp} {env : En} {u : V} {v : Val} {x : D} (I : Okk K pa tmp H σ env) (h : PostV K tmp0 tmp H σ env u v) (e : datOf env v = some x) (hn : x.hasDict = false) : Dp K H u x := by
  unfold datOf at e
  split at e
  · cases e
    have h' : Sh K (Nb tmp σ env) H u x := h
    exact h'.dp hn
  · cases e
    obtain ⟨p, h1, _, _, _, vs, h4, h5⟩ := h
    subst h1
    exact .lst (.inl (.inl h4)) (h5.dp hn)
  · split at e
    · rename_i k ys ei
      cases e
      obtain ⟨p, h1, ⟨vs, h2, h3⟩, _⟩ := I.own _ _ _ ei
      have h' : σ[_]? = some (some u) := h
      rw [h1] at h'
      cases h'
      exact .lst (.inl (.inl h2)) (h3.dp hn)
    · cases e
  · cases e
def fEqU (neg : Bool) : Val → Val → DE := fun x y env => (datOf env x).bind fun d => (datOf env y).bind fun e => (eqD d e).map fun b => (.d (.bool (b != neg)), env)
theorem r2_eqU : R2S K (rEqD K) (fEqU false) := by
  intro pa tmp0 tmp σ H env I h0 u1 v1 u2 v2 p1 p2 val env' e Q q
  obtain ⟨d, ed, e⟩ := Option.bind_eq_some_iff.mp e
  obtain ⟨d2, ed2, e⟩ := Option.bind_eq_some_iff.mp e
  obtain ⟨b, eb, e⟩ := Option.map_eq_some_iff.mp e
  cases e
  unfold eqD at eb
  split at eb
  · rename_i hs
    cases eb
    obtain ⟨h1, h2⟩ := (Bool.and_eq_true _ _).mp hs
    have z : ∀ b : Bool, (b != false) = b := by decide
    rw [z] at q
    exact ⟨d, d2, datOf_dp I p1 ed (shaped_nodict h1), datOf_dp I p2 ed2 (shaped_nodict h2), h1, h2, q _ H tmp .refl I (.bl _)⟩
  · cases eb
theorem r2_neU : R2S K (rNeD K) (fEqU true) := by
  intro pa tmp0 tmp σ H env I h0 u1 v1 u2 v2 p1 p2 val env' e Q q
  obtain ⟨d, ed, e⟩ := Option.bind_eq_some_iff.mp e
  obtain ⟨d2, ed2, e⟩ := Option.bind_eq_some_iff.mp e
  obtain ⟨b, eb, e⟩ := Option.map_eq_some_iff.mp e
  cases e
  unfold eqD at eb
  split at eb
  · rename_i hs
    cases eb
    obtain ⟨h1, h2⟩ := (Bool.and_eq_true _ _).mp hs
    have z : ∀ b : Bool, (b != true) = !b := by decide
    rw [z] at q
    exact ⟨d, d2, datOf_dp I p1 ed (shaped_nodict h1), datOf_dp I p2 ed2 (shaped_nodict h2), h1, h2, q _ H tmp .refl I (.bl _)⟩
  · cases eb
/-! texts are told by their signs, other data item by item -/
def isStrV : Val → Bool
  | .d (.str _) => true
  | _ => false
def fStrEq (neg : Bool) : Val → Val → DE := fun x y env => match x, y with
  | .d (.str a), .d (.str b) => some (.d (.bool (decide (a = b) != neg)), env)
  | _, _ => none
theorem r2_strEq : R2S K rEq (fStrEq false) := by
  intro pa tmp0 tmp σ H env I h0 u1 v1 u2 v2 p1 p2 val env' e Q q
  unfold fStrEq at e
  split at e
  · rename_i a b
    cases e
    cases p1
    cases p2
    refine ⟨rfl, ?_⟩
    have z : (decide (a = b) != false) = decide (V.str a = V.str b) := by
      by_cases h : a = b <;> simp [h]
    rw [z] at q
    exact q _ H tmp .refl I (.bl _)
  · cases e
theorem r2_strNe : R2S K rNe (fStrEq true) := by
  intro pa tmp0 tmp σ H env I h0 u1 v1 u2 v2 p1 p2 val env' e Q q
  unfold fStrEq at e
  split at e
  · rename_i a b
    cases e
    cases p1
    cases p2
    refine ⟨rfl, ?_⟩
    have z : (decide (a = b) != true) = !decide (V.str a = V.str b) := by
      by_cases h : a = b <;> simp [h]
    rw [z] at q
    exact q _ H tmp .refl I (.bl _)
  · cases e
def rEqX (K : PySem.W.Frag) : R2 := fun x y H Q => rEq x y H Q ∨ rEqD K x y H Q
def rNeX (K : PySem.W.Frag) : R2 := fun x y H Q => rNe x y H Q ∨ rNeD K x y H Q
def fEqX (neg : Bool) : Val → Val → DE := fun a b env => if isStrV a && isStrV b then fStrEq neg a b env else fEqU neg a b env
theorem op_eqX (hu : X.A.units + 64 < cLine) : OpR X (compareOp .Eq) (rEqX X.K) := OpR.or op_eq (op_eqD hu)
theorem op_neX (hu : X.A.units + 64 < cLine) : OpR X (compareOp .NotEq) (rNeX X.K) := OpR.or op_ne (op_neD hu)
theorem r2_eqX : R2S K (rEqX K) (fEqX false) := R2S.or1 (fun a b _ => isStrV a && isStrV b) r2_strEq r2_eqU
theorem r2_neX : R2S K (rNeX K) (fEqX true) := R2S.or1 (fun a b _ => isStrV a && isStrV b) r2_strNe r2_neU
/-! built-ins -/
def rLenU (K : PySem.W.Frag) : List V → Hp → VK → Prop := fun xs H Q => ∃ p ys, xs = [.ref p] ∧ (SqL K H p ys ∨ SqT K H p ys) ∧ Q (.int ys.length) H
theorem call_lenU : CallR X (.builtin "len") (rLenU X.K) := call_len_seq
theorem rs_lenU : RS K (rLenU K) (f1 gLen) := rs_len
def rAbsU : List V → Hp → VK → Prop := fun xs H Q => ∃ i, xs = [.int i] ∧ Q (.int (if i < 0 then -i else i)) H
theorem call_absU : CallR X (.builtin "abs") rAbsU := call_abs
theorem rs_absU : RS K rAbsU (f1 gAbs) := rs_abs
def rIntU : List V → Hp → VK → Prop := fun xs H Q => (∃ i, xs = [.int i] ∧ Q (.int i) H) ∨ ∃ k, xs = [.bl k] ∧ Q (.int (if k then 1 else 0)) H
theorem call_intU : CallR X (.type "int") rIntU := call_int1
theorem rs_intU : RS K rIntU (f1 gInt) := rs_int
def rMaxU : List V → Hp → VK → Prop := fun xs H Q => ∃ i j, xs = [.int i, .int j] ∧ Q (.int (if j > i then j else i)) H
def rMinU : List V → Hp → VK → Prop := fun xs H Q => ∃ i j, xs = [.int i, .int j] ∧ Q (.int (if j < i then j else i)) H
theorem call_maxU (hc : X.calm = true) : CallR X (.builtin "max") rMaxU := call_max2 hc
theorem call_minU (hc : X.calm = true) : CallR X (.builtin "min") rMinU := call_min2 hc
def fMaxU : List Val → DE := f2I fun i j => .int (if j > i then j else i)
def fMinU : List Val → DE := f2I fun i j => .int (if j < i then j else i)
theorem rs_maxU : RS K rMaxU fMaxU := rs_max2
theorem rs_minU : RS K rMinU fMinU := rs_min2
def rTupleU (K : PySem.W.Frag) : List V → Hp → VK → Prop := fun xs H Q => ∃ p ys, xs = [.ref p] ∧ ((SqL K H p ys ∧ ∀ l, H l = none → Q (.ref l) (upd H l (.tup ys))) ∨ (SqT K H p ys ∧ Q (.ref p) H))
theorem call_tupleU : CallR X (.type "tuple") (rTupleU X.K) := call_tuple_of
theorem rs_tupleU : RS K (rTupleU K) fTuple := rs_tuple
def rListU (K : PySem.W.Frag) : List V → Hp → VK → Prop := fun xs H Q => ∃ p ys, xs = [.ref p] ∧ (SqL K H p ys ∨ SqT K H p ys) ∧ ∀ l, H l = none → Q (.ref l) (upd H l (.lst ys))
theorem call_listU : CallR X (.type "list") (rListU X.K) := call_list_of
theorem rs_listU : RS K (rListU K) fList := rs_list
def rDivmodU : List V → Hp → VK → Prop := fun xs H Q => ∃ i j, xs = [.int i, .int j] ∧ CDivP i j ∧ ∀ p, H p = none → Q (.ref p) (upd H p (.tup [.int (i / j), .int (i % j)]))
theorem call_divmodU : CallR X (.builtin "divmod") rDivmodU := call_divmodW
theorem rs_divmodU : RS K rDivmodU fDivmod := rs_divmod
theorem op_in1 : OpR X (compareOp .In) (rIn X.K false) := op_in_seq
theorem op_in2 : OpR X (compareOp .NotIn) (rIn X.K true) := op_notIn_seq
def rIsNU : R2 := fun x y H Q => y = .non ∧ Q (.bl (decide (x = .non))) H
def rNotNU : R2 := fun x y H Q => y = .non ∧ Q (.bl (!decide (x = .non))) H
theorem op_isNU : OpR X (compareOp .Is) rIsNU := op_isN
theorem op_notNU : OpR X (compareOp .IsNot) rNotNU := op_notN
theorem r2_isNU : R2S K rIsNU (fIs false) := r2_isN
theorem r2_notNU : R2S K rNotNU (fIs true) := r2_notN
end
/-! ### a def that may be called -/
structure CalG (P : Program) (w : World) (K : PySem.W.Frag) (mg : Str → Option Value) (base : Heap) (k n : Nat) (x : Str) (st : Stmt) (ps : List Str) (F : FD) : Prop where
  ex : ∃ (a : Addr) (fd : FuncData), Fun K x x st a fd ∧ mg x = some (.ref a) ∧ FnG P w K mg base k a fd ps (spF K n F) ∧ Binds K fd ps []
theorem bodyF_len {n m : Nat} {den : DS} : ∀ cells r, bodyF n m den cells = some r → cells.length = n := fun cells r e => by
  unfold bodyF at e
  split at e
  · assumption
  · cases e
section
variable {X : Cx} {j k n : Nat} {x : Str} {st : Stmt} {ps ks : List Str} {F : FD} {e : Expr} {es : List Expr} {kws : List Keyword} {t tk : TA} {p pos : Pos} {E : XK}
theorem pe_cal (C : CalG X.prog X.w X.K X.mg X.base k n x st ps F) (hr : Room j X.A) (hk : k ≤ j) (hgd : X.A.guards = some []) (hg : Gl X x) (ha : PA X (e :: es) t)
    (hdb : (x == ("__debug__" : Str)) = false := by decide) (he : starEach (e :: es) X.env = (false, eval e X.env) :: starEach es X.env := by rfl) (hpl : (backTo pos (starEach es X.env)).any (·.1) = false := by rfl) :
    PE X (.Call (.Name x p) (e :: es) [] pos) (tCall (spF X.K n F) [] E t) := by
  obtain ⟨a, fd, hF, hm, G, b⟩ := C.ex
  exact pe_callG G (hr.mono hk) hgd hg hm hF.kp b ha hdb he hpl
theorem pe_cal0 (C : CalG X.prog X.w X.K X.mg X.base k n x st [] F) (hr : Room j X.A) (hk : k ≤ j) (hgd : X.A.guards = some []) (hg : Gl X x)
    (hdb : (x == ("__debug__" : Str)) = false := by decide) : PE X (.Call (.Name x p) [] [] pos) (tCall (spF X.K n F) [] E tNil) := by
  obtain ⟨a, fd, hF, hm, G, b⟩ := C.ex
  exact pe_call0G G (hr.mono hk) hgd hg hm hF.kp b hdb
theorem pe_calK {π : List Nat} {m : Nat} (C : CalG X.prog X.w X.K X.mg X.base k n x st ps F) (hr : Room j X.A) (hk : k ≤ j) (hgd : X.A.guards = some []) (hg : Gl X x)
    (hb : ∀ (kV doc pm : Value) (an : Option Addr) (cdv ct : Value) (us ws : List Value), us.length = m → ws.length = ks.length → bindArgs (PySem.W.fnOf x x (defArgs st) (defBody st) (defScope st) .none kV doc pm an cdv ct) ⟨us, ks.zip ws⟩ = pure (ps.zip (π.filterMap fun (i : Nat) => (us ++ ws)[i]?)))
    (ha : PA X (e :: es) t) (hkw : PK X kws tk)
    (hall : (backToKw pos (keywordEach kws X.env)).all (·.1.isSome) = true := by rfl) (hks : (backToKw pos (keywordEach kws X.env)).filterMap (·.1) = ks := by rfl) (hdb : (x == ("__debug__" : Str)) = false := by decide)
    (he : starEach (e :: es) X.env = (false, eval e X.env) :: starEach es X.env := by rfl)
    (hpl : ((backTo pos (starEach (e :: es) X.env)).any (·.1) || (backToKw pos (keywordEach kws X.env)).any (·.1.isNone)) = false := by rfl) :
    PE X (.Call (.Name x p) (e :: es) kws pos) (tCallN m ks.length (spF X.K n F) (fun vs zs => permL π (vs ++ zs)) E t tk) := by
  obtain ⟨a, fd, hF, hm, G, b⟩ := C.ex
  exact pe_callGK G (hr.mono hk) hgd hg hm hF.kp (kbn_of hF hb) ha hkw hall hks hdb he hpl
theorem pe_cal0K {π : List Nat} (C : CalG X.prog X.w X.K X.mg X.base k n x st ps F) (hr : Room j X.A) (hk : k ≤ j) (hgd : X.A.guards = some []) (hg : Gl X x)
    (hb : ∀ (kV doc pm : Value) (an : Option Addr) (cdv ct : Value) (us ws : List Value), us.length = 0 → ws.length = ks.length → bindArgs (PySem.W.fnOf x x (defArgs st) (defBody st) (defScope st) .none kV doc pm an cdv ct) ⟨us, ks.zip ws⟩ = pure (ps.zip (π.filterMap fun (i : Nat) => (us ++ ws)[i]?)))
    (hkw : PK X kws tk)
    (hall : (backToKw pos (keywordEach kws X.env)).all (·.1.isSome) = true := by rfl) (hks : (backToKw pos (keywordEach kws X.env)).filterMap (·.1) = ks := by rfl) (hdb : (x == ("__debug__" : Str)) = false := by decide)
    (hpl : ((backTo pos (starEach [] X.env)).any (·.1) || (backToKw pos (keywordEach kws X.env)).any (·.1.isNone)) = false := by rfl) :
    PE X (.Call (.Name x p) [] kws pos) (tCallN 0 ks.length (spF X.K n F) (fun vs zs => permL π (vs ++ zs)) E tNil tk) := by
  obtain ⟨a, fd, hF, hm, G, b⟩ := C.ex
  exact pe_callG0K G (hr.mono hk) hgd hg hm hF.kp (kbn_of hF hb) hkw hall hks hdb hpl
end
/-- the facts that a head tells, as those of a def without defaults -/
theorem fun_of {K : PySem.W.Frag} {x qual : Str} {st : Stmt} {f : Addr} {fd : FuncData} (F : FunD K x qual (defArgs st) (defBody st) (defScope st) [] [] f fd) : Fun K x qual st f fd := by
  obtain ⟨oc, od, dV, kV, doc, pm, an, cdv, ct, osl, e, lk, hcd, hD, hK⟩ := F.ex
  rcases hD with ⟨_, rfl⟩ | ⟨z, _⟩
  · exact ⟨⟨oc, od, kV, doc, pm, an, cdv, ct, osl, e, by rw [lk, e], hcd⟩, F.kp⟩
  · exact absurd rfl z
end DL
end
section
set_option Elab.async false
set_option linter.all false
set_option maxRecDepth 100000
/-! Own dicts: made, put into, asked, walked; index; how many unlike ones. -/
namespace DL
open PySem PySem.Spec PyProof.Rows L2
section
variable {K : PySem.W.Frag} {X : Cx}
/-! ### tables of data -/
def valD (kvs : List (Key × D)) (k : Key) : Option D := (kvs.find? fun kv => decide (kv.1 = k)).map (·.2)
def putD (kvs : List (Key × D)) (k : Key) (d : D) : List (Key × D) :=
  if (kvs.any fun kv => decide (kv.1 = k)) = true then kvs.map (fun kv => if kv.1 = k then (kv.1, d) else kv) else kvs ++ [(k, d)]
def keyD : D → Option Key
  | .int i => some (.inl i)
  | .str x => some (.inr x)
  | _ => none
def keyU : Val → Option Key
  | .d x => keyD x
  | _ => none
theorem keyU_at {tmp0 tmp : Addr → Prop} {σ : L2.St} {H : Hp} {env : En} {u : V} {v : Val} {k : Key} (h : PostV K tmp0 tmp H σ env u v) (e : keyU v = some k) : u = kV k := by
  cases v with
  | d x =>
    have h' : Sh K (Nb tmp σ env) H u x := h
    cases h' <;> cases e <;> rfl
  | f b => cases e
  | b i => cases e
/-- two tables of the same keys, values that tell the data -/
structure Tab (K : PySem.W.Frag) (ok : Addr → Prop) (H : Hp) (ws : List (Key × V)) (kvs : List (Key × D)) : Prop where
  k : ws.map (·.1) = kvs.map (·.1)
  v : ShAll K ok H (ws.map (·.2)) (kvs.map (·.2))
variable {ok ok' : Addr → Prop} {H H' : Hp}
theorem Tab.goes {ws : List (Key × V)} {kvs : List (Key × D)} (h : Tab K ok H ws kvs) (g : Go ok ok' H H') : Tab K ok' H' ws kvs := ⟨h.k, h.v.goes g⟩
theorem Tab.nil : Tab K ok H [] [] := ⟨rfl, .nil⟩
theorem Tab.cons_inv {ws : List (Key × V)} {p : Key × D} {kvs : List (Key × D)} (h : Tab K ok H ws (p :: kvs)) : ∃ v r, ws = (p.1, v) :: r ∧ Sh K ok H v p.2 ∧ Tab K ok H r kvs := by
  obtain ⟨hk, hv⟩ := h
  match ws, hk, hv with
  | (k, v) :: r, hk, hv =>
    have e1 : k = p.1 := (List.cons.inj hk).1
    have e2 := (List.cons.inj hk).2
    subst e1
    cases hv with
    | cons a b => exact ⟨v, r, rfl, a, e2, b⟩
theorem Tab.nil_inv {ws : List (Key × V)} (h : Tab K ok H ws []) : ws = [] := by
  have := congrArg List.length h.k
  rw [List.length_map, List.length_map] at this
  exact List.eq_nil_of_length_eq_zero this
theorem Tab.cons {ws : List (Key × V)} {kvs : List (Key × D)} {k : Key} {v : V} {d : D} (a : Sh K ok H v d) (h : Tab K ok H ws kvs) : Tab K ok H ((k, v) :: ws) ((k, d) :: kvs) := ⟨by rw [List.map_cons, List.map_cons, h.k], .cons a h.v⟩
theorem Tab.length {ws : List (Key × V)} {kvs : List (Key × D)} (h : Tab K ok H ws kvs) : ws.length = kvs.length := by
  have := congrArg List.length h.k
  rwa [List.length_map, List.length_map] at this
theorem Tab.val : ∀ {kvs : List (Key × D)} {ws : List (Key × V)} {k : Key}, Tab K ok H ws kvs → (valV ws k).isSome = (valD kvs k).isSome ∧ ∀ d, valD kvs k = some d → ∃ v, valV ws k = some v ∧ Sh K ok H v d
  | [], ws, k, h => by
    cases h.nil_inv
    exact ⟨rfl, fun d e => by cases e⟩
  | p :: kvs, ws, k, h => by
    obtain ⟨v, r, rfl, a, h'⟩ := h.cons_inv
    by_cases e : p.1 = k
    · have b : valD (p :: kvs) k = some p.2 := by simp [valD, List.find?_cons, e]
      rw [valV_pos (p := (p.1, v)) e, b]
      exact ⟨rfl, fun d z => by cases z; exact ⟨v, rfl, a⟩⟩
    · have b : valD (p :: kvs) k = valD kvs k := by simp [valD, List.find?_cons, e]
      rw [valV_neg (p := (p.1, v)) e, b]
      exact Tab.val h'
theorem Tab.any : ∀ {kvs : List (Key × D)} {ws : List (Key × V)} (k : Key), Tab K ok H ws kvs → (ws.any fun kv => decide (kv.1 = k)) = kvs.any fun kv => decide (kv.1 = k)
  | [], ws, k, h => by cases h.nil_inv; rfl
  | p :: kvs, ws, k, h => by
    obtain ⟨v, r, rfl, a, h'⟩ := h.cons_inv
    rw [List.any_cons, List.any_cons, Tab.any k h']
theorem Tab.repl {k : Key} {v : V} {d : D} (hd : Sh K ok H v d) : ∀ {kvs : List (Key × D)} {ws : List (Key × V)}, Tab K ok H ws kvs → Tab K ok H (ws.map fun kv => if kv.1 = k then (kv.1, v) else kv) (kvs.map fun kv => if kv.1 = k then (kv.1, d) else kv)
  | [], ws, h => by cases h.nil_inv; exact .nil
  | p :: kvs, ws, h => by
    obtain ⟨w, r, rfl, a, h'⟩ := h.cons_inv
    have ih := Tab.repl (k := k) hd h'
    rw [List.map_cons, List.map_cons]
    by_cases e : p.1 = k
    · rw [if_pos e, if_pos e]
      exact .cons hd ih
    · rw [if_neg e, if_neg e]
      exact .cons a ih
theorem Tab.snoc {k : Key} {v : V} {d : D} (hd : Sh K ok H v d) {kvs : List (Key × D)} {ws : List (Key × V)} (h : Tab K ok H ws kvs) : Tab K ok H (ws ++ [(k, v)]) (kvs ++ [(k, d)]) :=
  ⟨by rw [List.map_append, List.map_append, h.k]; rfl, by rw [List.map_append, List.map_append]; exact h.v.append (.cons hd .nil)⟩
theorem Tab.put {k : Key} {v : V} {d : D} (hd : Sh K ok H v d) {kvs : List (Key × D)} {ws : List (Key × V)} (h : Tab K ok H ws kvs) : Tab K ok H (putK ws k v) (putD kvs k d) := by
  unfold putK putD
  rw [h.any k]
  split
  · exact h.repl hd
  · exact h.snoc hd
/-! ### an own dict -/
def mapOf (env : En) : Val → Option (List (Key × D))
  | .f (.m kvs) => some kvs
  | .b i => match env[i]? with
    | some (Cl.o _ (.m kvs)) => some kvs
    | _ => none
  | _ => none
theorem mapOf_at {pa : Nat → Option Addr} {tmp0 tmp : Addr → Prop} {σ : L2.St} {H : Hp} {env : En} {u : V} {v : Val} {kvs : List (Key × D)} (I : Okk K pa tmp H σ env) (h : PostV K tmp0 tmp H σ env u v) (e : mapOf env v = some kvs) : ∃ p ws, u = .ref p ∧ H p = some (.dK ws) ∧ Tab K (Nb tmp σ env) H ws kvs := by
  unfold mapOf at e
  split at e
  · cases e
    obtain ⟨p, h1, _, _, _, ws, h4, h5, h6⟩ := h
    exact ⟨p, ws, h1, h4, h5, h6⟩
  · split at e
    · rename_i k ys ei
      cases e
      obtain ⟨p, h1, ⟨ws, h2, h3, h4⟩, _⟩ := I.own _ _ _ ei
      have h' : σ[_]? = some (some u) := h
      rw [h1] at h'
      cases h'
      exact ⟨p, ws, rfl, h2, h3, h4⟩
    · cases e
  · cases e
def ownM (env : En) (s : Nat) : Option (Option Nat × List (Key × D)) := match env[s]? with
  | some (Cl.o kk (.m xs)) => some (kk, xs)
  | _ => none
theorem ownM_at {env : En} {s : Nat} {kk : Option Nat} {xs : List (Key × D)} (e : ownM env s = some (kk, xs)) : env[s]? = some (Cl.o kk (.m xs)) := by
  unfold ownM at e
  split at e
  · rename_i h; cases e; exact h
  · cases e
theorem map_new {pa : Nat → Option Addr} {tmp tmp1 : Addr → Prop} {σ : L2.St} {H : Hp} {env : En} {ws : List (Key × V)} {kvs : List (Key × D)} {p : Addr} (I : Okk K pa tmp1 H σ env) (h0 : ∀ p, tmp p → tmp1 p) (hs : Tab K (Nb tmp σ env) H ws kvs) (n : H p = none) :
    Sp1 σ env env tmp (mor tmp p) H (upd H p (.dK ws)) ∧ Okk K pa (mor tmp p) (upd H p (.dK ws)) σ env ∧ PostV K tmp (mor tmp p) (upd H p (.dK ws)) σ env (.ref p) (.f (.m kvs)) := by
  have ns := notSlot_none I n
  have nt : ¬ tmp p := fun z => I.tin p (h0 p z) n
  have t2 : Tab K (Nb (mor tmp p) σ env) (upd H p (.dK ws)) ws kvs := hs.goes fun a o e k => ⟨grow_upd n a o e, fun z => by
    rcases z with z | z | z
    · exact k (.inl z)
    · exact k (.inr z)
    · rw [z, n] at e; cases e⟩
  exact ⟨.more n (grow_upd n), (I.less h0).more n (grow_upd n) (by rw [upd_same]; exact fun z => by cases z), p, rfl, .inr rfl, nt, ns, ws, upd_same, t2.k, t2.v⟩
/-! {} -/
def dDNew : DE := fun env => some (.f (.m []), env)
theorem se_dnew : SE K tDNewK dDNew := by
  intro pa tmp σ H env I val env' e Q q
  cases e
  intro p n
  obtain ⟨s2, I2, h2⟩ := map_new (ws := []) (kvs := []) I (fun _ h => h) .nil n
  exact q _ _ _ s2 I2 h2
/-! d[k] = v -/
def dPutS (s : Nat) (ix a : DE) : DS := fun env => (a env).bind fun p => (asD p.1).bind fun d => (ownM p.2 s).bind fun _ => (ix p.2).bind fun q => (keyU q.1).bind fun k => (ownM q.2 s).bind fun o =>
  if szOk (o.2.length + 1) then some (.nx, q.2.set s (.o o.1 (.m (putD o.2 k d)))) else none
theorem ss_dput {s : Nat} {ti te : TE} {ix a : DE} (hi : SE K ti ix) (ha : SE K te a) : SS K (sDPut (tVar s) ti te) (dPutS s ix a) := by
  intro pa tmp σ H env I fl env' e E q
  obtain ⟨⟨v, e1⟩, ev, e⟩ := Option.bind_eq_some_iff.mp e
  obtain ⟨d, ed, e⟩ := Option.bind_eq_some_iff.mp e
  obtain ⟨⟨k0, ys⟩, e0, e⟩ := Option.bind_eq_some_iff.mp e
  obtain ⟨⟨w, e2⟩, ew, e⟩ := Option.bind_eq_some_iff.mp e
  obtain ⟨k, ek, e⟩ := Option.bind_eq_some_iff.mp e
  obtain ⟨⟨kk, xs⟩, es, e⟩ := Option.bind_eq_some_iff.mp e
  split at e
  · rename_i hz
    cases e
    refine ha pa tmp σ H env I v e1 ev _ fun u H1 t1 s1 I1 p1 => ?_
    have hd := asD_at I1 s1.inc p1 ed
    have I1' := I1.less s1.inc
    have s1' := s1.less s1.inc fun _ h => h
    obtain ⟨p, h1, _⟩ := I1'.own s k0 _ (ownM_at e0)
    refine ⟨_, h1, hi pa tmp σ H1 e1 I1' w e2 ew _ fun y H2 t2 s2 I2 p2 => ?_⟩
    cases keyU_at p2 ek
    have I2' := I2.less s2.inc
    have s2' := s2.less s2.inc fun _ h => h
    have hd2 := hd.goes s2'.goes
    obtain ⟨p', h1', ⟨ws, h2, h3, h4⟩, _⟩ := I2'.own s kk _ (ownM_at es)
    rw [h1] at h1'
    cases h1'
    have T : Tab K (Nb tmp σ e2) H2 ws xs := ⟨h3, h4⟩
    have T2 := T.put (k := k) hd2
    obtain ⟨I3, s3⟩ := I2'.setB (o := .dK (putK ws k u)) (b' := .m (putD xs k d)) (ownM_at es) h1 (boxM T2.k T2.v)
    have hl : xs.length + 1 ≤ sizeLine := szOk_le hz
    exact ⟨p, _, rfl, .inl ⟨ws, k, h2, rfl, by rw [T.length]; omega, rfl⟩, q σ _ ((s1'.trans s2').trans s3).sp2 I3⟩
  · cases e
/-! d[k] -/
def dGetS (a ix : DE) : DE := fun env => (a env).bind fun p => (ix p.2).bind fun q => (keyU q.1).bind fun k => (mapOf q.2 p.1).bind fun kvs => (valD kvs k).map fun d => (.d d, q.2)
theorem se_dget {ta ti : TE} {a ix : DE} (ha : SE K ta a) (hi : SE K ti ix) : SE K (tDGet ta ti) (dGetS a ix) := by
  intro pa tmp σ H env I val env' e Q q
  obtain ⟨⟨x, e1⟩, ex, e⟩ := Option.bind_eq_some_iff.mp e
  obtain ⟨⟨y, e2⟩, ey, e⟩ := Option.bind_eq_some_iff.mp e
  obtain ⟨k, ek, e⟩ := Option.bind_eq_some_iff.mp e
  obtain ⟨kvs, em, e⟩ := Option.bind_eq_some_iff.mp e
  obtain ⟨d, ed, e⟩ := Option.map_eq_some_iff.mp e
  cases e
  refine ha pa tmp σ H env I x e1 ex _ fun u H1 t1 s1 I1 p1 => hi pa t1 σ H1 e1 I1 y e2 ey _ fun w H2 t2 s2 I2 p2 => ?_
  cases keyU_at p2 ek
  obtain ⟨p, ws, rfl, h2, T⟩ := mapOf_at I2 (p1.step s2) em
  obtain ⟨_, hv⟩ := T.val (k := k)
  obtain ⟨v, hv1, hv2⟩ := hv d ed
  exact ⟨p, v, rfl, .inl ⟨ws, k, .inl h2, rfl, hv1.symm⟩, q v H2 t2 (s1.trans s2) I2 hv2⟩
/-! k in d -/
def rDInK (neg : Bool) : R2 := fun y x H Q => ∃ a o, x = .ref a ∧ DGet H a y o ∧ Q (.bl (o.isSome != neg)) H
theorem op_inD (hu : X.A.units + 64 < cLine) : OpR X (compareOp .In) (rDInK false) := by
  intro pins s σ H y x v u Q I ry rx h
  obtain ⟨a, o, rfl, g, q⟩ := h
  obtain rfl : u = Value.ref a := rx
  exact d_in (by omega) I g ry fun s3 I3 => ⟨.bl o.isSome, H, I3, rfl, by rw [Bool.bne_false] at q; exact q⟩
theorem op_notInD (hu : X.A.units + 64 < cLine) : OpR X (compareOp .NotIn) (rDInK true) := by
  intro pins s σ H y x v u Q I ry rx h
  obtain ⟨a, o, rfl, g, q⟩ := h
  obtain rfl : u = Value.ref a := rx
  exact d_notIn (by omega) I g ry fun s3 I3 => ⟨.bl (!o.isSome), H, I3, rfl, by rw [Bool.bne_true] at q; exact q⟩
def fInD (neg : Bool) : Val → Val → DE := fun x y env => (keyU x).bind fun k => (mapOf env y).map fun kvs => (.d (.bool ((valD kvs k).isSome != neg)), env)
theorem r2_inD {neg : Bool} : R2S K (rDInK neg) (fInD neg) := by
  intro pa tmp0 tmp σ H env I h0 u1 v1 u2 v2 p1 p2 val env' e Q q
  obtain ⟨k, ek, e⟩ := Option.bind_eq_some_iff.mp e
  obtain ⟨kvs, em, e⟩ := Option.map_eq_some_iff.mp e
  cases e
  cases keyU_at p1 ek
  obtain ⟨p, ws, rfl, h2, T⟩ := mapOf_at I p2 em
  have hv := (T.val (k := k)).1
  rw [← hv] at q
  exact ⟨p, valV ws k, rfl, .inl ⟨ws, k, .inl h2, rfl, rfl⟩, q _ H tmp .refl I (.bl _)⟩
def isMapV (env : En) (v : Val) : Bool := (mapOf env v).isSome
def rInU (K : PySem.W.Frag) (neg : Bool) : R2 := fun x y H Q => rDInK neg x y H Q ∨ rIn K neg x y H Q
def fInU (neg : Bool) : Val → Val → DE := fun a b env => if isMapV env b then fInD neg a b env else fIn neg a b env
theorem op_inU (hu : X.A.units + 64 < cLine) : OpR X (compareOp .In) (rInU X.K false) := OpR.or (op_inD hu) op_in1
theorem op_notInU (hu : X.A.units + 64 < cLine) : OpR X (compareOp .NotIn) (rInU X.K true) := OpR.or (op_notInD hu) op_in2
theorem r2_inU {neg : Bool} : R2S K (rInU K neg) (fInU neg) := R2S.or1 (fun _ b env => isMapV env b) r2_inD r2_in
/-! len of a dict too -/
def rLenW (K : PySem.W.Frag) : List V → Hp → VK → Prop := fun xs H Q => rLenU K xs H Q ∨ ∃ p kvs, xs = [.ref p] ∧ H p = some (.dK kvs) ∧ Q (.int kvs.length) H
theorem call_lenW : CallR X (.builtin "len") (rLenW X.K) := by
  intro pins s σ H vs us Q I r h
  rcases h with h | ⟨p, kvs, rfl, hp, q⟩
  · exact call_lenU pins s σ H vs us Q I r h
  · obtain ⟨u, rfl, ru⟩ := vals1 r
    obtain rfl : u = Value.ref p := ru
    exact d_len I (.inl hp) fun t s' I' => ⟨.int kvs.length, H, I', ⟨t, rfl⟩, q⟩
def gLenW : En → Val → Option D := fun env v => match mapOf env v with
  | some kvs => some (.int kvs.length)
  | none => gLen env v
theorem rs_lenW : RS K (rLenW K) (f1 gLenW) := by
  intro pa tmp0 tmp σ H env I h0 us vs p val env' e Q q
  unfold f1 at e
  split at e
  · rename_i v
    obtain ⟨z, ez, e⟩ := Option.map_eq_some_iff.mp e
    cases e
    match us, p with
    | [u], p =>
      unfold gLenW at ez
      split at ez
      · rename_i kvs em
        cases ez
        obtain ⟨a, ws, rfl, h2, T⟩ := mapOf_at I p.1 em
        exact .inr ⟨a, ws, rfl, h2, by rw [T.length]; exact q _ H tmp .refl I (.int _)⟩
      · exact .inl (rs_lenU pa tmp0 tmp σ H env I h0 [u] [v] p _ _ (by show (gLen env v).map _ = _; rw [ez]; rfl) Q q)
  · cases e
/-! len(set(xs)), ints -/
def undbl (ns : List Int) : List Int := ns.foldl step_dedup []
def tLenSetW (K : PySem.W.Frag) (ta : TE) : TE := fun σ H Q => ta σ H fun x H1 => ∃ (l : Addr) (ns : List Int), x = V.ref l ∧ SqL K H1 l (ns.map V.int) ∧ ns.length < 4000 ∧ Q (.int (undbl ns).length) H1
theorem firstMet_all (ns : List Int) : firstMet (fun i => ns.getD i 0) ns.length = undbl ns := by
  unfold firstMet undbl
  congr 1
  apply List.ext_getElem
  · simp
  · intro i h1 h2
    simp [List.getD_eq_getElem?_getD, List.getElem?_eq_getElem h2]
theorem pe_lenSetW {a : Expr} {ta : TE} {p p2 q pos : Pos} (hc : X.calm = true) (hg : Gl X "len") (hm : X.mg "len" = none) (hg2 : Gl X "set") (hm2 : X.mg "set" = none) (ha : PE X a ta)
    (na : starEach [a] X.env = (false, eval a X.env) :: starEach [] X.env := by rfl) : PE X (.Call (.Name "len" p) [.Call (.Name "set" p2) [a] [] q] [] pos) (tLenSetW X.K ta) := by
  refine ⟨fun pins s σ H Q I h => ?_⟩
  refine Call_ (ld_blt I hg hm PySem.boot_len ?_)
  refine PyProof.Rows.callWith_builtin1 (PyProof.Rows.args_cons ?_ rfl) rfl rfl
  refine Call_ (ld_blt I hg2 hm2 PyProof.Rows.boot_set ?_)
  refine PyProof.Rows.callWith_type1 (PyProof.Rows.args_cons (thn (ha.run pins s σ H _ I h) fun v s1 ⟨x, H1, I1, r1, q1⟩ => PyProof.Rows.args_nil ?_) na) na rfl
  obtain ⟨l, ns, rfl, hq, h1, q1⟩ := q1
  cases r1
  obtain ⟨its, r, pl, hz⟩ := I1.list hq
  have hl : its.toArray.size = ns.length := by rw [List.size_toArray, ← r.length, List.length_map]
  refine call_set_list (I1.ok.hd hc) pl.isList (ns := ns) (by simpa using r.ints) (by unfold scanBound; omega) fun h' tk hS hk => ?_
  have hle := firstMet_length_le (fun i => ns.getD i 0) ns.length
  rw [hl] at hS
  rw [firstMet_all] at hS hle
  refine PyProof.Rows.args_nil ?_
  obtain ⟨o, es, ep, t, ho, hex, hd, _, _, _, hf, hn⟩ := hS
  have I2 : Inv X pins σ H1 { s1 with heap := h', toks := tk } := I1.kept fun b o e => hk b o (Heap.lt_size e) e
  refine call_len_set ho hex hd hf (by rw [hn] <;> omega) ⟨.int (undbl ns).length, H1, I2.tok _, ⟨_, by rw [hn]⟩, q1⟩
def dLenSet (a : DE) : DE := fun env => (a env).bind fun p => (listOf p.2 p.1).bind fun xs => (intsOf xs).bind fun ns => if ns.length < 4000 then some (.d (.int (undbl ns).length), p.2) else none
theorem se_lenSet {ta : TE} {a : DE} (ha : SE K ta a) : SE K (tLenSetW K ta) (dLenSet a) := by
  intro pa tmp σ H env I val env' e Q q
  obtain ⟨⟨x, e1⟩, ex, e⟩ := Option.bind_eq_some_iff.mp e
  obtain ⟨xs, exs, e⟩ := Option.bind_eq_some_iff.mp e
  obtain ⟨ns, en, e⟩ := Option.bind_eq_some_iff.mp e
  split at e
  · rename_i hz
    cases e
    refine ha pa tmp σ H env I x e1 ex _ fun u H1 t1 s1 I1 p1 => ?_
    obtain ⟨p, vs, rfl, h2, h3⟩ := listOf_at I1 p1 exs
    rw [intsOf_eq en] at h3
    rw [h3.ints] at h2
    exact ⟨p, ns, rfl, h2, hz, q _ H1 t1 s1 I1 (.int _)⟩
  · cases e
end
end DL
end
section
set_option Elab.async false
set_option linter.all false
set_option maxRecDepth 100000
/-! gcd; a head with one look more. -/
namespace DL
open PySem PySem.Spec PyProof.Rows L2
def fGcd : List Val → DE := f2I fun i j => .int ((Nat.gcd i.natAbs j.natAbs : Nat) : Int)
theorem rs_gcdU {K : PySem.W.Frag} : RS K rGcd fGcd := rs_gcd
abbrev tTruth (K : PySem.W.Frag) (ta : TE) : TT := fun σ H Q => ta σ H fun x H' => ∃ k, TruV K x H' k ∧ Q k H'
/-! ### a head with one look more -/
def obsE (ex : PySem.W.Frag → Bool) (fa : List He.Fa) (fn : List He.DefD) (K : PySem.W.Frag) : He.AlD := (ex K && (He.obsD fa fn K).1, (He.obsD fa fn K).2)
def SaysE (ex : PySem.W.Frag → Bool) (fa : List He.Fa) (fn : List He.DefD) (K : PySem.W.Frag) : Prop := ex K = true ∧ He.SaysD fa fn K
theorem saysE_of {ex : PySem.W.Frag → Bool} {fa : List He.Fa} {fn : List He.DefD} {K : PySem.W.Frag} (h : obsE ex fa fn K = He.valD fn) : SaysE ex fa fn K := by
  have h1 : (ex K && (He.obsD fa fn K).1) = true := congrArg (fun z : He.AlD => z.1) h
  have h2 : (obsE ex fa fn K).2 = (He.valD fn).2 := congrArg (fun z : He.AlD => z.2) h
  obtain ⟨a, b⟩ := He.ba h1
  exact ⟨a, Prod.ext b h2⟩
def obsEG (n : Nat) (ex : PySem.W.Frag → Bool) (fa : List He.Fa) (fn : List He.DefD) (g : Addr → Option Obj) : He.AlD := obsE ex fa fn (He.frG g (He.asD g n))
def hookE (n : Nat) (ex : PySem.W.Frag → Bool) (fa : List He.Fa) (fn : List He.DefD) : PySem.W.Hook where
  α := He.AlD
  obs := fun s => obsEG n ex fa fn s.heap.get?
  val := fun _ => He.valD fn
  says := fun _ h => ∃ K : PySem.W.Frag, K.In h ∧ SaysE ex fa fn K
  of := fun _ _ e => ⟨_, He.frG_in, saysE_of e⟩
  keeps := fun _ _ _ ⟨K, hK, c⟩ k => ⟨K, PySem.W.Frag.In.keeps hK k, c⟩
theorem obsEG_eq {n : Nat} {ex : PySem.W.Frag → Bool} {fa : List He.Fa} {fn : List He.DefD} {g : Addr → Option Obj} {s : Shared} (h : ∀ a, g a = s.heap.get? a) : obsEG n ex fa fn g = (hookE n ex fa fn).obs s := by
  have e : g = s.heap.get? := funext h
  rw [e] <;> rfl
/-- the module's name x is that built-in -/
def isBlt (x : Str) (id : String) (K : PySem.W.Frag) : Bool := He.eqO (PySem.W.nsIn K mainGlobals x) (some (some (.builtin id)))
theorem isBlt_ok {K : PySem.W.Frag} {h : Heap} {mg : Str → Option Value} (X : K.In h) (G : h.Ns mainGlobals mg) {x : Str} {id : String} (c : isBlt x id K = true) : mg x = some (.builtin id) := PySem.W.mg_of X G (He.eqO_ok c)
end DL
end
section
set_option Elab.async false
set_option linter.all false
set_option maxRecDepth 100000
/-! a, b = .. where one of the values is a new box. -/
namespace DL
open PySem PySem.Spec PyProof.Rows L2
section
variable {K : PySem.W.Frag}
theorem post_f {tmp0 t : Addr → Prop} {σ σ' : L2.St} {e e' : En} {H : Hp} {u : V} {b : Box} (s : Sp2 σ σ' e e' t t H H) (h : PostV K tmp0 t H σ e u (.f b)) : PostV K tmp0 t H σ' e' u (.f b) := by
  obtain ⟨p, h1, h2, h3, h4, h5⟩ := h
  refine ⟨p, h1, h2, h3, fun z => ?_, h5.goes s.go rfl⟩
  rcases s.slots p z with z | z
  · exact h4 z
  · obtain ⟨o, eo⟩ := h5.tracked
    rw [eo] at z
    cases z
theorem set_fresh {pa : Nat → Option Addr} {tmp t : Addr → Prop} {σ σ2 : L2.St} {env e2 : En} {H H' : Hp} {u : V} {b : Box} {i : Nat} (S : Sp2 σ σ2 env e2 tmp t H H') (I : Okk K pa t H' σ2 e2) (h : PostV K tmp t H' σ2 e2 u (.f b)) :
    Sp2 σ (σ2.set i (some u)) env (e2.set i (.o none b)) tmp tmp H H' ∧ Okk K pa tmp H' (σ2.set i (some u)) (e2.set i (.o none b)) := by
  obtain ⟨p, rfl, h2, h3, h4, h5⟩ := h
  obtain ⟨I2, sl⟩ := I.setF (i := i) S.inc h2 h3 h4 h5
  refine ⟨⟨S.keep, fun r hr => ?_, fun _ h => h, fun _ h => .inl h, S.trk⟩, I2⟩
  rcases sl r hr with z | z
  · exact S.slots r z
  · subst z
    rcases S.new r h2 with z | z
    · exact absurd z h3
    · exact .inr z
def dPar2X (i j : Nat) (a : DA) : DS := fun env => (a env).bind fun p => match p.1 with
  | [.d x, .d y] => some (.nx, (p.2.set i (.d x)).set j (.d y))
  | [.f b, .d y] => some (.nx, (p.2.set i (.o none b)).set j (.d y))
  | [.d x, .f b] => some (.nx, (p.2.set i (.d x)).set j (.o none b))
  | _ => none
theorem ss_par2X {ta : TA} {a : DA} {i j : Nat} (hij : i ≠ j) (ha : SA K ta a) : SS K (tPar i j ta) (dPar2X i j a) := by
  intro pa tmp σ H env I fl env' e E q
  obtain ⟨⟨v, e1⟩, ex, e⟩ := Option.bind_eq_some_iff.mp e
  refine ha pa tmp σ H env I v e1 ex _ fun us H' t s I' p' => ?_
  dsimp only at e
  split at e
  · rename_i x y
    cases e
    match us, p' with
    | [u1, u2], p' =>
      obtain ⟨p1, p2, _⟩ := p'
      obtain ⟨I2, s2⟩ := I'.setD (i := i) p1
      obtain ⟨I3, s3⟩ := I2.setD (i := j) (Sh.goes s2.go p2)
      exact ⟨_, _, rfl, q _ H' (((s.sp2.trans s2).trans s3).less s.inc fun _ h => h) (I3.less s.inc)⟩
  · rename_i b y
    cases e
    match us, p' with
    | [u1, u2], p' =>
      obtain ⟨p1, p2, _⟩ := p'
      obtain ⟨I2, s2⟩ := I'.setD (i := j) p2
      obtain ⟨s3, I3⟩ := set_fresh (i := i) (s.sp2.trans s2) I2 (post_f s2 p1)
      rw [List.set_comm _ _ (Ne.symm hij), List.set_comm _ _ (Ne.symm hij)] at I3 s3
      exact ⟨_, _, rfl, q _ H' s3 I3⟩
  · rename_i x b
    cases e
    match us, p' with
    | [u1, u2], p' =>
      obtain ⟨p1, p2, _⟩ := p'
      obtain ⟨I2, s2⟩ := I'.setD (i := i) p1
      obtain ⟨s3, I3⟩ := set_fresh (i := j) (s.sp2.trans s2) I2 (post_f s2 p2)
      exact ⟨_, _, rfl, q _ H' s3 I3⟩
  · cases e
def dPar3X (i j l : Nat) (a : DA) : DS := fun env => (a env).bind fun p => match p.1 with
  | [.d x, .d y, .d z] => some (.nx, ((p.2.set i (.d x)).set j (.d y)).set l (.d z))
  | [.f b, .d y, .d z] => some (.nx, ((p.2.set i (.o none b)).set j (.d y)).set l (.d z))
  | [.d x, .f b, .d z] => some (.nx, ((p.2.set i (.d x)).set j (.o none b)).set l (.d z))
  | [.d x, .d y, .f b] => some (.nx, ((p.2.set i (.d x)).set j (.d y)).set l (.o none b))
  | _ => none
theorem ss_par3X {ta : TA} {a : DA} {i j l : Nat} (hij : i ≠ j) (hil : i ≠ l) (hjl : j ≠ l) (ha : SA K ta a) : SS K (tPar3 i j l ta) (dPar3X i j l a) := by
  intro pa tmp σ H env I fl env' e E q
  obtain ⟨⟨v, e1⟩, ex, e⟩ := Option.bind_eq_some_iff.mp e
  refine ha pa tmp σ H env I v e1 ex _ fun us H' t s I' p' => ?_
  dsimp only at e
  split at e
  · rename_i x y z
    cases e
    match us, p' with
    | [u1, u2, u3], p' =>
      obtain ⟨p1, p2, p3, _⟩ := p'
      obtain ⟨I2, s2⟩ := I'.setD (i := i) p1
      obtain ⟨I3, s3⟩ := I2.setD (i := j) (Sh.goes s2.go p2)
      obtain ⟨I4, s4⟩ := I3.setD (i := l) (Sh.goes s3.go (Sh.goes s2.go p3))
      exact ⟨_, _, _, rfl, q _ H' ((((s.sp2.trans s2).trans s3).trans s4).less s.inc fun _ h => h) (I4.less s.inc)⟩
  · rename_i b y z
    cases e
    match us, p' with
    | [u1, u2, u3], p' =>
      obtain ⟨p1, p2, p3, _⟩ := p'
      obtain ⟨I2, s2⟩ := I'.setD (i := j) p2
      obtain ⟨I3, s3⟩ := I2.setD (i := l) (Sh.goes s2.go p3)
      obtain ⟨s4, I4⟩ := set_fresh (i := i) ((s.sp2.trans s2).trans s3) I3 (post_f s3 (post_f s2 p1))
      have c : ∀ {α : Type} (xs : List α) (u v w : α), (((xs.set j v).set l w).set i u) = (((xs.set i u).set j v).set l w) := fun xs u v w => by
        rw [List.set_comm _ _ (Ne.symm hil), List.set_comm _ _ (Ne.symm hij)]
      rw [c, c] at I4 s4
      exact ⟨_, _, _, rfl, q _ H' s4 I4⟩
  · rename_i x b z
    cases e
    match us, p' with
    | [u1, u2, u3], p' =>
      obtain ⟨p1, p2, p3, _⟩ := p'
      obtain ⟨I2, s2⟩ := I'.setD (i := i) p1
      obtain ⟨I3, s3⟩ := I2.setD (i := l) (Sh.goes s2.go p3)
      obtain ⟨s4, I4⟩ := set_fresh (i := j) ((s.sp2.trans s2).trans s3) I3 (post_f s3 (post_f s2 p2))
      have c : ∀ {α : Type} (xs : List α) (u v w : α), (((xs.set i u).set l w).set j v) = (((xs.set i u).set j v).set l w) := fun xs u v w => by
        rw [List.set_comm _ _ (Ne.symm hjl)]
      rw [c, c] at I4 s4
      exact ⟨_, _, _, rfl, q _ H' s4 I4⟩
  · rename_i x y b
    cases e
    match us, p' with
    | [u1, u2, u3], p' =>
      obtain ⟨p1, p2, p3, _⟩ := p'
      obtain ⟨I2, s2⟩ := I'.setD (i := i) p1
      obtain ⟨I3, s3⟩ := I2.setD (i := j) (Sh.goes s2.go p2)
      obtain ⟨s4, I4⟩ := set_fresh (i := l) ((s.sp2.trans s2).trans s3) I3 (post_f s3 (post_f s2 p3))
      exact ⟨_, _, _, rfl, q _ H' s4 I4⟩
  · cases e
end
end DL
end
section
set_option Elab.async false
set_option linter.all false
set_option maxRecDepth 100000
/-! min, max of a list; repr of a number; sorted; a dict of one pair. -/
namespace DL
open PySem PySem.Spec PyProof.Rows L2
section
variable {K : PySem.W.Frag} {X : Cx}
def mxI : List Int → Option Int
  | [] => none
  | x :: xs => match mxI xs with
    | none => some x
    | some y => some (if x < y then y else x)
def mnI : List Int → Option Int
  | [] => none
  | x :: xs => match mnI xs with
    | none => some x
    | some y => some (if y < x then y else x)
theorem mxI_none {xs : List Int} (e : mxI xs = none) : xs = [] := by
  cases xs with
  | nil => rfl
  | cons x xs =>
    unfold mxI at e
    split at e <;> cases e
theorem mnI_none {xs : List Int} (e : mnI xs = none) : xs = [] := by
  cases xs with
  | nil => rfl
  | cons x xs =>
    unfold mnI at e
    split at e <;> cases e
theorem mxI_spec : ∀ {xs : List Int} {m : Int}, mxI xs = some m → m ∈ xs ∧ ∀ y ∈ xs, y ≤ m
  | [], m, e => by cases e
  | x :: xs, m, e => by
    unfold mxI at e
    split at e
    · rename_i h
      cases e
      cases mxI_none h
      exact ⟨List.mem_cons_self, fun y hy => by rw [List.mem_singleton.mp hy]; exact Int.le_refl _⟩
    · rename_i z h
      cases e
      obtain ⟨h1, h2⟩ := mxI_spec h
      by_cases hlt : x < z
      · rw [if_pos hlt]
        refine ⟨List.mem_cons_of_mem _ h1, fun y hy => ?_⟩
        rcases List.mem_cons.mp hy with q | q
        · omega
        · exact h2 y q
      · rw [if_neg hlt]
        refine ⟨List.mem_cons_self, fun y hy => ?_⟩
        rcases List.mem_cons.mp hy with q | q
        · omega
        · have := h2 y q; omega
theorem mnI_spec : ∀ {xs : List Int} {m : Int}, mnI xs = some m → m ∈ xs ∧ ∀ y ∈ xs, m ≤ y
  | [], m, e => by cases e
  | x :: xs, m, e => by
    unfold mnI at e
    split at e
    · rename_i h
      cases e
      cases mnI_none h
      exact ⟨List.mem_cons_self, fun y hy => by rw [List.mem_singleton.mp hy]; exact Int.le_refl _⟩
    · rename_i z h
      cases e
      obtain ⟨h1, h2⟩ := mnI_spec h
      by_cases hlt : z < x
      · rw [if_pos hlt]
        refine ⟨List.mem_cons_of_mem _ h1, fun y hy => ?_⟩
        rcases List.mem_cons.mp hy with q | q
        · omega
        · exact h2 y q
      · rw [if_neg hlt]
        refine ⟨List.mem_cons_self, fun y hy => ?_⟩
        rcases List.mem_cons.mp hy with q | q
        · omega
        · have := h2 y q; omega
def gMaxL : En → Val → Option D := fun env v => (listOf env v).bind fun xs => (intsOf xs).bind fun ns => (mxI ns).map fun m => .int m
def gMinL : En → Val → Option D := fun env v => (listOf env v).bind fun xs => (intsOf xs).bind fun ns => (mnI ns).map fun m => .int m
theorem rs_maxL : RS K (rMax K) (f1 gMaxL) := rs_f1 fun pa tmp0 tmp σ H env I h0 u v z p e => by
  obtain ⟨xs, ex, e⟩ := Option.bind_eq_some_iff.mp e
  obtain ⟨ns, en, e⟩ := Option.bind_eq_some_iff.mp e
  obtain ⟨m, em, e⟩ := Option.map_eq_some_iff.mp e
  cases e
  obtain ⟨a, ws, h1, h2, h3⟩ := listOf_at I p ex
  rw [intsOf_eq en] at h3
  rw [h3.ints] at h2
  subst h1
  obtain ⟨m1, m2⟩ := mxI_spec em
  refine ⟨.int m, .int _, fun Q q => ⟨a, ns, rfl, h2, List.length_pos_of_mem m1, fun m' a1 a2 => ?_⟩⟩
  have : m' = m := by
    have b1 := a2 m m1
    have b2 := m2 m' a1
    omega
  rw [this]
  exact q
theorem rs_minL : RS K (rMin K) (f1 gMinL) := rs_f1 fun pa tmp0 tmp σ H env I h0 u v z p e => by
  obtain ⟨xs, ex, e⟩ := Option.bind_eq_some_iff.mp e
  obtain ⟨ns, en, e⟩ := Option.bind_eq_some_iff.mp e
  obtain ⟨m, em, e⟩ := Option.map_eq_some_iff.mp e
  cases e
  obtain ⟨a, ws, h1, h2, h3⟩ := listOf_at I p ex
  rw [intsOf_eq en] at h3
  rw [h3.ints] at h2
  subst h1
  obtain ⟨m1, m2⟩ := mnI_spec em
  refine ⟨.int m, .int _, fun Q q => ⟨a, ns, rfl, h2, List.length_pos_of_mem m1, fun m' a1 a2 => ?_⟩⟩
  have : m' = m := by
    have b1 := a2 m m1
    have b2 := m2 m' a1
    omega
  rw [this]
  exact q
/-! repr of a number, too -/
def rReprW (K : PySem.W.Frag) : List V → Hp → VK → Prop := fun xs H Q => rRepr K xs H Q ∨ ∃ i, xs = [.int i] ∧ i.natAbs.log2 < 1920 ∧ Q (.str (toString i)) H
theorem call_reprW (hg : X.A.guards = some []) (hu : X.A.units + 64 < cLine) : CallR X (.builtin "repr") (rReprW X.K) := by
  intro pins s σ H vs us Q I r h
  rcases h with h | h
  · exact call_repr hg hu pins s σ H vs us Q I r h
  · exact SkE.call_repr_int pins s σ H vs us Q I r h
def gReprW : En → Val → Option D := fun env v => match v with
  | .d (.int i) => if decide (i.natAbs.log2 < 1920) then some (.str (toString i)) else none
  | _ => gRepr env v
theorem rs_reprW : RS K (rReprW K) (f1 gReprW) := by
  intro pa tmp0 tmp σ H env I h0 us vs p val env' e Q q
  unfold f1 at e
  split at e
  · rename_i v
    obtain ⟨z, ez, e⟩ := Option.map_eq_some_iff.mp e
    cases e
    match us, p with
    | [u], p =>
      unfold gReprW at ez
      split at ez
      · split at ez
        · rename_i hl
          cases ez
          have p1 := p.1
          cases p1
          exact .inr ⟨_, rfl, of_decide_eq_true hl, q _ H tmp .refl I (.str _)⟩
        · cases ez
      · exact .inl (rs_repr pa tmp0 tmp σ H env I h0 [u] [v] p _ _ (by show (gRepr env v).map _ = _; rw [ez]; rfl) Q q)
  · cases e
/-! sorted, ints -/
def sortI (ns : List Int) : List Int := ns.mergeSort (fun a b => decide (a ≤ b))
theorem sortI_perm (ns : List Int) : (sortI ns).Perm ns := List.mergeSort_perm ns _
theorem sortI_asc (ns : List Int) : (sortI ns).Pairwise (· ≤ ·) := by
  have := List.pairwise_mergeSort (le := fun a b : Int => decide (a ≤ b)) (fun a b c h1 h2 => by
    have := of_decide_eq_true h1
    have := of_decide_eq_true h2
    exact decide_eq_true (by omega)) (fun a b => by
    by_cases h : a ≤ b
    · simp [h]
    · simp [h]; omega) ns
  exact this.imp fun h => of_decide_eq_true h
theorem sorted_unique : ∀ {a b : List Int}, a.Perm b → a.Pairwise (· ≤ ·) → b.Pairwise (· ≤ ·) → a = b
  | [], b, h, _, _ => (List.nil_perm.mp h).symm
  | x :: a, [], h, _, _ => by
    have := h.length_eq
    simp at this
  | x :: a, y :: b, h, ha, hb => by
    obtain ⟨a1, a2⟩ := List.pairwise_cons.mp ha
    obtain ⟨b1, b2⟩ := List.pairwise_cons.mp hb
    have hxy : x = y := by
      have h1 : x ∈ y :: b := h.mem_iff.mp List.mem_cons_self
      have h2 : y ∈ x :: a := h.mem_iff.mpr List.mem_cons_self
      have l1 : y ≤ x := by
        rcases List.mem_cons.mp h1 with e | e
        · omega
        · exact b1 x e
      have l2 : x ≤ y := by
        rcases List.mem_cons.mp h2 with e | e
        · omega
        · exact a1 y e
      omega
    subst hxy
    rw [sorted_unique (List.Perm.cons_inv h) a2 b2]
def fSorted : List Val → DE := fun vs env => match vs with
  | [v] => (listOf env v).bind fun xs => (intsOf xs).map fun ns => (.f (.l ((sortI ns).map PyData.int)), env)
  | _ => none
theorem rs_sorted : RS K (rSortedI K) fSorted := by
  intro pa tmp0 tmp σ H env I h0 us vs p val env' e Q q
  unfold fSorted at e
  split at e
  · rename_i v
    obtain ⟨xs, ex, e⟩ := Option.bind_eq_some_iff.mp e
    obtain ⟨ns, en, e⟩ := Option.map_eq_some_iff.mp e
    cases e
    match us, p with
    | [u], p =>
      obtain ⟨a, ws, h1, h2, h3⟩ := listOf_at I p.1 ex
      rw [intsOf_eq en] at h3
      rw [h3.ints] at h2
      subst h1
      refine ⟨a, ns, rfl, h2, fun ns' l hp ha hl => ?_⟩
      have e' : ns' = sortI ns := sorted_unique (hp.trans (sortI_perm ns).symm) ha (sortI_asc ns)
      subst e'
      obtain ⟨s2, I2, h4⟩ := lst_new (tmp := tmp) I (fun _ h => h) (ShAll.of_ints (sortI ns)) hl
      exact q _ _ _ s2 I2 (h4.tmp0 h0)
  · cases e
/-! {a: b} -/
def dDisp1 (a b : Int) : DE := fun env => some (.f (.m [(.inl a, .int b)]), env)
theorem upd_upd (H : Hp) (p : Addr) (o o' : HO) : upd (upd H p o) p o' = upd H p o' := by
  funext a
  by_cases h : a = p
  · subst h; rw [upd_same, upd_same]
  · rw [upd_ne h, upd_ne h, upd_ne h]
theorem se_disp1 {a b : Int} : SE K (tDisp [(tC (.int a), tC (.int b))]) (dDisp1 a b) := by
  intro pa tmp σ H env I val env' e Q q
  cases e
  intro p n
  refine ⟨upd_same, [(.inl a, .int b)], rfl, (by show 1 ≤ 15; decide), ?_⟩
  rw [upd_upd]
  obtain ⟨s2, I2, h2⟩ := map_new (ws := [(.inl a, .int b)]) (kvs := [(.inl a, .int b)]) I (fun _ h => h) (.cons (.int b) .nil) n
  exact q _ _ _ s2 I2 h2
end
end DL
end
section
set_option Elab.async false
set_option linter.all false
/-! Plain reckoning with dens. -/
namespace DL
open PySem (PyData Str)
theorem retOf_d (n : Nat) (x : D) (env : En) : retOf n (.rt (.d x), env) = some (.d x, outsOf n env) := rfl
theorem retOf_f (n : Nat) (b : Box) (env : En) : retOf n (.rt (.f b), env) = some (.f b, outsOf n env) := rfl
theorem retOf_nx (n : Nat) (env : En) : retOf n (.nx, env) = some (.d .none, outsOf n env) := rfl
theorem mulOk_r {i j : Int} (h : j.natAbs < 2 ^ 64) : mulOk i j = true := by
  unfold mulOk
  simp [h]
theorem mulOk_l {i j : Int} (h : i.natAbs < 2 ^ 64) : mulOk i j = true := by
  unfold mulOk
  simp [h]
theorem divOk_of {j : Int} (h : j ≠ 0) (h2 : j.natAbs < 1073741824) : divOk j = true := by
  unfold divOk
  simp [h, h2]
theorem fmod_pos {i m : Int} (h : 0 < m) : 0 ≤ i.fmod m ∧ i.fmod m < m := by
  rw [Int.fmod_eq_emod_of_nonneg i (Int.le_of_lt h)]
  exact ⟨Int.emod_nonneg i (by omega), Int.emod_lt_of_pos i h⟩
/-- a loop as a fold over states: st tells the env of a state -/
theorem dLoop_fold {S : Type} (st : S → En) (step : S → D → S) {asg : DG} {body : DS} : ∀ (ds : List D) (s : S), (∀ s, ∀ d ∈ ds, ((asg d (st s)).bind body) = some (.nx, st (step s d))) → dLoop asg body ds (st s) = some (.nx, st (ds.foldl step s))
  | [], s, _ => rfl
  | d :: ds, s, h => by
    have h1 := h s d List.mem_cons_self
    obtain ⟨e1, he, hb⟩ := Option.bind_eq_some_iff.mp h1
    show ((asg d (st s)).bind fun e1 => (body e1).bind _) = _
    rw [he]
    show (body e1).bind _ = _
    rw [hb]
    exact dLoop_fold st step ds (step s d) fun s' d' hd => h s' d' (List.mem_cons_of_mem _ hd)
/-- .. with what holds of the state -/
theorem dLoop_inv {S : Type} (st : S → En) (P : S → Prop) (step : S → D → S) {asg : DG} {body : DS} : ∀ (ds : List D) (s : S), P s → (∀ s, P s → ∀ d ∈ ds, P (step s d) ∧ ((asg d (st s)).bind body) = some (.nx, st (step s d))) → P (ds.foldl step s) ∧ dLoop asg body ds (st s) = some (.nx, st (ds.foldl step s))
  | [], s, hp, _ => ⟨hp, rfl⟩
  | d :: ds, s, hp, h => by
    obtain ⟨hp1, h1⟩ := h s hp d List.mem_cons_self
    obtain ⟨e1, he, hb⟩ := Option.bind_eq_some_iff.mp h1
    obtain ⟨hp2, h2⟩ := dLoop_inv st P step ds (step s d) hp1 fun s' hp' d' hd => h s' hp' d' (List.mem_cons_of_mem _ hd)
    refine ⟨hp2, ?_⟩
    show ((asg d (st s)).bind fun e1 => (body e1).bind _) = _
    rw [he]
    show (body e1).bind _ = _
    rw [hb]
    exact h2
/-- .. where a turn may go on in several ways -/
theorem dLoop_rel {asg : DG} {body : DS} (P : List D → En → Prop) : ∀ (ds : List D) (env : En), P ds env → (∀ d ds env, P (d :: ds) env → ∃ env', ((asg d env).bind body) = some (.nx, env') ∧ P ds env') → ∃ env', P [] env' ∧ dLoop asg body ds env = some (.nx, env')
  | [], env, hp, _ => ⟨env, hp, rfl⟩
  | d :: ds, env, hp, h => by
    obtain ⟨env1, h1, hp1⟩ := h d ds env hp
    obtain ⟨e1, he, hb⟩ := Option.bind_eq_some_iff.mp h1
    obtain ⟨env2, hp2, h2⟩ := dLoop_rel P ds env1 hp1 h
    refine ⟨env2, hp2, ?_⟩
    show ((asg d env).bind fun e1 => (body e1).bind _) = _
    rw [he]
    show (body e1).bind _ = _
    rw [hb]
    exact h2
theorem intsOf_ints (ns : List Int) : intsOf (ns.map PyData.int) = some ns := intsOf_map ns
theorem atI_map (f : Int → D) (ns : List Int) (i : Int) : L2.atI (ns.map f) i = (L2.atI ns i).map f := by
  unfold L2.atI
  rw [List.length_map]
  cases L2.ixN ns.length i with
  | none => rfl
  | some j => show (ns.map f)[j]? = _; rw [List.getElem?_map]; rfl
theorem atI_of {α : Type} {xs : List α} {i : Int} (h0 : 0 ≤ i) (h1 : i < xs.length) : L2.atI xs i = xs[i.toNat]? := by
  unfold L2.atI L2.ixN
  rw [if_pos h0, if_pos h1]
  rfl
theorem ixN_of {n : Nat} {i : Int} (h0 : 0 ≤ i) (h1 : i < n) : L2.ixN n i = some i.toNat := by
  unfold L2.ixN
  rw [if_pos h0, if_pos h1]
/-- a comprehension, item by item; the slots vs are its own -/
theorem lcLoop_rel {vs : List Nat} {asg : DG} {tests : DB} {elt : DE} (P : List D → List D → En → Prop) : ∀ (ds : List D) (env : En) (acc : List D), P ds acc env →
    (∀ d ds acc env, P (d :: ds) acc env → ∃ e1 b e2, asg d (wipeE env vs) = some e1 ∧ tests e1 = some (b, e2) ∧ ((b = false ∧ P ds acc e2) ∨ (b = true ∧ ∃ v e3 y, elt e2 = some (v, e3) ∧ asD v = some y ∧ szOk (acc.length + 1) = true ∧ P ds (acc ++ [y]) e3))) →
    ∃ out env', P [] out env' ∧ lcLoop vs asg tests elt ds env acc = some (out, env')
  | [], env, acc, hp, _ => ⟨acc, env, hp, rfl⟩
  | d :: ds, env, acc, hp, h => by
    obtain ⟨e1, b, e2, ha, ht, hc⟩ := h d ds acc env hp
    rcases hc with ⟨rfl, hp2⟩ | ⟨rfl, v, e3, y, he, hy, hz, hp2⟩
    · obtain ⟨out, env', h1, h2⟩ := lcLoop_rel P ds e2 acc hp2 h
      refine ⟨out, env', h1, ?_⟩
      simp only [lcLoop, ha, ht, Option.bind_some]
      exact h2
    · obtain ⟨out, env', h1, h2⟩ := lcLoop_rel P ds e3 (acc ++ [y]) hp2 h
      refine ⟨out, env', h1, ?_⟩
      simp only [lcLoop, ha, ht, he, hy, hz, Option.bind_some, if_true]
      exact h2
end DL
end
section
set_option Elab.async false
set_option linter.all false
/-! How long the text of data is, at most. -/
namespace DL
open PySem
mutual
def wt : PyData → Nat
  | .none => 10
  | .bool _ => 10
  | .int _ => 2000
  | .str x => 10 * x.length + 10
  | .list xs => 4 + wtAll xs
  | .tuple xs => 4 + wtAll xs
  | .dict _ => 0
def wtAll : List PyData → Nat
  | [] => 0
  | x :: xs => wt x + 4 + wtAll xs
end
theorem listText_len : ∀ (ts : List Str) (k : Nat) (acc : Str), (textFrom k acc ts).length ≤ acc.length + piled ts
  | [], k, acc => by show acc.length ≤ acc.length + _; omega
  | t :: r, k, acc => by
    have ih := listText_len r (k + 1) (acc ++ (if k > 0 then ", " else "" : String) ++ t)
    have e : (acc ++ (if k > 0 then ", " else "" : String) ++ t).length ≤ acc.length + 2 + t.length := by
      rw [strLen_append, strLen_append]
      split
      · have : ((", " : String) : Str).length = 2 := rfl
        omega
      · have : (("" : String) : Str).length = 0 := rfl
        omega
    show (textFrom (k + 1) (acc ++ (if k > 0 then ", " else "" : String) ++ t) r).length ≤ _
    have hp : piled (t :: r) = t.length + 2 + piled r := by simp [piled]
    rw [hp]
    omega

mutual
/-- None, bools, ints that can be written, lists and tuples of such -/
def okD : PyData → Bool
  | .none => true
  | .bool _ => true
  | .int i => decide (i.natAbs.log2 < 1920)
  | .str _ => false
  | .list xs => okDs xs
  | .tuple xs => okDs xs
  | .dict _ => false
def okDs : List PyData → Bool
  | [] => true
  | x :: xs => okD x && okDs xs
end
mutual
theorem ok_show : ∀ d : PyData, okD d = true → d.showable = true ∧ d.shown.length ≤ wt d
  | .none, _ => ⟨by simp [PyData.showable], by show (("None" : String) : Str).length ≤ 10; decide⟩
  | .bool b, _ => ⟨by simp [PyData.showable], by cases b <;> decide⟩
  | .int i, h => by
    have h' : i.natAbs.log2 < 1920 := of_decide_eq_true h
    refine ⟨by simpa [PyData.showable] using h', ?_⟩
    have e := int_text_length_le (k := 1920) (by decide) h'
    show (Str.ofString (toString i)).length ≤ 2000
    rw [ofString_length]
    omega
  | .str x, h => by cases h
  | .list xs, h => by
    obtain ⟨h1, h2⟩ := ok_shows xs h
    refine ⟨by simpa [PyData.showable] using h1, ?_⟩
    have e : (PyData.list xs).shown = listText (PyData.shownAll xs) := by simp only [PyData.shown]
    rw [e]
    unfold listText
    rw [strLen_append]
    have := listText_len (PyData.shownAll xs) 0 "["
    have e1 : (("[" : String) : Str).length = 1 := rfl
    have e2 : (("]" : String) : Str).length = 1 := rfl
    show _ ≤ 4 + wtAll xs
    omega
  | .tuple xs, h => by
    obtain ⟨h1, h2⟩ := ok_shows xs h
    refine ⟨by simpa [PyData.showable] using h1, ?_⟩
    have e : (PyData.tuple xs).shown = tupleText (PyData.shownAll xs) := by simp only [PyData.shown]
    rw [e]
    unfold tupleText
    rw [strLen_append, strLen_append]
    have e1 : (("(" : String) : Str).length = 1 := rfl
    have e2 : ((if (PyData.shownAll xs).length == 1 then ",)" else ")" : String) : Str).length ≤ 2 := by
      split
      · decide
      · decide
    have e3 : (Str.join ", " (PyData.shownAll xs)).length ≤ piled (PyData.shownAll xs) := by
      by_cases hz : PyData.shownAll xs = []
      · rw [hz]; decide
      · have := join_length_add _ hz
        omega
    show _ ≤ 4 + wtAll xs
    omega
  | .dict _, h => by cases h
theorem ok_shows : ∀ ds : List PyData, okDs ds = true → PyData.showableAll ds = true ∧ piled (PyData.shownAll ds) ≤ wtAll ds
  | [], _ => ⟨by simp [PyData.showableAll], by simp [PyData.shownAll, piled]⟩
  | x :: xs, h => by
    obtain ⟨ha, hb⟩ := (Bool.and_eq_true _ _).mp h
    obtain ⟨h1, h2⟩ := ok_show x ha
    obtain ⟨h3, h4⟩ := ok_shows xs hb
    refine ⟨by simp [PyData.showableAll, h1, h3], ?_⟩
    simp only [PyData.shownAll]
    rw [piled_cons]
    show _ ≤ wt x + 4 + wtAll xs
    omega
end
mutual
theorem ok_nodict : ∀ d : PyData, okD d = true → d.hasDict = false
  | .none, _ => rfl
  | .bool _, _ => rfl
  | .int _, _ => rfl
  | .str _, h => by cases h
  | .list xs, h => ok_nodicts xs h
  | .tuple xs, h => ok_nodicts xs h
  | .dict _, h => by cases h
theorem ok_nodicts : ∀ ds : List PyData, okDs ds = true → PyData.hasDictAll ds = false
  | [], _ => rfl
  | x :: xs, h => by
    obtain ⟨ha, hb⟩ := (Bool.and_eq_true _ _).mp h
    show (x.hasDict || PyData.hasDictAll xs) = false
    rw [ok_nodict x ha, ok_nodicts xs hb]
    rfl
end
theorem showOk_of {d : PyData} (h1 : isSeqD d = true) (h2 : okD d = true) (h3 : d.depth ≤ 60) (h4 : wt d ≤ 16777216) : showOk d = true := by
  obtain ⟨a, b⟩ := ok_show d h2
  have c := ok_nodict d h2
  unfold showOk szOk
  simp [h1, a, h3, c]
  omega
theorem okDs_ints {ns : List Int} (h : ∀ n ∈ ns, n.natAbs < 2 ^ 1919) : okDs (ns.map PyData.int) = true := by
  induction ns with
  | nil => rfl
  | cons n ns ih =>
    show (okD (.int n) && okDs (ns.map PyData.int)) = true
    rw [ih fun m hm => h m (List.mem_cons_of_mem _ hm), Bool.and_true]
    show decide (n.natAbs.log2 < 1920) = true
    rw [decide_eq_true_eq]
    have hn := h n List.mem_cons_self
    by_cases h0 : n.natAbs = 0
    · rw [h0]; decide
    · have := (Nat.log2_lt h0).mpr hn
      omega
theorem wtAll_ints (ns : List Int) : wtAll (ns.map PyData.int) = 2004 * ns.length := by
  induction ns with
  | nil => rfl
  | cons n ns ih =>
    show 2000 + 4 + wtAll (ns.map PyData.int) = _
    rw [ih, List.length_cons]
    omega
theorem depthAll_ints (ns : List Int) : PyData.depthAll (ns.map PyData.int) = 0 := by
  induction ns with
  | nil => rfl
  | cons n ns ih =>
    show max 0 (PyData.depthAll (ns.map PyData.int)) = 0
    rw [ih]
    rfl
theorem eqD_int (i j : Int) : eqD (.int i) (.int j) = some (i == j) := by
  unfold eqD
  have h : ∀ i : Int, SeqAt.shaped (.int i) = true := fun i => by
    unfold SeqAt.shaped
    simp [PyData.canLay0, PyData.depth]
  rw [h, h]
  simp [PyData.eqv]
theorem canLay_ints (ns : List Int) : PyData.canLayAll0 (ns.map PyData.int) = true := by
  induction ns with
  | nil => simp [PyData.canLayAll0]
  | cons n ns ih =>
    rw [List.map_cons]
    simp [PyData.canLayAll0, PyData.canLay0, ih]
theorem shaped_tup (ns : List Int) : SeqAt.shaped (.tuple (ns.map PyData.int)) = true := by
  unfold SeqAt.shaped
  simp [PyData.canLay0, canLay_ints, PyData.depth, depthAll_ints]
theorem shaped_lst (ns : List Int) : SeqAt.shaped (.list (ns.map PyData.int)) = true := by
  unfold SeqAt.shaped
  simp [PyData.canLay0, canLay_ints, PyData.depth, depthAll_ints]
theorem eqvAll_ints : ∀ ns ms : List Int, PyData.eqvAll (ns.map PyData.int) (ms.map PyData.int) = decide (ns = ms)
  | [], [] => by simp [PyData.eqvAll]
  | n :: ns, m :: ms => by
    rw [List.map_cons, List.map_cons]
    simp only [PyData.eqvAll, PyData.eqv, eqvAll_ints ns ms]
    by_cases h : n = m
    · subst h; simp
    · simp [h]
  | [], m :: ms => by simp [PyData.eqvAll]
  | n :: ns, [] => by simp [PyData.eqvAll]
theorem eqD_tup (ns ms : List Int) : eqD (.tuple (ns.map PyData.int)) (.tuple (ms.map PyData.int)) = some (decide (ns = ms)) := by
  unfold eqD
  rw [shaped_tup, shaped_tup]
  simp [PyData.eqv, eqvAll_ints]
theorem eqD_lst (ns ms : List Int) : eqD (.list (ns.map PyData.int)) (.list (ms.map PyData.int)) = some (decide (ns = ms)) := by
  unfold eqD
  rw [shaped_lst, shaped_lst]
  simp [PyData.eqv, eqvAll_ints]

/-- a loop over ints; J: what the slots that nobody reads hold -/
theorem dLoop_ints {S J : Type} (st : S → J → En) (P : S → Prop) (step : S → Int → S) {asg : DG} {body : DS} : ∀ (qs : List Int) (s : S) (j : J), P s → (∀ s j q, P s → q ∈ qs → P (step s q) ∧ ∃ j', ((asg (.int q) (st s j)).bind body) = some (.nx, st (step s q) j')) →
    P (qs.foldl step s) ∧ ∃ j', dLoop asg body (qs.map PyData.int) (st s j) = some (.nx, st (qs.foldl step s) j')
  | [], s, j, hp, _ => ⟨hp, j, rfl⟩
  | q :: qs, s, j, hp, h => by
    obtain ⟨hp1, j1, h1⟩ := h s j q hp List.mem_cons_self
    obtain ⟨e1, he, hb⟩ := Option.bind_eq_some_iff.mp h1
    obtain ⟨hp2, j2, h2⟩ := dLoop_ints st P step qs (step s q) j1 hp1 fun s' j' q' hp' hq => h s' j' q' hp' (List.mem_cons_of_mem _ hq)
    refine ⟨hp2, j2, ?_⟩
    show ((asg (.int q) (st s j)).bind fun e1 => (body e1).bind _) = _
    rw [he]
    show (body e1).bind _ = _
    rw [hb]
    exact h2
/-- .. over a row of data by its places -/
theorem dLoop_at {asg : DG} {body : DS} (ds : List D) (P : Nat → En → Prop) (h : ∀ k d env, P k env → ds[k]? = some d → ∃ env', ((asg d env).bind body) = some (.nx, env') ∧ P (k + 1) env') : ∀ (k : Nat) (env : En), k ≤ ds.length → P k env → ∃ env', P ds.length env' ∧ dLoop asg body (ds.drop k) env = some (.nx, env') := by
  intro k env hk hp
  have key : ∀ (m k : Nat) (env : En), ds.length - k = m → k ≤ ds.length → P k env → ∃ env', P ds.length env' ∧ dLoop asg body (ds.drop k) env = some (.nx, env') := by
    intro m
    induction m with
    | zero =>
      intro k env hm hk hp
      have : k = ds.length := by omega
      subst this
      exact ⟨env, hp, by rw [List.drop_length]; rfl⟩
    | succ m ih =>
      intro k env hm hk hp
      have hlt : k < ds.length := by omega
      obtain ⟨env1, h1, hp1⟩ := h k ds[k] env hp (List.getElem?_eq_getElem hlt)
      obtain ⟨e1, he, hb⟩ := Option.bind_eq_some_iff.mp h1
      obtain ⟨env2, hp2, h2⟩ := ih (k + 1) env1 (by omega) (by omega) hp1
      refine ⟨env2, hp2, ?_⟩
      rw [List.drop_eq_getElem_cons hlt]
      show ((asg ds[k] env).bind fun e1 => (body e1).bind _) = _
      rw [he]
      show (body e1).bind _ = _
      rw [hb]
      exact h2
  exact key _ k env rfl hk hp
/-- a comprehension over a row of data by its places -/
theorem lcLoop_at {vs : List Nat} {asg : DG} {tests : DB} {elt : DE} (ds : List D) (P : Nat → List D → En → Prop)
    (h : ∀ k d acc env, P k acc env → ds[k]? = some d → ∃ e1 b e2, asg d (wipeE env vs) = some e1 ∧ tests e1 = some (b, e2) ∧ ((b = false ∧ P (k + 1) acc e2) ∨ (b = true ∧ ∃ v e3 y, elt e2 = some (v, e3) ∧ asD v = some y ∧ szOk (acc.length + 1) = true ∧ P (k + 1) (acc ++ [y]) e3)))
    (env : En) (hp : P 0 [] env) : ∃ out env', P ds.length out env' ∧ lcLoop vs asg tests elt ds env [] = some (out, env') := by
  have := lcLoop_rel (vs := vs) (asg := asg) (tests := tests) (elt := elt) (fun rest acc env => ∃ k, rest = ds.drop k ∧ k ≤ ds.length ∧ P k acc env) ds env [] ⟨0, rfl, Nat.zero_le _, hp⟩ fun d rest acc env ⟨k, hr, hk, hp⟩ => by
    have hlt : k < ds.length := by
      refine Nat.lt_of_not_le fun hge => ?_
      rw [List.drop_eq_nil_of_le hge] at hr
      cases hr
    rw [List.drop_eq_getElem_cons hlt] at hr
    cases hr
    obtain ⟨e1, b, e2, h1, h2, h3⟩ := h k ds[k] acc env hp (List.getElem?_eq_getElem hlt)
    refine ⟨e1, b, e2, h1, h2, ?_⟩
    rcases h3 with ⟨hb, h3⟩ | ⟨hb, v, e3, y, h4, h5, h6, h7⟩
    · exact .inl ⟨hb, k + 1, rfl, hlt, h3⟩
    · exact .inr ⟨hb, v, e3, y, h4, h5, h6, k + 1, rfl, hlt, h7⟩
  obtain ⟨out, env', ⟨k, hr, hk, hp'⟩, he⟩ := this
  have : k = ds.length := by
    have := congrArg List.length hr
    simp at this
    omega
  subst this
  exact ⟨out, env', hp', he⟩
theorem rngD_get {lo : Int} {n i : Nat} {d : D} (e : (rngD lo n)[i]? = some d) : i < n ∧ d = .int (lo + i) := by
  unfold rngD at e
  rw [List.getElem?_map] at e
  obtain ⟨j, ej, e⟩ := Option.map_eq_some_iff.mp e
  obtain ⟨hl, hj⟩ := List.getElem?_eq_some_iff.mp ej
  rw [List.getElem_range] at hj
  rw [List.length_range] at hl
  subst hj
  exact ⟨hl, e.symm⟩
theorem rngD_len (lo : Int) (n : Nat) : (rngD lo n).length = n := by
  unfold rngD
  rw [List.length_map, List.length_range]
end DL
end
section
set_option Elab.async false
set_option linter.all false
/-! Comprehensions as maps; rows of pairs as data; bounds of numbers. -/
namespace DL
open PySem (PyData Str)
theorem lc_fm {α : Type} (l : List α) (p : α → D) (st : α → En) (t : α → Bool) (g : α → D) {it : DI} {vs : List Nat} {asg : DG} {tests : DB} {elt : DE} {env : En}
    (hit : it env = some (l.map p, env)) (hno : (vs.any fun v => isOwn env[v]?) = false)
    (h1 : ∀ x, asg (p x) (wipeE env vs) = some (st x)) (h2 : ∀ x y, asg (p x) (wipeE (st y) vs) = some (st x))
    (ht : ∀ x ∈ l, tests (st x) = some (t x, st x)) (h3 : ∀ x ∈ l, t x = true → ∃ v, elt (st x) = some (v, st x) ∧ asD v = some (g x))
    (h4 : ∀ x, backE env (st x) vs = env) (h5 : backE env env vs = env) (hl : l.length ≤ 16777216) :
    dLc it vs asg tests elt env = some (.f (.l ((l.filter t).map g)), env) := by
  have key : ∀ (m : List α) (e : En) (acc : List D), (∀ x ∈ m, x ∈ l) → (e = env ∨ ∃ y, e = st y) → acc.length + m.length ≤ 16777216 → ∃ e', (e' = env ∨ ∃ y, e' = st y) ∧ lcLoop vs asg tests elt (m.map p) e acc = some (acc ++ (m.filter t).map g, e') := by
    intro m
    induction m with
    | nil => intro e acc _ he _; exact ⟨e, he, by simp [lcLoop]⟩
    | cons x m ih =>
      intro e acc hm he hle
      have ha : asg (p x) (wipeE e vs) = some (st x) := by
        rcases he with rfl | ⟨y, rfl⟩
        · exact h1 x
        · exact h2 x y
      have hx := hm x List.mem_cons_self
      have hm' : ∀ y ∈ m, y ∈ l := fun y hy => hm y (List.mem_cons_of_mem _ hy)
      rw [List.length_cons] at hle
      cases hb : t x with
      | false =>
        obtain ⟨e', he', q⟩ := ih (st x) acc hm' (.inr ⟨x, rfl⟩) (by omega)
        refine ⟨e', he', ?_⟩
        simp only [List.map_cons, lcLoop, ha, Option.bind_some, ht x hx, hb, Bool.false_eq_true, if_false, q, List.filter_cons]
      | true =>
        obtain ⟨v, hv, hy⟩ := h3 x hx hb
        obtain ⟨e', he', q⟩ := ih (st x) (acc ++ [g x]) hm' (.inr ⟨x, rfl⟩) (by rw [List.length_append, List.length_singleton]; omega)
        refine ⟨e', he', ?_⟩
        have hz : szOk (acc.length + 1) = true := by unfold szOk; rw [decide_eq_true_eq]; omega
        simp only [List.map_cons, lcLoop, ha, Option.bind_some, ht x hx, hb, if_true, hv, hy, hz, q, List.filter_cons, List.append_assoc, List.singleton_append]
  obtain ⟨e', he', q⟩ := key l env [] (fun _ h => h) (.inl rfl) (by simpa using hl)
  have hbk : backE env e' vs = env := by
    rcases he' with rfl | ⟨y, rfl⟩
    · exact h5
    · exact h4 y
  unfold dLc
  rw [hit]
  simp only [Option.bind_some, hno, Bool.false_eq_true, if_false, q, Option.map_some, List.nil_append, hbk]
theorem lc_map {α : Type} (l : List α) (p : α → D) (st : α → En) (g : α → D) {it : DI} {vs : List Nat} {asg : DG} {elt : DE} {env : En}
    (hit : it env = some (l.map p, env)) (hno : (vs.any fun v => isOwn env[v]?) = false)
    (h1 : ∀ x, asg (p x) (wipeE env vs) = some (st x)) (h2 : ∀ x y, asg (p x) (wipeE (st y) vs) = some (st x))
    (h3 : ∀ x ∈ l, ∃ v, elt (st x) = some (v, st x) ∧ asD v = some (g x))
    (h4 : ∀ x, backE env (st x) vs = env) (h5 : backE env env vs = env) (hl : l.length ≤ 16777216) :
    dLc it vs asg dYes elt env = some (.f (.l (l.map g)), env) := by
  have := lc_fm l p st (fun _ => true) g (tests := dYes) hit hno h1 h2 (fun x _ => rfl) (fun x hx _ => h3 x hx) h4 h5 hl
  rwa [List.filter_eq_self.mpr (fun _ _ => rfl)] at this

/-! ### rows of pairs -/
abbrev R2' : Type := List (Int × Int)
def prD (p : Int × Int) : D := .tuple [.int p.1, .int p.2]
def rowD (r : List (Int × Int)) : D := .tuple (r.map prD)
theorem canLay_row (r : List (Int × Int)) : PyData.canLayAll0 (r.map prD) = true := by
  induction r with
  | nil => simp [PyData.canLayAll0]
  | cons p r ih =>
    rw [List.map_cons]
    simp [PyData.canLayAll0, PyData.canLay0, prD, ih]
theorem depth_row (r : List (Int × Int)) : PyData.depthAll (r.map prD) ≤ 1 := by
  induction r with
  | nil => simp [PyData.depthAll]
  | cons p r ih =>
    rw [List.map_cons]
    simp [PyData.depthAll, PyData.depth, prD]
    omega
theorem shaped_row (r : List (Int × Int)) : PySem.SeqAt.shaped (rowD r) = true := by
  have := depth_row r
  unfold PySem.SeqAt.shaped rowD
  simp [PyData.canLay0, canLay_row, PyData.depth]
  omega
theorem prD_eqv (p q : Int × Int) : PyData.eqv (prD p) (prD q) = decide (p = q) := by
  obtain ⟨a, b⟩ := p
  obtain ⟨c, d⟩ := q
  simp only [prD, PyData.eqv, PyData.eqvAll]
  by_cases h1 : a = c <;> by_cases h2 : b = d <;> simp [h1, h2]
theorem eqvAll_row : ∀ r s : List (Int × Int), PyData.eqvAll (r.map prD) (s.map prD) = decide (r = s)
  | [], [] => by simp [PyData.eqvAll]
  | p :: r, q :: s => by
    rw [List.map_cons, List.map_cons]
    simp only [PyData.eqvAll, eqvAll_row r s, prD_eqv]
    by_cases h : p = q
    · subst h; simp
    · simp [h]
  | [], _ :: _ => by simp [PyData.eqvAll]
  | _ :: _, [] => by simp [PyData.eqvAll]
theorem eqD_row (r s : List (Int × Int)) : eqD (rowD r) (rowD s) = some (decide (r = s)) := by
  unfold eqD
  rw [shaped_row, shaped_row]
  simp [rowD, PyData.eqv, eqvAll_row]
theorem eqD_row0 (r : List (Int × Int)) : eqD (rowD r) (.tuple []) = some (decide (r = [])) := eqD_row r []
/-! how long -/
theorem okD_int {n : Int} (h : n.natAbs < 2 ^ 1919) : okD (.int n) = true := by
  have := okDs_ints (ns := [n]) fun m hm => by rw [List.mem_singleton.mp hm]; exact h
  simpa [okDs] using this
theorem ok_row {r : List (Int × Int)} (h : ∀ p ∈ r, p.1.natAbs < 2 ^ 1919 ∧ p.2.natAbs < 2 ^ 1919) : okD (rowD r) = true := by
  unfold rowD
  show okDs (r.map prD) = true
  induction r with
  | nil => rfl
  | cons p r ih =>
    have hp := h p List.mem_cons_self
    show (okD (prD p) && okDs (r.map prD)) = true
    rw [ih fun q hq => h q (List.mem_cons_of_mem _ hq), Bool.and_true]
    show (okD (.int p.1) && (okD (.int p.2) && true)) = true
    rw [okD_int hp.1, okD_int hp.2]
    rfl
theorem wt_row (r : List (Int × Int)) : wt (rowD r) = 4 + 4016 * r.length := by
  unfold rowD
  have : wtAll (r.map prD) = 4016 * r.length := by
    induction r with
    | nil => rfl
    | cons p r ih =>
      show (4 + (2000 + 4 + (2000 + 4 + 0))) + 4 + wtAll (r.map prD) = _
      rw [ih, List.length_cons]
      omega
  show 4 + wtAll (r.map prD) = _
  rw [this]
theorem depth_rowD (r : List (Int × Int)) : (rowD r).depth ≤ 2 := by
  have := depth_row r
  unfold rowD
  simp [PyData.depth]
  omega
/-! ### bounds of numbers -/
def Sm (k : Nat) (x : Int) : Prop := x.natAbs < 2 ^ k
theorem Sm.mono {j k : Nat} {x : Int} (h : Sm j x) (le : j ≤ k) : Sm k x := Nat.lt_of_lt_of_le h (Nat.pow_le_pow_right (by decide) le)
theorem Sm.add {k : Nat} {x y : Int} (h : Sm k x) (h' : Sm k y) : Sm (k + 1) (x + y) := by
  unfold Sm at *
  have := Int.natAbs_add_le x y
  rw [Nat.pow_succ]
  omega
theorem Sm.neg {k : Nat} {x : Int} (h : Sm k x) : Sm k (-x) := by
  unfold Sm at *
  rwa [Int.natAbs_neg]
theorem Sm.sub {k : Nat} {x y : Int} (h : Sm k x) (h' : Sm k y) : Sm (k + 1) (x - y) := by
  rw [Int.sub_eq_add_neg]
  exact h.add h'.neg
theorem Sm.mul {j k : Nat} {x y : Int} (h : Sm j x) (h' : Sm k y) : Sm (j + k) (x * y) := by
  unfold Sm at *
  rw [Int.natAbs_mul, Nat.pow_add]
  exact Nat.mul_lt_mul'' h h'
theorem Sm.of {k : Nat} {x : Int} (h : x.natAbs < 2 ^ k) : Sm k x := h
theorem Sm.mulOk {j k : Nat} {x y : Int} (h : Sm j x) (h' : Sm k y) (hj : j + k ≤ 900000) : mulOk x y = true := by
  unfold DL.mulOk
  have l1 : x.natAbs.log2 ≤ j := by
    by_cases h0 : x.natAbs = 0
    · rw [h0]; exact Nat.zero_le _
    · exact Nat.le_of_lt ((Nat.log2_lt h0).mpr h)
  have l2 : y.natAbs.log2 ≤ k := by
    by_cases h0 : y.natAbs = 0
    · rw [h0]; exact Nat.zero_le _
    · exact Nat.le_of_lt ((Nat.log2_lt h0).mpr h')
  have : x.natAbs.log2 + y.natAbs.log2 < 1000000 := by omega
  simp [this]
theorem Sm.divOk {k : Nat} {x : Int} (h : Sm k x) (h0 : 0 < x) (hk : k ≤ 8000) : divOk x = true := by
  unfold DL.divOk
  have l1 : x.natAbs.log2 < 9000 := by
    by_cases h0 : x.natAbs = 0
    · rw [h0]; decide
    · have := (Nat.log2_lt h0).mpr h
      omega
  simp [h0, l1]
theorem ret_tup {c : DE} {env env' : En} {xs : List D} (h : c env = some (.f (.l xs), env')) : dRet (dCall fTuple (dCons c dNil)) env = some (.rt (.d (.tuple xs)), env') := by
  simp [dRet, dCall, dCons, h, dNil, fTuple, tupOf, DL.listOf]
theorem map_prD {r : List (Int × Int)} {f : Int × Int → Int × Int} : r.map (fun p => prD (f p)) = (r.map f).map prD := by
  rw [List.map_map]
  rfl
/-- a loop over things that stand for data -/
theorem dLoop_all {α S J : Type} (st : S → J → En) (P : S → Prop) (step : S → α → S) (p : α → D) {asg : DG} {body : DS} : ∀ (qs : List α) (s : S) (j : J), P s → (∀ s j q, P s → q ∈ qs → P (step s q) ∧ ∃ j', ((asg (p q) (st s j)).bind body) = some (.nx, st (step s q) j')) →
    P (qs.foldl step s) ∧ ∃ j', dLoop asg body (qs.map p) (st s j) = some (.nx, st (qs.foldl step s) j')
  | [], s, j, hp, _ => ⟨hp, j, rfl⟩
  | q :: qs, s, j, hp, h => by
    obtain ⟨hp1, j1, h1⟩ := h s j q hp List.mem_cons_self
    obtain ⟨e1, he, hb⟩ := Option.bind_eq_some_iff.mp h1
    obtain ⟨hp2, j2, h2⟩ := dLoop_all st P step p qs (step s q) j1 hp1 fun s' j' q' hp' hq => h s' j' q' hp' (List.mem_cons_of_mem _ hq)
    refine ⟨hp2, j2, ?_⟩
    show ((asg (p q) (st s j)).bind fun e1 => (body e1).bind _) = _
    rw [he]
    show (body e1).bind _ = _
    rw [hb]
    exact h2
theorem dFor_eq (it : DI) (a : DG) (b : DS) (env : En) : dFor it a b env = (it env).bind fun p => dLoop a b p.1 p.2 := rfl
/-! ### rows that may stand -/
structure RowOk (r : List (Int × Int)) : Prop where
  asc : (r.map Prod.fst).Pairwise (· < ·)
  nz : ∀ p ∈ r, p.2 ≠ 0
theorem gcdN (a b : Int) : ((Nat.gcd a.natAbs b.natAbs : Nat) : Int) = (Int.gcd a b : Int) := rfl
def con (r : List (Int × Int)) : Int := r.foldl (fun t p => ((Nat.gcd t.natAbs p.2.natAbs : Nat) : Int)) 0
/-! rows as they are read -/
theorem ix_row (r : List (Int × Int)) (i : Int) (env : En) : fIx (.d (rowD r)) (.d (.int i)) env = (L2.atI r i).map fun p => (.d (prD p), env) := by
  have : L2.atI (r.map prD) i = (L2.atI r i).map prD := by
    unfold L2.atI
    rw [List.length_map]
    cases L2.ixN r.length i with
    | none => rfl
    | some j => show (r.map prD)[j]? = _; rw [List.getElem?_map]; rfl
  show (L2.atI (r.map prD) i).map _ = _
  rw [this, Option.map_map]
  rfl
theorem ix_pr0 (p : Int × Int) (env : En) : fIx (.d (prD p)) (.d (.int 0)) env = some (.d (.int p.1), env) := rfl
theorem ix_pr1 (p : Int × Int) (env : En) : fIx (.d (prD p)) (.d (.int 1)) env = some (.d (.int p.2), env) := rfl
theorem len_row (r : List (Int × Int)) (env : En) : gLen env (.d (rowD r)) = some (.int r.length) := by
  show some (PyData.int (r.map prD).length) = _
  rw [List.length_map]
theorem truth_row (r : List (Int × Int)) (env : En) : truth env (.d (rowD r)) = some (!r.isEmpty) := by cases r <;> rfl
theorem isTup_row (r : List (Int × Int)) (env : En) : tyOf env (.d (rowD r)) = some .tup := rfl
theorem isTup_pr (p : Int × Int) (env : En) : tyOf env (.d (prD p)) = some .tup := rfl
theorem len_pr (p : Int × Int) (env : En) : gLen env (.d (prD p)) = some (.int 2) := rfl
theorem notInt_row (r : List (Int × Int)) : isIntV (.d (rowD r)) = false := rfl
theorem notStr_row (r : List (Int × Int)) : isStrV (.d (rowD r)) = false := rfl
theorem rowD_nil : rowD [] = .tuple [] := rfl
theorem at_last {α : Type} (x : α) (r : List α) : L2.atI (r ++ [x]) (-1) = some x := by
  have h : ¬ (0 : Int) ≤ -1 := by decide
  have h2 : (-1 + ((r.length : Int) + 1)).toNat = r.length := by omega
  have h3 : (1 : Int) ≤ (r.length : Int) + 1 := by omega
  unfold L2.atI L2.ixN
  simp [h2, h3]
theorem at_zero {α : Type} (x : α) (r : List α) : L2.atI (x :: r) 0 = some x := by
  rw [atI_of (by decide) (by rw [List.length_cons]; omega)]
  rfl
theorem at_last' {α : Type} (r : List α) : L2.atI r (-1) = r.getLast? := by
  rcases List.eq_nil_or_concat r with h | ⟨m, x, h⟩
  · subst h; rfl
  · rw [h, List.concat_eq_append, at_last]; simp
theorem eqx_int (neg : Bool) (i j : Int) (env : En) : fEqX neg (.d (.int i)) (.d (.int j)) env = some (.d (.bool (decide (i = j) != neg)), env) := by
  simp only [fEqX, isStrV, Bool.false_and, Bool.false_eq_true, if_false, fEqU, datOf, Option.bind_some, eqD_int, Option.map_some]
  rfl
theorem eqx_str (neg : Bool) (a b : Str) (env : En) : fEqX neg (.d (.str a)) (.d (.str b)) env = some (.d (.bool (decide (a = b) != neg)), env) := rfl
theorem eqx_row (neg : Bool) (r s : List (Int × Int)) (env : En) : fEqX neg (.d (rowD r)) (.d (rowD s)) env = some (.d (.bool (decide (r = s) != neg)), env) := by
  have h : fEqX neg (.d (rowD r)) (.d (rowD s)) env = fEqU neg (.d (rowD r)) (.d (rowD s)) env := rfl
  rw [h]
  simp only [fEqU, datOf, Option.bind_some, eqD_row, Option.map_some]
theorem eqx_row0 (neg : Bool) (r : List (Int × Int)) (env : En) : fEqX neg (.d (rowD r)) (.d (.tuple [])) env = some (.d (.bool (decide (r = []) != neg)), env) := eqx_row neg r [] env
def mv (s : Int) (r : List (Int × Int)) : List (Int × Int) := r.map fun p => (p.1 + s, p.2)
def ml (k : Int) (r : List (Int × Int)) : List (Int × Int) := r.map fun p => (p.1, p.2 * k)
def mi (r : List (Int × Int)) : List (Int × Int) := r.reverse.map fun p => (-p.1, p.2)
def sh (s k : Int) (r : List (Int × Int)) : List (Int × Int) := r.map fun p => (p.1 + s, k * p.2)
def ov (k : Int) (r : List (Int × Int)) : List (Int × Int) := r.map fun p => (p.1, p.2.fdiv k)
theorem len_mv (s : Int) (r : List (Int × Int)) : (mv s r).length = r.length := List.length_map _
theorem len_ml (s : Int) (r : List (Int × Int)) : (ml s r).length = r.length := List.length_map _
theorem len_sh (s k : Int) (r : List (Int × Int)) : (sh s k r).length = r.length := List.length_map _
theorem len_mi (r : List (Int × Int)) : (mi r).length = r.length := by unfold mi; rw [List.length_map, List.length_reverse]
theorem dLoop_nx {asg : DG} {body : DS} {d : D} {ds : List D} {env env' : En} (h : ((asg d env).bind body) = some (.nx, env')) : dLoop asg body (d :: ds) env = dLoop asg body ds env' := by
  obtain ⟨e1, he, hb⟩ := Option.bind_eq_some_iff.mp h
  show ((asg d env).bind fun e1 => (body e1).bind _) = _
  rw [he]
  show (body e1).bind _ = _
  rw [hb]
  rfl
theorem dLoop_bk {asg : DG} {body : DS} {d : D} {ds : List D} {env env' : En} (h : ((asg d env).bind body) = some (.bk, env')) : dLoop asg body (d :: ds) env = some (.nx, env') := by
  obtain ⟨e1, he, hb⟩ := Option.bind_eq_some_iff.mp h
  show ((asg d env).bind fun e1 => (body e1).bind _) = _
  rw [he]
  show (body e1).bind _ = _
  rw [hb]
  rfl
theorem dLoop_rt {asg : DG} {body : DS} {d : D} {ds : List D} {env env' : En} {v : Val} (h : ((asg d env).bind body) = some (.rt v, env')) : dLoop asg body (d :: ds) env = some (.rt v, env') := by
  obtain ⟨e1, he, hb⟩ := Option.bind_eq_some_iff.mp h
  show ((asg d env).bind fun e1 => (body e1).bind _) = _
  rw [he]
  show (body e1).bind _ = _
  rw [hb]
  rfl
theorem cut_take (r : List (Int × Int)) (i : Int) (h : 0 ≤ i) : cutD (r.map prD) none (some i) = (r.take i.toNat).map prD := by
  have e : (some i) = some ((i.toNat : Nat) : Int) := by congr 1; omega
  unfold cutD
  rw [e, HT.sIx_nat, HT.sIx_none, List.drop_zero, List.length_map, Nat.sub_zero, List.map_take, List.take_eq_take_iff]
  rw [List.length_map]
  omega
theorem cut_drop (r : List (Int × Int)) (i : Int) (h : 0 ≤ i) : cutD (r.map prD) (some i) none = (r.drop i.toNat).map prD := by
  have e : (some i) = some ((i.toNat : Nat) : Int) := by congr 1; omega
  unfold cutD
  rw [e, HT.sIx_nat, HT.sIx_none, List.length_map, List.map_drop]
  have h2 : ((r.map prD).drop (min i.toNat r.length)) = (r.map prD).drop i.toNat := by
    by_cases hle : i.toNat ≤ r.length
    · rw [Nat.min_eq_left hle]
    · rw [Nat.min_eq_right (by omega), List.drop_eq_nil_of_le (by simp), List.drop_eq_nil_of_le (by simp; omega)]
  rw [h2, List.take_of_length_le]
  rw [List.length_drop, List.length_map]
  omega
theorem sl_take (r : List (Int × Int)) (i : Int) (h : 0 ≤ i) (env : En) : fSl2 (.d (rowD r)) none (some i) env = some (.d (rowD (r.take i.toNat)), env) := by
  show some (Val.d (.tuple (cutD (r.map prD) none (some i))), env) = _
  rw [cut_take r i h]
  rfl
theorem sl_drop (r : List (Int × Int)) (i : Int) (h : 0 ≤ i) (env : En) : fSl2 (.d (rowD r)) (some i) none env = some (.d (rowD (r.drop i.toNat)), env) := by
  show some (Val.d (.tuple (cutD (r.map prD) (some i) none)), env) = _
  rw [cut_drop r i h]
  rfl
theorem cat_row (r s : List (Int × Int)) (hl : r.length + s.length ≤ 100000) (env : En) : fAddU (.d (rowD r)) (.d (rowD s)) env = some (.d (rowD (r ++ s)), env) := by
  have hz : szOk ((r.map prD).length + (s.map prD).length) = true := by unfold szOk; simp; omega
  show fCatT (.d (.tuple (r.map prD))) (.d (.tuple (s.map prD))) env = _
  simp only [fCatT, tupOf, Option.bind_some, hz, if_true]
  unfold rowD
  rw [List.map_append]
/-! rows with bounds -/
structure RB (n p w : Nat) (r : List (Int × Int)) : Prop where
  ok : RowOk r
  len : r.length ≤ n
  pl : ∀ q ∈ r, Sm p q.1
  wt : ∀ q ∈ r, Sm w q.2
theorem RB.mono {n p w n' p' w' : Nat} {r : List (Int × Int)} (h : RB n p w r) (h1 : n ≤ n') (h2 : p ≤ p') (h3 : w ≤ w') : RB n' p' w' r :=
  ⟨h.ok, Nat.le_trans h.len h1, fun q hq => (h.pl q hq).mono h2, fun q hq => (h.wt q hq).mono h3⟩
def md (r : List (Int × Int)) (i : Nat) (p : Int × Int) : List (Int × Int) := r.take i ++ [p] ++ r.drop (i + 1)
theorem md_form {r : List (Int × Int)} {i : Nat} (h : i < r.length) : r = r.take i ++ r[i] :: r.drop (i + 1) := by
  rw [← List.drop_eq_getElem_cons h, List.take_append_drop]
theorem md_len {r : List (Int × Int)} {i : Nat} (h : i < r.length) (p : Int × Int) : (md r i p).length = r.length := by
  unfold md
  simp
  omega
theorem md_mem {r : List (Int × Int)} {i : Nat} {p q : Int × Int} (h : q ∈ md r i p) : q ∈ r ∨ q = p := by
  unfold md at h
  simp at h
  rcases h with h | h | h
  · exact .inl (List.mem_of_mem_take h)
  · exact .inr h
  · exact .inl (List.mem_of_mem_drop h)
theorem md_ok {r : List (Int × Int)} {i : Nat} (h : i < r.length) (hr : RowOk r) {p : Int × Int} (hp : p.2 ≠ 0) (h1 : p.1 = r[i].1 ∨ (r[i].1 ≤ p.1 ∧ i + 1 = r.length)) : RowOk (md r i p) := by
  refine ⟨?_, fun q hq => ?_⟩
  · have ha := hr.asc
    rw [md_form h, List.map_append, List.map_cons] at ha
    unfold md
    rw [List.append_assoc, List.map_append, List.singleton_append, List.map_cons]
    rcases h1 with h1 | ⟨h1, h2⟩
    · rw [h1]
      simpa using ha
    · have hd : r.drop (i + 1) = [] := List.drop_eq_nil_of_le (by omega)
      rw [hd] at ha ⊢
      rw [List.pairwise_append] at ha ⊢
      refine ⟨ha.1, List.pairwise_singleton _ _, fun x hx y hy => ?_⟩
      have := ha.2.2 x hx r[i].1 (by simp)
      rw [List.map_nil, List.mem_singleton] at hy
      omega
  · rcases md_mem hq with h | h
    · exact hr.nz q h
    · rw [h]; exact hp
theorem lenW_d (env : En) (x : D) : gLenW env (.d x) = gLen env (.d x) := rfl
theorem reprW_l (env : En) (xs : List D) : gReprW env (.d (.list xs)) = gRepr env (.d (.list xs)) := rfl
theorem reprW_f (env : En) (xs : List D) : gReprW env (.f (.l xs)) = gRepr env (.f (.l xs)) := rfl
end DL
end
section
set_option Elab.async false
set_option linter.all false
set_option maxRecDepth 100000
/-! The defs of the text, each as a plain function of its cells. -/
namespace K02
open PySem PySem.Spec PyProof.Rows L2 DL

def topS (i : Nat) : Stmt := PySem.Challenge.pw_samegaps_k02_whole_rows_and_heaps_of_any.main.body.getD i (.Pass ⟨0, 0, 0, 0⟩)
abbrev s_is_whole : Stmt := topS 1
abbrev s_is_tuple_of_told_size : Stmt := topS 6
abbrev s_l_spring : Stmt := topS 13
abbrev s_l_draw : Stmt := topS 14
abbrev s_l_is_whole : Stmt := topS 20
abbrev s_is_weighted : Stmt := topS 4
abbrev s_l_one_of : Stmt := topS 15
abbrev s_l_is_pair : Stmt := topS 21
abbrev s_first_wrong : Stmt := topS 5
abbrev s_l_number : Stmt := topS 16
abbrev s_l_odd : Stmt := topS 18
abbrev s_l_fault : Stmt := topS 22
abbrev s_makes_row : Stmt := topS 7
abbrev s_l_weight : Stmt := topS 17
abbrev s_l_bent : Stmt := topS 19
abbrev s_is_row : Stmt := topS 9
abbrev s_is_heap : Stmt := topS 10
abbrev s_is_plain : Stmt := topS 11
abbrev s_l_thing : Stmt := topS 23
abbrev s_l_right : Stmt := topS 24
abbrev s_law : Stmt := topS 25
/-! what the top has left -/
structure Raw (K : PySem.W.Frag) (mg : Str → Option Value) : Prop where
  f_is_whole : ∃ (a : Addr) (fd : FuncData), Fun K "is_whole" "is_whole" s_is_whole a fd ∧ mg "is_whole" = some (.ref a)
  f_is_tuple_of_told_size : ∃ (a : Addr) (fd : FuncData), Fun K "is_tuple_of_told_size" "is_tuple_of_told_size" s_is_tuple_of_told_size a fd ∧ mg "is_tuple_of_told_size" = some (.ref a)
  f_l_spring : ∃ (a : Addr) (fd : FuncData), Fun K "_law_spring" "_law_spring" s_l_spring a fd ∧ mg "_law_spring" = some (.ref a)
  f_l_draw : ∃ (a : Addr) (fd : FuncData), Fun K "_law_draw" "_law_draw" s_l_draw a fd ∧ mg "_law_draw" = some (.ref a)
  f_l_is_whole : ∃ (a : Addr) (fd : FuncData), Fun K "_law_is_whole" "_law_is_whole" s_l_is_whole a fd ∧ mg "_law_is_whole" = some (.ref a)
  f_is_weighted : ∃ (a : Addr) (fd : FuncData), Fun K "is_weighted" "is_weighted" s_is_weighted a fd ∧ mg "is_weighted" = some (.ref a)
  f_l_one_of : ∃ (a : Addr) (fd : FuncData), Fun K "_law_one_of" "_law_one_of" s_l_one_of a fd ∧ mg "_law_one_of" = some (.ref a)
  f_l_is_pair : ∃ (a : Addr) (fd : FuncData), Fun K "_law_is_pair" "_law_is_pair" s_l_is_pair a fd ∧ mg "_law_is_pair" = some (.ref a)
  f_first_wrong : ∃ (a : Addr) (fd : FuncData), Fun K "first_wrong" "first_wrong" s_first_wrong a fd ∧ mg "first_wrong" = some (.ref a)
  f_l_number : ∃ (a : Addr) (fd : FuncData), Fun K "_law_number" "_law_number" s_l_number a fd ∧ mg "_law_number" = some (.ref a)
  f_l_odd : ∃ (a : Addr) (fd : FuncData), Fun K "_law_odd" "_law_odd" s_l_odd a fd ∧ mg "_law_odd" = some (.ref a)
  f_l_fault : ∃ (a : Addr) (fd : FuncData), Fun K "_law_fault" "_law_fault" s_l_fault a fd ∧ mg "_law_fault" = some (.ref a)
  f_makes_row : ∃ (a : Addr) (fd : FuncData), Fun K "makes_row" "makes_row" s_makes_row a fd ∧ mg "makes_row" = some (.ref a)
  f_l_weight : ∃ (a : Addr) (fd : FuncData), Fun K "_law_weight" "_law_weight" s_l_weight a fd ∧ mg "_law_weight" = some (.ref a)
  f_l_bent : ∃ (a : Addr) (fd : FuncData), Fun K "_law_bent" "_law_bent" s_l_bent a fd ∧ mg "_law_bent" = some (.ref a)
  f_is_row : ∃ (a : Addr) (fd : FuncData), Fun K "is_row" "is_row" s_is_row a fd ∧ mg "is_row" = some (.ref a)
  f_is_heap : ∃ (a : Addr) (fd : FuncData), Fun K "is_heap" "is_heap" s_is_heap a fd ∧ mg "is_heap" = some (.ref a)
  f_is_plain : ∃ (a : Addr) (fd : FuncData), Fun K "is_plain" "is_plain" s_is_plain a fd ∧ mg "is_plain" = some (.ref a)
  f_l_thing : ∃ (a : Addr) (fd : FuncData), Fun K "_law_thing" "_law_thing" s_l_thing a fd ∧ mg "_law_thing" = some (.ref a)
  f_l_right : ∃ (a : Addr) (fd : FuncData), Fun K "_law_right" "_law_right" s_l_right a fd ∧ mg "_law_right" = some (.ref a)
  f_law : ∃ (a : Addr) (fd : FuncData), Fun K "law" "law" s_law a fd ∧ mg "law" = some (.ref a)
  b_abs : mg "abs" = none
  b_all : mg "all" = none
  b_bool : mg "bool" = none
  b_divmod : mg "divmod" = none
  b_enumerate : mg "enumerate" = none
  b_int : mg "int" = none
  b_isinstance : mg "isinstance" = none
  b_len : mg "len" = none
  b_list : mg "list" = none
  b_max : mg "max" = none
  b_min : mg "min" = none
  b_range : mg "range" = none
  b_repr : mg "repr" = none
  b_tuple : mg "tuple" = none
  c_MOST_PAIRS : ∃ t, mg "MOST_PAIRS" = some (.int 400 t)
section
variable {P : Program} {w : World} {K : PySem.W.Frag} {mg : Str → Option Value} {base : Heap}
theorem sc_is_whole : FnScope ["value"] ["value"] (defScope s_is_whole) := ⟨rfl, rfl, rfl, by decide +kernel, rfl, by decide +kernel, by decide +kernel⟩
def d_is_whole : DS := (dRet (dAndV (dIsi .int (dBor 0)) (dNotV (dIsi .bl (dBor 0)))))
def F_is_whole : FD := bodyF 1 0 d_is_whole
def t_is_whole (K : PySem.W.Frag) : TS := (tRet (tAndV (tCB (rIsi K) (tCons (tVar 0) (tCons (tC (.ty (Ty.nm .int))) tNil))) (tNotV (tCB (rIsi K) (tCons (tVar 0) (tCons (tC (.ty (Ty.nm .bl))) tNil))))))
theorem ss_is_whole : SS K (t_is_whole K) d_is_whole := (ss_ret (se_andV (se_isi (by decide) se_bor) (se_notV (se_isi (by decide) se_bor))))
theorem cal_is_whole (R : Raw K mg) : CalG P w K mg base 1 1 "is_whole" s_is_whole ["value"] F_is_whole := by
  obtain ⟨a, fd, hF, hg⟩ := R.f_is_whole
  exact ⟨a, fd, hF, hg, fun_G hF sc_is_whole (spF_len rfl) (fun cdv A outer s H E hr hgd => ⟨t_is_whole K, (pss_one (ps_ret (pe_and (pe_callB call_isi (by rfl) R.b_isinstance (by decide +kernel) (pa_cons (pv 0) (pa_cons (pe_bltn (v := .ty "int") rfl R.b_int (by decide +kernel) rfl) pa_nil))) (pe_one (pe_not (pe_callB call_isi (by rfl) R.b_isinstance (by decide +kernel) (pa_cons (pv 0) (pa_cons (pe_bltn (v := .ty "bool") rfl R.b_bool (by decide +kernel) rfl) pa_nil)))))))), fun vs Q h => spF_body ss_is_whole rfl h⟩), hF.binds fun _ _ _ _ _ _ us hl => match us, hl with | [_], _ => rfl⟩
theorem sc_is_tuple_of_told_size : FnScope ["value"] ["value"] (defScope s_is_tuple_of_told_size) := ⟨rfl, rfl, rfl, by decide +kernel, rfl, by decide +kernel, by decide +kernel⟩
def d_is_tuple_of_told_size : DS := (dRet (dAndV (dIsi .tup (dBor 0)) (dOp (fII gLe) (dCall (f1 gLenW) (dCons (dBor 0) dNil)) (dC (.int 400)))))
def F_is_tuple_of_told_size : FD := bodyF 1 0 d_is_tuple_of_told_size
def t_is_tuple_of_told_size (K : PySem.W.Frag) : TS := (tRet (tAndV (tCB (rIsi K) (tCons (tVar 0) (tCons (tC (.ty (Ty.nm .tup))) tNil))) (tOp (rLeU) (tCB (rLenW K) (tCons (tVar 0) tNil)) (tC (.int 400)))))
theorem ss_is_tuple_of_told_size : SS K (t_is_tuple_of_told_size K) d_is_tuple_of_told_size := (ss_ret (se_andV (se_isi (by decide) se_bor) (se_op (se_call (sa_cons se_bor sa_nil) rs_lenW) se_int r2_leU)))
theorem cal_is_tuple_of_told_size (R : Raw K mg) : CalG P w K mg base 1 1 "is_tuple_of_told_size" s_is_tuple_of_told_size ["value"] F_is_tuple_of_told_size := by
  obtain ⟨a, fd, hF, hg⟩ := R.f_is_tuple_of_told_size
  exact ⟨a, fd, hF, hg, fun_G hF sc_is_tuple_of_told_size (spF_len rfl) (fun cdv A outer s H E hr hgd => ⟨t_is_tuple_of_told_size K, (pss_one (ps_ret (pe_and (pe_callB call_isi (by rfl) R.b_isinstance (by decide +kernel) (pa_cons (pv 0) (pa_cons (pe_bltn (v := .ty "tuple") rfl R.b_tuple (by decide +kernel) rfl) pa_nil))) (pe_one (pe_cmpR op_leU (pe_callB call_lenW (by rfl) R.b_len (by decide +kernel) (pa_cons (pv 0) pa_nil)) (pe_glob rfl R.c_MOST_PAIRS.choose_spec ⟨_, rfl⟩) (nomark _)))))), fun vs Q h => spF_body ss_is_tuple_of_told_size rfl h⟩), hF.binds fun _ _ _ _ _ _ us hl => match us, hl with | [_], _ => rfl⟩
theorem sc_l_spring : FnScope ["_law_script", "_law_turn", "_law_stir", "_law_at", "_law_each", "_law_cell", "_law_digits"] ["_law_script", "_law_turn"] (defScope s_l_spring) := ⟨rfl, rfl, rfl, by decide +kernel, rfl, by decide +kernel, by decide +kernel⟩
def d_l_spring : DS := (dSeq (dSet 2 (dOp fAddU (dC (.int 86311)) (dOp fMulU (dC (.int 5099)) (dBor 1)))) (dSeq (dFor (dEnum (dCons (dSl2 (dBor 0) dNoPart (dPart (dC (.int 63)))) dNil)) (aTup 2 (aCons (aName 3) (aCons (aName 4) aNil))) (dSet 2 (dOp (fII gMod) (dCall (f1 gInt) (dCons (dOp fAddU (dOp fAddU (dOp fMulU (dBor 2) (dC (.int 48271))) (dOp fMulU (dOp (fII gMod) (dCall (f1 gInt) (dCons (dVar 4) dNil)) (dC (.int 998244353))) (dOp fAddU (dBor 3) (dC (.int 5))))) (dC (.int 7))) dNil)) (dC (.int 2147483579))))) (dSeq (dSet 5 (dIf (dTest (dOp (fII gLt) (dBor 1) (dCall (f1 gLenW) (dCons (dBor 0) dNil)))) (dCall (f1 gInt) (dCons (dOp fIx (dBor 0) (dVar 1)) dNil)) (dC (.int 0)))) (dSeq (dSet 6 (dIf (dTest (dOp (fII gGe) (dCall (f1 gAbs) (dCons (dVar 5) dNil)) (dOp (fII gPow) (dC (.int 10)) (dC (.int 18))))) (dCall (f1 gAbs) (dCons (dVar 5) dNil)) (dC (.int 0)))) (dRet (dLst (dCons (dVar 6) (dCons (dOp (fII gMod) (dCall (f1 gInt) (dCons (dOp fAddU (dOp fAddU (dOp fMulU (dBor 2) (dC (.int 30269))) (dOp (fII gMod) (dCall (f1 gInt) (dCons (dVar 5) dNil)) (dC (.int 998244353)))) (dC (.int 11))) dNil)) (dC (.int 2147483579))) (dCons (dC (.int 0)) dNil)))))))))
def F_l_spring : FD := bodyF 2 5 d_l_spring
def t_l_spring (K : PySem.W.Frag) : TS := (tSeq (tAsg (tOp (rAddU K) (tC (.int 86311)) (tOp (rMulU) (tC (.int 5099)) (tVar 1))) (gName 2)) (tSeq (tFor (iEnumA K (tCons (tSl (rSlB K) (tVar 0) tNoPart (tPart (tC (.int 63)))) tNil)) (gTup K 2 (gCons (gName 3) (gCons (gName 4) gNil))) (tAsg (tOp (rModU) (tCB (rIntU) (tCons (tOp (rAddU K) (tOp (rAddU K) (tOp (rMulU) (tVar 2) (tC (.int 48271))) (tOp (rMulU) (tOp (rModU) (tCB (rIntU) (tCons (tVar 4) tNil)) (tC (.int 998244353))) (tOp (rAddU K) (tVar 3) (tC (.int 5))))) (tC (.int 7))) tNil)) (tC (.int 2147483579))) (gName 2))) (tSeq (tAsg (tIf (tTest (tOp (rLtU) (tVar 1) (tCB (rLenW K) (tCons (tVar 0) tNil)))) (tCB (rIntU) (tCons (tOp (rIx K) (tVar 0) (tVar 1)) tNil)) (tC (.int 0))) (gName 5)) (tSeq (tAsg (tIf (tTest (tOp (rGeU) (tCB (rAbsU) (tCons (tVar 5) tNil)) (tOp (rPowU) (tC (.int 10)) (tC (.int 18))))) (tCB (rAbsU) (tCons (tVar 5) tNil)) (tC (.int 0))) (gName 6)) (tRet (tLst (tCons (tVar 6) (tCons (tOp (rModU) (tCB (rIntU) (tCons (tOp (rAddU K) (tOp (rAddU K) (tOp (rMulU) (tVar 2) (tC (.int 30269))) (tOp (rModU) (tCB (rIntU) (tCons (tVar 5) tNil)) (tC (.int 998244353)))) (tC (.int 11))) tNil)) (tC (.int 2147483579))) (tCons (tC (.int 0)) tNil)))))))))
theorem ss_l_spring : SS K (t_l_spring K) d_l_spring := (ss_seq (ss_set (se_op se_int (se_op se_int se_bor r2_mulU) r2_addU)) (ss_seq (ss_for (si_enum (sa_cons (se_sl2 se_bor so_none (so_some se_int)) sa_nil)) (sg_tup (sgs_cons sg_name (sgs_cons sg_name sgs_nil))) (ss_set (se_op (se_call (sa_cons (se_op (se_op (se_op se_bor se_int r2_mulU) (se_op (se_op (se_call (sa_cons se_var sa_nil) rs_intU) se_int r2_modU) (se_op se_bor se_int r2_addU) r2_mulU) r2_addU) se_int r2_addU) sa_nil) rs_intU) se_int r2_modU))) (ss_seq (ss_set (se_if (sb_test (se_op se_bor (se_call (sa_cons se_bor sa_nil) rs_lenW) r2_ltU)) (se_call (sa_cons (se_op se_bor se_var r2_ix) sa_nil) rs_intU) se_int)) (ss_seq (ss_set (se_if (sb_test (se_op (se_call (sa_cons se_var sa_nil) rs_absU) (se_op se_int se_int r2_powU) r2_geU)) (se_call (sa_cons se_var sa_nil) rs_absU) se_int)) (ss_ret (se_lst (sa_cons se_var (sa_cons (se_op (se_call (sa_cons (se_op (se_op (se_op se_bor se_int r2_mulU) (se_op (se_call (sa_cons se_var sa_nil) rs_intU) se_int r2_modU) r2_addU) se_int r2_addU) sa_nil) rs_intU) se_int r2_modU) (sa_cons se_int sa_nil)))))))))
theorem cal_l_spring (R : Raw K mg) : CalG P w K mg base 1 2 "_law_spring" s_l_spring ["_law_script", "_law_turn"] F_l_spring := by
  obtain ⟨a, fd, hF, hg⟩ := R.f_l_spring
  exact ⟨a, fd, hF, hg, fun_G hF sc_l_spring (spF_len rfl) (fun cdv A outer s H E hr hgd => ⟨t_l_spring K, (pss_cons (ps_set (i := 2) sc_l_spring.nd rfl (.inl rfl) (pe_op op_addU pe_int (pe_op op_mulU pe_int (pv 1)))) (pss_cons (ps_for PassesOwn.never rfl (pi_enumA rfl R.b_enumerate (pa_cons (pe_slice sl_all (pv 0) po_none (po_some pe_int)) pa_nil)) (pg_tup rfl (pgs_cons (pg_name (i := 3) sc_l_spring.nd rfl (.inl rfl)) (pgs_cons (pg_name (i := 4) sc_l_spring.nd rfl (.inl rfl)) pgs_nil))) (pss_one (ps_set (i := 2) sc_l_spring.nd rfl (.inl rfl) (pe_op op_modU (pe_callTy call_intU (by rfl) R.b_int (by decide +kernel) (pa_cons (pe_op op_addU (pe_op op_addU (pe_op op_mulU (pv 2) pe_int) (pe_op op_mulU (pe_op op_modU (pe_callTy call_intU (by rfl) R.b_int (by decide +kernel) (pa_cons (pv 4) pa_nil)) pe_int) (pe_op op_addU (pv 3) pe_int))) pe_int) pa_nil)) pe_int)))) (pss_cons (ps_set (i := 5) sc_l_spring.nd rfl (.inl rfl) (pe_ifExp (pt_cmpR op_ltU (pv 1) (pe_callB call_lenW (by rfl) R.b_len (by decide +kernel) (pa_cons (pv 0) pa_nil)) (nomark _)) (pe_callTy call_intU (by rfl) R.b_int (by decide +kernel) (pa_cons (pe_ix ix_seq (pv 0) (pv 1) (fun _ _ => rfl)) pa_nil)) pe_int)) (pss_cons (ps_set (i := 6) sc_l_spring.nd rfl (.inl rfl) (pe_ifExp (pt_cmpR op_geU (pe_callB call_absU (by rfl) R.b_abs (by decide +kernel) (pa_cons (pv 5) pa_nil)) (pe_op op_powU pe_int pe_int) (nomark _)) (pe_callB call_absU (by rfl) R.b_abs (by decide +kernel) (pa_cons (pv 5) pa_nil)) pe_int)) (pss_one (ps_ret (pe_lst (pa_cons (pv 6) (pa_cons (pe_op op_modU (pe_callTy call_intU (by rfl) R.b_int (by decide +kernel) (pa_cons (pe_op op_addU (pe_op op_addU (pe_op op_mulU (pv 2) pe_int) (pe_op op_modU (pe_callTy call_intU (by rfl) R.b_int (by decide +kernel) (pa_cons (pv 5) pa_nil)) pe_int)) pe_int) pa_nil)) pe_int) (pa_cons pe_int pa_nil)))))))))), fun vs Q h => spF_body ss_l_spring rfl h⟩), hF.binds fun _ _ _ _ _ _ us hl => match us, hl with | [_, _], _ => rfl⟩
theorem sc_l_draw : FnScope ["_law_spring_here", "_law_many", "_law_figure"] ["_law_spring_here", "_law_many"] (defScope s_l_draw) := ⟨rfl, rfl, rfl, by decide +kernel, rfl, by decide +kernel, by decide +kernel⟩
def d_l_draw : DS := (dSeq (dIfS (dTest (dOp (fII gGt) (dOp fIx (dBor 0) (dC (.int 0))) (dC (.int 0)))) (dSeq (dAsg (aTup 2 (aCons (aSub 0 (dC (.int 0))) (aCons (aName 2) aNil))) (dCall (fDivmod) (dCons (dOp fIx (dBor 0) (dC (.int 0))) (dCons (dVar 1) dNil)))) (dRet (dVar 2))) dNext) (dSeq (dAsg (aSub 0 (dC (.int 2))) (dOp fAddU (dOp fIx (dBor 0) (dC (.int 2))) (dC (.int 1)))) (dSeq (dAsg (aSub 0 (dC (.int 1))) (dOp (fII gMod) (dCall (f1 gInt) (dCons (dOp fAddU (dOp fAddU (dOp fMulU (dOp fIx (dBor 0) (dC (.int 1))) (dOp fAddU (dC (.int 16807)) (dOp fMulU (dC (.int 4)) (dOp fIx (dBor 0) (dC (.int 2)))))) (dC (.int 40507))) (dOp fIx (dBor 0) (dC (.int 2)))) dNil)) (dC (.int 2147483579)))) (dRet (dOp (fII gMod) (dCall (f1 gInt) (dCons (dOp (fII gDiv) (dOp fIx (dBor 0) (dC (.int 1))) (dC (.int 89))) dNil)) (dBor 1))))))
def F_l_draw : FD := bodyF 2 1 d_l_draw
def t_l_draw (K : PySem.W.Frag) : TS := (tSeq (tIfS (tTest (tOp (rGtU) (tOp (rIx K) (tVar 0) (tC (.int 0))) (tC (.int 0)))) (tSeq (tAsg (tCB (rDivmodU) (tCons (tOp (rIx K) (tVar 0) (tC (.int 0))) (tCons (tVar 1) tNil))) (gTup K 2 (gCons (L2.gSub (tVar 0) (tC (.int 0)) rSetL) (gCons (gName 2) gNil)))) (tRet (tVar 2))) tNext) (tSeq (tAsg (tOp (rAddU K) (tOp (rIx K) (tVar 0) (tC (.int 2))) (tC (.int 1))) (L2.gSub (tVar 0) (tC (.int 2)) rSetL)) (tSeq (tAsg (tOp (rModU) (tCB (rIntU) (tCons (tOp (rAddU K) (tOp (rAddU K) (tOp (rMulU) (tOp (rIx K) (tVar 0) (tC (.int 1))) (tOp (rAddU K) (tC (.int 16807)) (tOp (rMulU) (tC (.int 4)) (tOp (rIx K) (tVar 0) (tC (.int 2)))))) (tC (.int 40507))) (tOp (rIx K) (tVar 0) (tC (.int 2)))) tNil)) (tC (.int 2147483579))) (L2.gSub (tVar 0) (tC (.int 1)) rSetL)) (tRet (tOp (rModU) (tCB (rIntU) (tCons (tOp (rDivU) (tOp (rIx K) (tVar 0) (tC (.int 1))) (tC (.int 89))) tNil)) (tVar 1))))))
theorem ss_l_draw : SS K (t_l_draw K) d_l_draw := (ss_seq (ss_if (sb_test (se_op (se_op se_bor se_int r2_ix) se_int r2_gtU)) (ss_seq (ss_asg (se_call (sa_cons (se_op se_bor se_int r2_ix) (sa_cons se_var sa_nil)) rs_divmodU) (sg_tup (sgs_cons (sg_sub se_int) (sgs_cons sg_name sgs_nil)))) (ss_ret se_var)) ss_next) (ss_seq (ss_asg (se_op (se_op se_bor se_int r2_ix) se_int r2_addU) (sg_sub se_int)) (ss_seq (ss_asg (se_op (se_call (sa_cons (se_op (se_op (se_op (se_op se_bor se_int r2_ix) (se_op se_int (se_op se_int (se_op se_bor se_int r2_ix) r2_mulU) r2_addU) r2_mulU) se_int r2_addU) (se_op se_bor se_int r2_ix) r2_addU) sa_nil) rs_intU) se_int r2_modU) (sg_sub se_int)) (ss_ret (se_op (se_call (sa_cons (se_op (se_op se_bor se_int r2_ix) se_int r2_divU) sa_nil) rs_intU) se_bor r2_modU)))))
theorem cal_l_draw (R : Raw K mg) : CalG P w K mg base 1 2 "_law_draw" s_l_draw ["_law_spring_here", "_law_many"] F_l_draw := by
  obtain ⟨a, fd, hF, hg⟩ := R.f_l_draw
  exact ⟨a, fd, hF, hg, fun_G hF sc_l_draw (spF_len rfl) (fun cdv A outer s H E hr hgd => ⟨t_l_draw K, (pss_cons (ps_if (pt_cmpR op_gtU (pe_ix ix_seq (pv 0) pe_int (fun _ _ => rfl)) pe_int (nomark _)) (pss_cons (ps_asg (pe_callB call_divmodU (by rfl) R.b_divmod (by decide +kernel) (pa_cons (pe_ix ix_seq (pv 0) pe_int (fun _ _ => rfl)) (pa_cons (pv 1) pa_nil))) (pg_tup rfl (pgs_cons (pg_sub (pv 0) pe_int set_list) (pgs_cons (pg_name (i := 2) sc_l_draw.nd rfl (.inl rfl)) pgs_nil)))) (pss_one (ps_ret (pv 2)))) pss_nil) (pss_cons (ps_asg (pe_op op_addU (pe_ix ix_seq (pv 0) pe_int (fun _ _ => rfl)) pe_int) (pg_sub (pv 0) pe_int set_list)) (pss_cons (ps_asg (pe_op op_modU (pe_callTy call_intU (by rfl) R.b_int (by decide +kernel) (pa_cons (pe_op op_addU (pe_op op_addU (pe_op op_mulU (pe_ix ix_seq (pv 0) pe_int (fun _ _ => rfl)) (pe_op op_addU pe_int (pe_op op_mulU pe_int (pe_ix ix_seq (pv 0) pe_int (fun _ _ => rfl))))) pe_int) (pe_ix ix_seq (pv 0) pe_int (fun _ _ => rfl))) pa_nil)) pe_int) (pg_sub (pv 0) pe_int set_list)) (pss_one (ps_ret (pe_op op_modU (pe_callTy call_intU (by rfl) R.b_int (by decide +kernel) (pa_cons (pe_op op_divU (pe_ix ix_seq (pv 0) pe_int (fun _ _ => rfl)) pe_int) pa_nil)) (pv 1))))))), fun vs Q h => spF_body ss_l_draw rfl h⟩), hF.binds fun _ _ _ _ _ _ us hl => match us, hl with | [_, _], _ => rfl⟩
theorem sc_l_is_whole : FnScope ["_law_value"] ["_law_value"] (defScope s_l_is_whole) := ⟨rfl, rfl, rfl, by decide +kernel, rfl, by decide +kernel, by decide +kernel⟩
def d_l_is_whole : DS := (dRet (dAndV (dIsi .int (dBor 0)) (dNotV (dIsi .bl (dBor 0)))))
def F_l_is_whole : FD := bodyF 1 0 d_l_is_whole
def t_l_is_whole (K : PySem.W.Frag) : TS := (tRet (tAndV (tCB (rIsi K) (tCons (tVar 0) (tCons (tC (.ty (Ty.nm .int))) tNil))) (tNotV (tCB (rIsi K) (tCons (tVar 0) (tCons (tC (.ty (Ty.nm .bl))) tNil))))))
theorem ss_l_is_whole : SS K (t_l_is_whole K) d_l_is_whole := (ss_ret (se_andV (se_isi (by decide) se_bor) (se_notV (se_isi (by decide) se_bor))))
theorem cal_l_is_whole (R : Raw K mg) : CalG P w K mg base 1 1 "_law_is_whole" s_l_is_whole ["_law_value"] F_l_is_whole := by
  obtain ⟨a, fd, hF, hg⟩ := R.f_l_is_whole
  exact ⟨a, fd, hF, hg, fun_G hF sc_l_is_whole (spF_len rfl) (fun cdv A outer s H E hr hgd => ⟨t_l_is_whole K, (pss_one (ps_ret (pe_and (pe_callB call_isi (by rfl) R.b_isinstance (by decide +kernel) (pa_cons (pv 0) (pa_cons (pe_bltn (v := .ty "int") rfl R.b_int (by decide +kernel) rfl) pa_nil))) (pe_one (pe_not (pe_callB call_isi (by rfl) R.b_isinstance (by decide +kernel) (pa_cons (pv 0) (pa_cons (pe_bltn (v := .ty "bool") rfl R.b_bool (by decide +kernel) rfl) pa_nil)))))))), fun vs Q h => spF_body ss_l_is_whole rfl h⟩), hF.binds fun _ _ _ _ _ _ us hl => match us, hl with | [_], _ => rfl⟩
theorem sc_is_weighted : FnScope ["value"] ["value"] (defScope s_is_weighted) := ⟨rfl, rfl, rfl, by decide +kernel, rfl, by decide +kernel, by decide +kernel⟩
def d_is_weighted : DS := (dSeq (dIfS (dOrB (dNotB (dTest (dIsi .tup (dBor 0)))) (dTest (dOp (fEqX true) (dCall (f1 gLenW) (dCons (dBor 0) dNil)) (dC (.int 2))))) (dRet (dC (.bool false))) dNext) (dRet (dAndV (dCallF F_is_whole (dCons (dOp fIx (dBor 0) (dC (.int 0))) dNil)) (dAndV (dCallF F_is_whole (dCons (dOp fIx (dBor 0) (dC (.int 1))) dNil)) (dOp (fEqX true) (dOp fIx (dBor 0) (dC (.int 1))) (dC (.int 0)))))))
def F_is_weighted : FD := bodyF 1 0 d_is_weighted
def t_is_weighted (K : PySem.W.Frag) : TS := (tSeq (tIfS (tOr (tNot (tB (tCB (rIsi K) (tCons (tVar 0) (tCons (tC (.ty (Ty.nm .tup))) tNil))))) (tTest (tOp (rNeX K) (tCB (rLenW K) (tCons (tVar 0) tNil)) (tC (.int 2))))) (tRet (tC (.bl false))) tNext) (tRet (tAndV (tCall (spF K 1 F_is_whole) [] E0 (tCons (tOp (rIx K) (tVar 0) (tC (.int 0))) tNil)) (tAndV (tCall (spF K 1 F_is_whole) [] E0 (tCons (tOp (rIx K) (tVar 0) (tC (.int 1))) tNil)) (tOp (rNeX K) (tOp (rIx K) (tVar 0) (tC (.int 1))) (tC (.int 0)))))))
theorem ss_is_weighted : SS K (t_is_weighted K) d_is_weighted := (ss_seq (ss_if (sb_or (sb_not (sb_B (se_isi (by decide) se_bor))) (sb_test (se_op (se_call (sa_cons se_bor sa_nil) rs_lenW) se_int r2_neX))) (ss_ret se_bl) ss_next) (ss_ret (se_andV (se_fn bodyF_len (sa_cons (se_op se_bor se_int r2_ix) sa_nil)) (se_andV (se_fn bodyF_len (sa_cons (se_op se_bor se_int r2_ix) sa_nil)) (se_op (se_op se_bor se_int r2_ix) se_int r2_neX)))))
theorem cal_is_weighted (R : Raw K mg) : CalG P w K mg base 2 1 "is_weighted" s_is_weighted ["value"] F_is_weighted := by
  obtain ⟨a, fd, hF, hg⟩ := R.f_is_weighted
  exact ⟨a, fd, hF, hg, fun_G hF sc_is_weighted (spF_len rfl) (fun cdv A outer s H E hr hgd => ⟨t_is_weighted K, (pss_cons (ps_if (PW.pt (pw_or (pt_not (pt_val (pe_callB call_isi (by rfl) R.b_isinstance (by decide +kernel) (pa_cons (pv 0) (pa_cons (pe_bltn (v := .ty "tuple") rfl R.b_tuple (by decide +kernel) rfl) pa_nil))))) (pw_or1 (pt_cmpR (op_neX hr.units) (pe_callB call_lenW (by rfl) R.b_len (by decide +kernel) (pa_cons (pv 0) pa_nil)) pe_int (nomark _))))) (pss_one (ps_ret pe_bl)) pss_nil) (pss_one (ps_ret (pe_and (pe_cal (E := E0) (cal_is_whole R) hr (by decide) hgd rfl (pa_cons (pe_ix ix_seq (pv 0) pe_int (fun _ _ => rfl)) pa_nil)) (pe_and (pe_cal (E := E0) (cal_is_whole R) hr (by decide) hgd rfl (pa_cons (pe_ix ix_seq (pv 0) pe_int (fun _ _ => rfl)) pa_nil)) (pe_one (pe_cmpR (op_neX hr.units) (pe_ix ix_seq (pv 0) pe_int (fun _ _ => rfl)) pe_int (nomark _)))))))), fun vs Q h => spF_body ss_is_weighted rfl h⟩), hF.binds fun _ _ _ _ _ _ us hl => match us, hl with | [_], _ => rfl⟩
theorem sc_l_one_of : FnScope ["_law_spring_here", "_law_some"] ["_law_spring_here", "_law_some"] (defScope s_l_one_of) := ⟨rfl, rfl, rfl, by decide +kernel, rfl, by decide +kernel, by decide +kernel⟩
def d_l_one_of : DS := (dRet (dOp fIx (dBor 1) (dCallF F_l_draw (dCons (dBor 0) (dCons (dCall (f1 gLenW) (dCons (dBor 1) dNil)) dNil)))))
def F_l_one_of : FD := bodyF 2 0 d_l_one_of
def t_l_one_of (K : PySem.W.Frag) : TS := (tRet (tOp (rIx K) (tVar 1) (tCall (spF K 2 F_l_draw) [] E0 (tCons (tVar 0) (tCons (tCB (rLenW K) (tCons (tVar 1) tNil)) tNil)))))
theorem ss_l_one_of : SS K (t_l_one_of K) d_l_one_of := (ss_ret (se_op se_bor (se_fn bodyF_len (sa_cons se_bor (sa_cons (se_call (sa_cons se_bor sa_nil) rs_lenW) sa_nil))) r2_ix))
theorem cal_l_one_of (R : Raw K mg) : CalG P w K mg base 2 2 "_law_one_of" s_l_one_of ["_law_spring_here", "_law_some"] F_l_one_of := by
  obtain ⟨a, fd, hF, hg⟩ := R.f_l_one_of
  exact ⟨a, fd, hF, hg, fun_G hF sc_l_one_of (spF_len rfl) (fun cdv A outer s H E hr hgd => ⟨t_l_one_of K, (pss_one (ps_ret (pe_ix ix_seq (pv 1) (pe_cal (E := E0) (cal_l_draw R) hr (by decide) hgd rfl (pa_cons (pv 0) (pa_cons (pe_callB call_lenW (by rfl) R.b_len (by decide +kernel) (pa_cons (pv 1) pa_nil)) pa_nil))) (fun _ _ => rfl)))), fun vs Q h => spF_body ss_l_one_of rfl h⟩), hF.binds fun _ _ _ _ _ _ us hl => match us, hl with | [_, _], _ => rfl⟩
theorem sc_l_is_pair : FnScope ["_law_value"] ["_law_value"] (defScope s_l_is_pair) := ⟨rfl, rfl, rfl, by decide +kernel, rfl, by decide +kernel, by decide +kernel⟩
def d_l_is_pair : DS := (dSeq (dIfS (dOrB (dNotB (dTest (dIsi .tup (dBor 0)))) (dTest (dOp (fEqX true) (dCall (f1 gLenW) (dCons (dBor 0) dNil)) (dC (.int 2))))) (dRet (dC (.bool false))) dNext) (dRet (dAndV (dCallF F_l_is_whole (dCons (dOp fIx (dBor 0) (dC (.int 0))) dNil)) (dAndV (dCallF F_l_is_whole (dCons (dOp fIx (dBor 0) (dC (.int 1))) dNil)) (dOp (fEqX true) (dOp fIx (dBor 0) (dC (.int 1))) (dC (.int 0)))))))
def F_l_is_pair : FD := bodyF 1 0 d_l_is_pair
def t_l_is_pair (K : PySem.W.Frag) : TS := (tSeq (tIfS (tOr (tNot (tB (tCB (rIsi K) (tCons (tVar 0) (tCons (tC (.ty (Ty.nm .tup))) tNil))))) (tTest (tOp (rNeX K) (tCB (rLenW K) (tCons (tVar 0) tNil)) (tC (.int 2))))) (tRet (tC (.bl false))) tNext) (tRet (tAndV (tCall (spF K 1 F_l_is_whole) [] E0 (tCons (tOp (rIx K) (tVar 0) (tC (.int 0))) tNil)) (tAndV (tCall (spF K 1 F_l_is_whole) [] E0 (tCons (tOp (rIx K) (tVar 0) (tC (.int 1))) tNil)) (tOp (rNeX K) (tOp (rIx K) (tVar 0) (tC (.int 1))) (tC (.int 0)))))))
theorem ss_l_is_pair : SS K (t_l_is_pair K) d_l_is_pair := (ss_seq (ss_if (sb_or (sb_not (sb_B (se_isi (by decide) se_bor))) (sb_test (se_op (se_call (sa_cons se_bor sa_nil) rs_lenW) se_int r2_neX))) (ss_ret se_bl) ss_next) (ss_ret (se_andV (se_fn bodyF_len (sa_cons (se_op se_bor se_int r2_ix) sa_nil)) (se_andV (se_fn bodyF_len (sa_cons (se_op se_bor se_int r2_ix) sa_nil)) (se_op (se_op se_bor se_int r2_ix) se_int r2_neX)))))
theorem cal_l_is_pair (R : Raw K mg) : CalG P w K mg base 2 1 "_law_is_pair" s_l_is_pair ["_law_value"] F_l_is_pair := by
  obtain ⟨a, fd, hF, hg⟩ := R.f_l_is_pair
  exact ⟨a, fd, hF, hg, fun_G hF sc_l_is_pair (spF_len rfl) (fun cdv A outer s H E hr hgd => ⟨t_l_is_pair K, (pss_cons (ps_if (PW.pt (pw_or (pt_not (pt_val (pe_callB call_isi (by rfl) R.b_isinstance (by decide +kernel) (pa_cons (pv 0) (pa_cons (pe_bltn (v := .ty "tuple") rfl R.b_tuple (by decide +kernel) rfl) pa_nil))))) (pw_or1 (pt_cmpR (op_neX hr.units) (pe_callB call_lenW (by rfl) R.b_len (by decide +kernel) (pa_cons (pv 0) pa_nil)) pe_int (nomark _))))) (pss_one (ps_ret pe_bl)) pss_nil) (pss_one (ps_ret (pe_and (pe_cal (E := E0) (cal_l_is_whole R) hr (by decide) hgd rfl (pa_cons (pe_ix ix_seq (pv 0) pe_int (fun _ _ => rfl)) pa_nil)) (pe_and (pe_cal (E := E0) (cal_l_is_whole R) hr (by decide) hgd rfl (pa_cons (pe_ix ix_seq (pv 0) pe_int (fun _ _ => rfl)) pa_nil)) (pe_one (pe_cmpR (op_neX hr.units) (pe_ix ix_seq (pv 0) pe_int (fun _ _ => rfl)) pe_int (nomark _)))))))), fun vs Q h => spF_body ss_l_is_pair rfl h⟩), hF.binds fun _ _ _ _ _ _ us hl => match us, hl with | [_], _ => rfl⟩
theorem sc_first_wrong : FnScope ["values", "at", "value"] ["values"] (defScope s_first_wrong) := ⟨rfl, rfl, rfl, by decide +kernel, rfl, by decide +kernel, by decide +kernel⟩
def d_first_wrong : DS := (dSeq (dFor (dEnum (dCons (dVar 0) dNil)) (aTup 2 (aCons (aName 1) (aCons (aName 2) aNil))) (dIfS (dOrB (dNotB (dTest (dCallF F_is_weighted (dCons (dVar 2) dNil)))) (dAndB (dTest (dOp (fII gGt) (dBor 1) (dC (.int 0)))) (dTest (dOp (fII gLe) (dOp fIx (dBor 2) (dC (.int 0))) (dOp fIx (dOp fIx (dBor 0) (dOp (fII gSub) (dBor 1) (dC (.int 1)))) (dC (.int 0))))))) (dRet (dVar 1)) dNext)) (dRet (dC .none)))
def F_first_wrong : FD := bodyF 1 2 d_first_wrong
def t_first_wrong (K : PySem.W.Frag) : TS := (tSeq (tFor (iEnumA K (tCons (tVar 0) tNil)) (gTup K 2 (gCons (gName 1) (gCons (gName 2) gNil))) (tIfS (tOr (tNot (tB (tCall (spF K 1 F_is_weighted) [] E0 (tCons (tVar 2) tNil)))) (tAnd (tTest (tOp (rGtU) (tVar 1) (tC (.int 0)))) (tTest (tOp (rLeU) (tOp (rIx K) (tVar 2) (tC (.int 0))) (tOp (rIx K) (tOp (rIx K) (tVar 0) (tOp (rSubU) (tVar 1) (tC (.int 1)))) (tC (.int 0))))))) (tRet (tVar 1)) tNext)) (tRet (tC .non)))
theorem ss_first_wrong : SS K (t_first_wrong K) d_first_wrong := (ss_seq (ss_for (si_enum (sa_cons se_var sa_nil)) (sg_tup (sgs_cons sg_name (sgs_cons sg_name sgs_nil))) (ss_if (sb_or (sb_not (sb_B (se_fn bodyF_len (sa_cons se_var sa_nil)))) (sb_and (sb_test (se_op se_bor se_int r2_gtU)) (sb_test (se_op (se_op se_bor se_int r2_ix) (se_op (se_op se_bor (se_op se_bor se_int r2_subU) r2_ix) se_int r2_ix) r2_leU)))) (ss_ret se_var) ss_next)) (ss_ret se_non))
theorem cal_first_wrong (R : Raw K mg) : CalG P w K mg base 3 1 "first_wrong" s_first_wrong ["values"] F_first_wrong := by
  obtain ⟨a, fd, hF, hg⟩ := R.f_first_wrong
  exact ⟨a, fd, hF, hg, fun_G hF sc_first_wrong (spF_len rfl) (fun cdv A outer s H E hr hgd => ⟨t_first_wrong K, (pss_cons (ps_for PassesOwn.never rfl (pi_enumA rfl R.b_enumerate (pa_cons (pv 0) pa_nil)) (pg_tup rfl (pgs_cons (pg_name (i := 1) sc_first_wrong.nd rfl (.inl rfl)) (pgs_cons (pg_name (i := 2) sc_first_wrong.nd rfl (.inl rfl)) pgs_nil))) (pss_one (ps_if (PW.pt (pw_or (pt_not (pt_val (pe_cal (E := E0) (cal_is_weighted R) hr (by decide) hgd rfl (pa_cons (pv 2) pa_nil)))) (pw_or1 (PW.pt (pw_and (pt_cmpR op_gtU (pv 1) pe_int (nomark _)) (pw_and1 (pt_cmpR op_leU (pe_ix ix_seq (pv 2) pe_int (fun _ _ => rfl)) (pe_ix ix_seq (pe_ix ix_seq (pv 0) (pe_op op_subU (pv 1) pe_int) (fun _ _ => rfl)) pe_int (fun _ _ => rfl)) (nomark _)))))))) (pss_one (ps_ret (pv 1))) pss_nil))) (pss_one (ps_ret pe_non))), fun vs Q h => spF_body ss_first_wrong rfl h⟩), hF.binds fun _ _ _ _ _ _ us hl => match us, hl with | [_], _ => rfl⟩
theorem sc_l_number : FnScope ["_law_spring_here", "_law_size", "_law_far", "_law_number_here"] ["_law_spring_here", "_law_size"] (defScope s_l_number) := ⟨rfl, rfl, rfl, by decide +kernel, rfl, by decide +kernel, by decide +kernel⟩
def d_l_number : DS := (dSeq (dSet 2 (dCallF F_l_one_of (dCons (dBor 0) (dCons (dLst (dCons (dC (.int 0)) (dCons (dC (.int 0)) (dCons (dC (.int 0)) (dCons (dC (.int 0)) (dCons (dC (.int 0)) (dCons (dC (.int 0)) (dCons (dC (.int 0)) (dCons (dC (.int 0)) (dCons (dC (.int 0)) (dCons (dC (.int 0)) (dCons (dOp (fII gPow) (dC (.int 10)) (dC (.int 6))) (dCons (dOp (fII gPow) (dC (.int 10)) (dC (.int 30))) dNil))))))))))))) dNil)))) (dSeq (dSet 3 (dOp fAddU (dCallF F_l_draw (dCons (dBor 0) (dCons (dOp fAddU (dBor 1) (dC (.int 1))) dNil))) (dOp fMulU (dBor 2) (dCallF F_l_draw (dCons (dBor 0) (dCons (dC (.int 9)) dNil)))))) (dRet (dIf (dTest (dOp (fEqX false) (dCallF F_l_draw (dCons (dBor 0) (dCons (dC (.int 2)) dNil))) (dC (.int 0)))) (dVar 3) (dOp (fII gSub) (dC (.int 0)) (dBor 3))))))
def F_l_number : FD := bodyF 2 2 d_l_number
def t_l_number (K : PySem.W.Frag) : TS := (tSeq (tAsg (tCall (spF K 2 F_l_one_of) [] E0 (tCons (tVar 0) (tCons (tLst (tCons (tC (.int 0)) (tCons (tC (.int 0)) (tCons (tC (.int 0)) (tCons (tC (.int 0)) (tCons (tC (.int 0)) (tCons (tC (.int 0)) (tCons (tC (.int 0)) (tCons (tC (.int 0)) (tCons (tC (.int 0)) (tCons (tC (.int 0)) (tCons (tOp (rPowU) (tC (.int 10)) (tC (.int 6))) (tCons (tOp (rPowU) (tC (.int 10)) (tC (.int 30))) tNil))))))))))))) tNil))) (gName 2)) (tSeq (tAsg (tOp (rAddU K) (tCall (spF K 2 F_l_draw) [] E0 (tCons (tVar 0) (tCons (tOp (rAddU K) (tVar 1) (tC (.int 1))) tNil))) (tOp (rMulU) (tVar 2) (tCall (spF K 2 F_l_draw) [] E0 (tCons (tVar 0) (tCons (tC (.int 9)) tNil))))) (gName 3)) (tRet (tIf (tTest (tOp (rEqX K) (tCall (spF K 2 F_l_draw) [] E0 (tCons (tVar 0) (tCons (tC (.int 2)) tNil))) (tC (.int 0)))) (tVar 3) (tOp (rSubU) (tC (.int 0)) (tVar 3))))))
theorem ss_l_number : SS K (t_l_number K) d_l_number := (ss_seq (ss_set (se_fn bodyF_len (sa_cons se_bor (sa_cons (se_lst (sa_cons se_int (sa_cons se_int (sa_cons se_int (sa_cons se_int (sa_cons se_int (sa_cons se_int (sa_cons se_int (sa_cons se_int (sa_cons se_int (sa_cons se_int (sa_cons (se_op se_int se_int r2_powU) (sa_cons (se_op se_int se_int r2_powU) sa_nil))))))))))))) sa_nil)))) (ss_seq (ss_set (se_op (se_fn bodyF_len (sa_cons se_bor (sa_cons (se_op se_bor se_int r2_addU) sa_nil))) (se_op se_bor (se_fn bodyF_len (sa_cons se_bor (sa_cons se_int sa_nil))) r2_mulU) r2_addU)) (ss_ret (se_if (sb_test (se_op (se_fn bodyF_len (sa_cons se_bor (sa_cons se_int sa_nil))) se_int r2_eqX)) se_var (se_op se_int se_bor r2_subU)))))
theorem cal_l_number (R : Raw K mg) : CalG P w K mg base 3 2 "_law_number" s_l_number ["_law_spring_here", "_law_size"] F_l_number := by
  obtain ⟨a, fd, hF, hg⟩ := R.f_l_number
  exact ⟨a, fd, hF, hg, fun_G hF sc_l_number (spF_len rfl) (fun cdv A outer s H E hr hgd => ⟨t_l_number K, (pss_cons (ps_set (i := 2) sc_l_number.nd rfl (.inl rfl) (pe_cal (E := E0) (cal_l_one_of R) hr (by decide) hgd rfl (pa_cons (pv 0) (pa_cons (pe_lst (pa_cons pe_int (pa_cons pe_int (pa_cons pe_int (pa_cons pe_int (pa_cons pe_int (pa_cons pe_int (pa_cons pe_int (pa_cons pe_int (pa_cons pe_int (pa_cons pe_int (pa_cons (pe_op op_powU pe_int pe_int) (pa_cons (pe_op op_powU pe_int pe_int) pa_nil))))))))))))) pa_nil)))) (pss_cons (ps_set (i := 3) sc_l_number.nd rfl (.inl rfl) (pe_op op_addU (pe_cal (E := E0) (cal_l_draw R) hr (by decide) hgd rfl (pa_cons (pv 0) (pa_cons (pe_op op_addU (pv 1) pe_int) pa_nil))) (pe_op op_mulU (pv 2) (pe_cal (E := E0) (cal_l_draw R) hr (by decide) hgd rfl (pa_cons (pv 0) (pa_cons pe_int pa_nil)))))) (pss_one (ps_ret (pe_ifExp (pt_cmpR (op_eqX hr.units) (pe_cal (E := E0) (cal_l_draw R) hr (by decide) hgd rfl (pa_cons (pv 0) (pa_cons pe_int pa_nil))) pe_int (nomark _)) (pv 3) (pe_op op_subU pe_int (pv 3))))))), fun vs Q h => spF_body ss_l_number rfl h⟩), hF.binds fun _ _ _ _ _ _ us hl => match us, hl with | [_, _], _ => rfl⟩
theorem sc_l_odd : FnScope ["_law_spring_here", "_law_some", "_law_more"] ["_law_spring_here"] (defScope s_l_odd) := ⟨rfl, rfl, rfl, by decide +kernel, rfl, by decide +kernel, by decide +kernel⟩
def d_l_odd : DS := (dSeq (dSet 1 (dLst (dCons (dC .none) (dCons (dC (.bool true)) (dCons (dC (.bool false)) (dCons (dC (.int 0)) (dCons (dC (.int 1)) (dCons (dUn fNeg (dC (.int 1))) (dCons (dOp (fII gPow) (dC (.int 10)) (dC (.int 40))) (dCons (dC (.str "")) (dCons (dC (.str "x")) (dCons (dC (.str "0 1")) (dCons (dTup dNil) (dCons (dTup (dCons (dC (.int 0)) dNil)) (dCons (dTup (dCons (dC (.int 0)) (dCons (dC (.int 1)) dNil))) (dCons (dTup (dCons (dC (.int 0)) (dCons (dC (.int 1)) (dCons (dC (.int 2)) dNil)))) (dCons (dTup (dCons (dTup (dCons (dC (.int 0)) (dCons (dC (.int 1)) dNil))) dNil)) (dCons (dLst dNil) (dCons (dLst (dCons (dC (.int 0)) (dCons (dC (.int 1)) dNil))) dNil))))))))))))))))))) (dSeq (dSet 2 (dLst (dCons (dLst (dCons (dTup (dCons (dC (.int 0)) (dCons (dC (.int 1)) dNil))) dNil)) (dCons dDNew (dCons (dDisp1 0 1) (dCons (dTup (dCons (dC .none) (dCons (dC (.int 1)) dNil))) (dCons (dTup (dCons (dC (.int 0)) (dCons (dC .none) dNil))) (dCons (dTup (dCons (dC (.str "0")) (dCons (dC (.str "1")) dNil))) (dCons (dTup (dCons (dTup (dCons (dC (.int 0)) (dCons (dC (.int 1)) dNil))) (dCons (dC (.int 1)) dNil))) (dCons (dTup (dCons (dC (.bool true)) (dCons (dC (.int 1)) dNil))) (dCons (dTup (dCons (dC (.int 0)) (dCons (dC (.bool true)) dNil))) (dCons (dTup (dCons (dC (.int 0)) (dCons (dC (.bool false)) dNil))) dNil)))))))))))) (dRet (dCallF F_l_one_of (dCons (dBor 0) (dCons (dOp fAddU (dBor 1) (dBor 2)) dNil))))))
def F_l_odd : FD := bodyF 1 2 d_l_odd
def t_l_odd (K : PySem.W.Frag) : TS := (tSeq (tAsg (tLst (tCons (tC .non) (tCons (tC (.bl true)) (tCons (tC (.bl false)) (tCons (tC (.int 0)) (tCons (tC (.int 1)) (tCons (tUn (rU fun i => .int (-i)) (tC (.int 1))) (tCons (tOp (rPowU) (tC (.int 10)) (tC (.int 40))) (tCons (tC (.str "")) (tCons (tC (.str "x")) (tCons (tC (.str "0 1")) (tCons (tTup tNil) (tCons (tTup (tCons (tC (.int 0)) tNil)) (tCons (tTup (tCons (tC (.int 0)) (tCons (tC (.int 1)) tNil))) (tCons (tTup (tCons (tC (.int 0)) (tCons (tC (.int 1)) (tCons (tC (.int 2)) tNil)))) (tCons (tTup (tCons (tTup (tCons (tC (.int 0)) (tCons (tC (.int 1)) tNil))) tNil)) (tCons (tLst tNil) (tCons (tLst (tCons (tC (.int 0)) (tCons (tC (.int 1)) tNil))) tNil)))))))))))))))))) (gName 1)) (tSeq (tAsg (tLst (tCons (tLst (tCons (tTup (tCons (tC (.int 0)) (tCons (tC (.int 1)) tNil))) tNil)) (tCons tDNewK (tCons (tDisp [(tC (.int 0), tC (.int 1))]) (tCons (tTup (tCons (tC .non) (tCons (tC (.int 1)) tNil))) (tCons (tTup (tCons (tC (.int 0)) (tCons (tC .non) tNil))) (tCons (tTup (tCons (tC (.str "0")) (tCons (tC (.str "1")) tNil))) (tCons (tTup (tCons (tTup (tCons (tC (.int 0)) (tCons (tC (.int 1)) tNil))) (tCons (tC (.int 1)) tNil))) (tCons (tTup (tCons (tC (.bl true)) (tCons (tC (.int 1)) tNil))) (tCons (tTup (tCons (tC (.int 0)) (tCons (tC (.bl true)) tNil))) (tCons (tTup (tCons (tC (.int 0)) (tCons (tC (.bl false)) tNil))) tNil))))))))))) (gName 2)) (tRet (tCall (spF K 2 F_l_one_of) [] E0 (tCons (tVar 0) (tCons (tOp (rAddU K) (tVar 1) (tVar 2)) tNil))))))
theorem ss_l_odd : SS K (t_l_odd K) d_l_odd := (ss_seq (ss_set (se_lst (sa_cons se_non (sa_cons se_bl (sa_cons se_bl (sa_cons se_int (sa_cons se_int (sa_cons (se_un se_int ru_neg) (sa_cons (se_op se_int se_int r2_powU) (sa_cons se_str (sa_cons se_str (sa_cons se_str (sa_cons (se_tup sa_nil) (sa_cons (se_tup (sa_cons se_int sa_nil)) (sa_cons (se_tup (sa_cons se_int (sa_cons se_int sa_nil))) (sa_cons (se_tup (sa_cons se_int (sa_cons se_int (sa_cons se_int sa_nil)))) (sa_cons (se_tup (sa_cons (se_tup (sa_cons se_int (sa_cons se_int sa_nil))) sa_nil)) (sa_cons (se_lst sa_nil) (sa_cons (se_lst (sa_cons se_int (sa_cons se_int sa_nil))) sa_nil))))))))))))))))))) (ss_seq (ss_set (se_lst (sa_cons (se_lst (sa_cons (se_tup (sa_cons se_int (sa_cons se_int sa_nil))) sa_nil)) (sa_cons se_dnew (sa_cons se_disp1 (sa_cons (se_tup (sa_cons se_non (sa_cons se_int sa_nil))) (sa_cons (se_tup (sa_cons se_int (sa_cons se_non sa_nil))) (sa_cons (se_tup (sa_cons se_str (sa_cons se_str sa_nil))) (sa_cons (se_tup (sa_cons (se_tup (sa_cons se_int (sa_cons se_int sa_nil))) (sa_cons se_int sa_nil))) (sa_cons (se_tup (sa_cons se_bl (sa_cons se_int sa_nil))) (sa_cons (se_tup (sa_cons se_int (sa_cons se_bl sa_nil))) (sa_cons (se_tup (sa_cons se_int (sa_cons se_bl sa_nil))) sa_nil)))))))))))) (ss_ret (se_fn bodyF_len (sa_cons se_bor (sa_cons (se_op se_bor se_bor r2_addU) sa_nil))))))
theorem cal_l_odd (R : Raw K mg) : CalG P w K mg base 3 1 "_law_odd" s_l_odd ["_law_spring_here"] F_l_odd := by
  obtain ⟨a, fd, hF, hg⟩ := R.f_l_odd
  exact ⟨a, fd, hF, hg, fun_G hF sc_l_odd (spF_len rfl) (fun cdv A outer s H E hr hgd => ⟨t_l_odd K, (pss_cons (ps_set (i := 1) sc_l_odd.nd rfl (.inl rfl) (pe_lst (pa_cons pe_non (pa_cons pe_bl (pa_cons pe_bl (pa_cons pe_int (pa_cons pe_int (pa_cons (pe_un un_neg pe_int) (pa_cons (pe_op op_powU pe_int pe_int) (pa_cons pe_str (pa_cons pe_str (pa_cons pe_str (pa_cons (pe_tup pa_nil) (pa_cons (pe_tup (pa_cons pe_int pa_nil)) (pa_cons (pe_tup (pa_cons pe_int (pa_cons pe_int pa_nil))) (pa_cons (pe_tup (pa_cons pe_int (pa_cons pe_int (pa_cons pe_int pa_nil)))) (pa_cons (pe_tup (pa_cons (pe_tup (pa_cons pe_int (pa_cons pe_int pa_nil))) pa_nil)) (pa_cons (pe_lst pa_nil) (pa_cons (pe_lst (pa_cons pe_int (pa_cons pe_int pa_nil))) pa_nil))))))))))))))))))) (pss_cons (ps_set (i := 2) sc_l_odd.nd rfl (.inl rfl) (pe_lst (pa_cons (pe_lst (pa_cons (pe_tup (pa_cons pe_int (pa_cons pe_int pa_nil))) pa_nil)) (pa_cons pe_dnewK (pa_cons (pe_disp (trs := [(tC (.int 0), tC (.int 1))]) (pps_cons pe_int pe_int pps_nil) rfl rfl (by simp) (by decide)) (pa_cons (pe_tup (pa_cons pe_non (pa_cons pe_int pa_nil))) (pa_cons (pe_tup (pa_cons pe_int (pa_cons pe_non pa_nil))) (pa_cons (pe_tup (pa_cons pe_str (pa_cons pe_str pa_nil))) (pa_cons (pe_tup (pa_cons (pe_tup (pa_cons pe_int (pa_cons pe_int pa_nil))) (pa_cons pe_int pa_nil))) (pa_cons (pe_tup (pa_cons pe_bl (pa_cons pe_int pa_nil))) (pa_cons (pe_tup (pa_cons pe_int (pa_cons pe_bl pa_nil))) (pa_cons (pe_tup (pa_cons pe_int (pa_cons pe_bl pa_nil))) pa_nil)))))))))))) (pss_one (ps_ret (pe_cal (E := E0) (cal_l_one_of R) hr (by decide) hgd rfl (pa_cons (pv 0) (pa_cons (pe_op op_addU (pv 1) (pv 2)) pa_nil))))))), fun vs Q h => spF_body ss_l_odd rfl h⟩), hF.binds fun _ _ _ _ _ _ us hl => match us, hl with | [_], _ => rfl⟩
theorem sc_l_fault : FnScope ["_law_value", "_law_at", "_law_pair"] ["_law_value"] (defScope s_l_fault) := ⟨rfl, rfl, rfl, by decide +kernel, rfl, by decide +kernel, by decide +kernel⟩
def d_l_fault : DS := (dSeq (dIfS (dOrB (dNotB (dTest (dIsi .tup (dBor 0)))) (dTest (dOp (fII gGt) (dCall (f1 gLenW) (dCons (dBor 0) dNil)) (dC (.int 400))))) (dRet (dLst (dCons (dC (.str "row")) (dCons (dC (.str "None")) dNil)))) dNext) (dSeq (dFor (dEnum (dCons (dVar 0) dNil)) (aTup 2 (aCons (aName 1) (aCons (aName 2) aNil))) (dIfS (dOrB (dNotB (dTest (dCallF F_l_is_pair (dCons (dVar 2) dNil)))) (dAndB (dTest (dOp (fII gGt) (dBor 1) (dC (.int 0)))) (dTest (dOp (fII gLe) (dOp fIx (dBor 2) (dC (.int 0))) (dOp fIx (dOp fIx (dBor 0) (dOp (fII gSub) (dBor 1) (dC (.int 1)))) (dC (.int 0))))))) (dRet (dLst (dCons (dC (.str "row")) (dCons (dCall (f1 gReprW) (dCons (dVar 1) dNil)) dNil)))) dNext)) (dRet (dLst dNil))))
def F_l_fault : FD := bodyF 1 2 d_l_fault
def t_l_fault (K : PySem.W.Frag) : TS := (tSeq (tIfS (tOr (tNot (tB (tCB (rIsi K) (tCons (tVar 0) (tCons (tC (.ty (Ty.nm .tup))) tNil))))) (tTest (tOp (rGtU) (tCB (rLenW K) (tCons (tVar 0) tNil)) (tC (.int 400))))) (tRet (tLst (tCons (tC (.str "row")) (tCons (tC (.str "None")) tNil)))) tNext) (tSeq (tFor (iEnumA K (tCons (tVar 0) tNil)) (gTup K 2 (gCons (gName 1) (gCons (gName 2) gNil))) (tIfS (tOr (tNot (tB (tCall (spF K 1 F_l_is_pair) [] E0 (tCons (tVar 2) tNil)))) (tAnd (tTest (tOp (rGtU) (tVar 1) (tC (.int 0)))) (tTest (tOp (rLeU) (tOp (rIx K) (tVar 2) (tC (.int 0))) (tOp (rIx K) (tOp (rIx K) (tVar 0) (tOp (rSubU) (tVar 1) (tC (.int 1)))) (tC (.int 0))))))) (tRet (tLst (tCons (tC (.str "row")) (tCons (tCB (rReprW K) (tCons (tVar 1) tNil)) tNil)))) tNext)) (tRet (tLst tNil))))
theorem ss_l_fault : SS K (t_l_fault K) d_l_fault := (ss_seq (ss_if (sb_or (sb_not (sb_B (se_isi (by decide) se_bor))) (sb_test (se_op (se_call (sa_cons se_bor sa_nil) rs_lenW) se_int r2_gtU))) (ss_ret (se_lst (sa_cons se_str (sa_cons se_str sa_nil)))) ss_next) (ss_seq (ss_for (si_enum (sa_cons se_var sa_nil)) (sg_tup (sgs_cons sg_name (sgs_cons sg_name sgs_nil))) (ss_if (sb_or (sb_not (sb_B (se_fn bodyF_len (sa_cons se_var sa_nil)))) (sb_and (sb_test (se_op se_bor se_int r2_gtU)) (sb_test (se_op (se_op se_bor se_int r2_ix) (se_op (se_op se_bor (se_op se_bor se_int r2_subU) r2_ix) se_int r2_ix) r2_leU)))) (ss_ret (se_lst (sa_cons se_str (sa_cons (se_call (sa_cons se_var sa_nil) rs_reprW) sa_nil)))) ss_next)) (ss_ret (se_lst sa_nil))))
theorem cal_l_fault (R : Raw K mg) : CalG P w K mg base 3 1 "_law_fault" s_l_fault ["_law_value"] F_l_fault := by
  obtain ⟨a, fd, hF, hg⟩ := R.f_l_fault
  exact ⟨a, fd, hF, hg, fun_G hF sc_l_fault (spF_len rfl) (fun cdv A outer s H E hr hgd => ⟨t_l_fault K, (pss_cons (ps_if (PW.pt (pw_or (pt_not (pt_val (pe_callB call_isi (by rfl) R.b_isinstance (by decide +kernel) (pa_cons (pv 0) (pa_cons (pe_bltn (v := .ty "tuple") rfl R.b_tuple (by decide +kernel) rfl) pa_nil))))) (pw_or1 (pt_cmpR op_gtU (pe_callB call_lenW (by rfl) R.b_len (by decide +kernel) (pa_cons (pv 0) pa_nil)) pe_int (nomark _))))) (pss_one (ps_ret (pe_lst (pa_cons pe_str (pa_cons pe_str pa_nil))))) pss_nil) (pss_cons (ps_for PassesOwn.never rfl (pi_enumA rfl R.b_enumerate (pa_cons (pv 0) pa_nil)) (pg_tup rfl (pgs_cons (pg_name (i := 1) sc_l_fault.nd rfl (.inl rfl)) (pgs_cons (pg_name (i := 2) sc_l_fault.nd rfl (.inl rfl)) pgs_nil))) (pss_one (ps_if (PW.pt (pw_or (pt_not (pt_val (pe_cal (E := E0) (cal_l_is_pair R) hr (by decide) hgd rfl (pa_cons (pv 2) pa_nil)))) (pw_or1 (PW.pt (pw_and (pt_cmpR op_gtU (pv 1) pe_int (nomark _)) (pw_and1 (pt_cmpR op_leU (pe_ix ix_seq (pv 2) pe_int (fun _ _ => rfl)) (pe_ix ix_seq (pe_ix ix_seq (pv 0) (pe_op op_subU (pv 1) pe_int) (fun _ _ => rfl)) pe_int (fun _ _ => rfl)) (nomark _)))))))) (pss_one (ps_ret (pe_lst (pa_cons pe_str (pa_cons (pe_callB (call_reprW hgd (hr.units)) (by rfl) R.b_repr (by decide +kernel) (pa_cons (pv 1) pa_nil)) pa_nil))))) pss_nil))) (pss_one (ps_ret (pe_lst pa_nil))))), fun vs Q h => spF_body ss_l_fault rfl h⟩), hF.binds fun _ _ _ _ _ _ us hl => match us, hl with | [_], _ => rfl⟩
theorem sc_makes_row : FnScope ["value"] ["value"] (defScope s_makes_row) := ⟨rfl, rfl, rfl, by decide +kernel, rfl, by decide +kernel, by decide +kernel⟩
def d_makes_row : DS := (dRet (dAndV (dCallF F_is_tuple_of_told_size (dCons (dVar 0) dNil)) (dOp (fIs false) (dCallF F_first_wrong (dCons (dVar 0) dNil)) (dC .none))))
def F_makes_row : FD := bodyF 1 0 d_makes_row
def t_makes_row (K : PySem.W.Frag) : TS := (tRet (tAndV (tCall (spF K 1 F_is_tuple_of_told_size) [] E0 (tCons (tVar 0) tNil)) (tOp (rIsNU) (tCall (spF K 1 F_first_wrong) [] E0 (tCons (tVar 0) tNil)) (tC .non))))
theorem ss_makes_row : SS K (t_makes_row K) d_makes_row := (ss_ret (se_andV (se_fn bodyF_len (sa_cons se_var sa_nil)) (se_op (se_fn bodyF_len (sa_cons se_var sa_nil)) se_non r2_isNU)))
theorem cal_makes_row (R : Raw K mg) : CalG P w K mg base 4 1 "makes_row" s_makes_row ["value"] F_makes_row := by
  obtain ⟨a, fd, hF, hg⟩ := R.f_makes_row
  exact ⟨a, fd, hF, hg, fun_G hF sc_makes_row (spF_len rfl) (fun cdv A outer s H E hr hgd => ⟨t_makes_row K, (pss_one (ps_ret (pe_and (pe_cal (E := E0) (cal_is_tuple_of_told_size R) hr (by decide) hgd rfl (pa_cons (pv 0) pa_nil)) (pe_one (pe_cmpR op_isNU (pe_cal (E := E0) (cal_first_wrong R) hr (by decide) hgd rfl (pa_cons (pv 0) pa_nil)) pe_non (nomark _)))))), fun vs Q h => spF_body ss_makes_row rfl h⟩), hF.binds fun _ _ _ _ _ _ us hl => match us, hl with | [_], _ => rfl⟩
theorem sc_l_weight : FnScope ["_law_spring_here", "_law_size", "_law_number_here"] ["_law_spring_here", "_law_size"] (defScope s_l_weight) := ⟨rfl, rfl, rfl, by decide +kernel, rfl, by decide +kernel, by decide +kernel⟩
def d_l_weight : DS := (dSeq (dSet 2 (dCallF F_l_number (dCons (dBor 0) (dCons (dVar 1) dNil)))) (dRet (dIf (dTest (dOp (fEqX true) (dBor 2) (dC (.int 0)))) (dVar 2) (dC (.int 1)))))
def F_l_weight : FD := bodyF 2 1 d_l_weight
def t_l_weight (K : PySem.W.Frag) : TS := (tSeq (tAsg (tCall (spF K 2 F_l_number) [] E0 (tCons (tVar 0) (tCons (tVar 1) tNil))) (gName 2)) (tRet (tIf (tTest (tOp (rNeX K) (tVar 2) (tC (.int 0)))) (tVar 2) (tC (.int 1)))))
theorem ss_l_weight : SS K (t_l_weight K) d_l_weight := (ss_seq (ss_set (se_fn bodyF_len (sa_cons se_bor (sa_cons se_var sa_nil)))) (ss_ret (se_if (sb_test (se_op se_bor se_int r2_neX)) se_var se_int)))
theorem cal_l_weight (R : Raw K mg) : CalG P w K mg base 4 2 "_law_weight" s_l_weight ["_law_spring_here", "_law_size"] F_l_weight := by
  obtain ⟨a, fd, hF, hg⟩ := R.f_l_weight
  exact ⟨a, fd, hF, hg, fun_G hF sc_l_weight (spF_len rfl) (fun cdv A outer s H E hr hgd => ⟨t_l_weight K, (pss_cons (ps_set (i := 2) sc_l_weight.nd rfl (.inl rfl) (pe_cal (E := E0) (cal_l_number R) hr (by decide) hgd rfl (pa_cons (pv 0) (pa_cons (pv 1) pa_nil)))) (pss_one (ps_ret (pe_ifExp (pt_cmpR (op_neX hr.units) (pv 2) pe_int (nomark _)) (pv 2) pe_int)))), fun vs Q h => spF_body ss_l_weight rfl h⟩), hF.binds fun _ _ _ _ _ _ us hl => match us, hl with | [_, _], _ => rfl⟩
theorem sc_l_bent : FnScope ["_law_spring_here", "_law_row", "_law_pairs", "_law_way", "_law_at", "_law_place", "_law_weight_here"] ["_law_spring_here", "_law_row"] (defScope s_l_bent) := ⟨rfl, rfl, rfl, by decide +kernel, rfl, by decide +kernel, by decide +kernel⟩
def d_l_bent : DS := (dSeq (dIfS (dTest (dOp (fEqX false) (dCall (f1 gLenW) (dCons (dBor 1) dNil)) (dC (.int 0)))) (dRet (dCallF F_l_one_of (dCons (dBor 0) (dCons (dLst (dCons (dTup dNil) (dCons (dLst dNil) (dCons (dTup (dCons (dCallF F_l_odd (dCons (dBor 0) dNil)) dNil)) (dCons dDNew dNil))))) dNil)))) dNext) (dSeq (dPar3X 2 3 4 (dCons (dCall (fList) (dCons (dBor 1) dNil)) (dCons (dCallF F_l_draw (dCons (dBor 0) (dCons (dC (.int 9)) dNil))) (dCons (dCallF F_l_draw (dCons (dBor 0) (dCons (dCall (f1 gLenW) (dCons (dBor 1) dNil)) dNil))) dNil)))) (dSeq (dAsg (aTup 2 (aCons (aName 5) (aCons (aName 6) aNil))) (dOp fIx (dBor 2) (dVar 4))) (dSeq (dIfS (dTest (dOp (fEqX false) (dBor 3) (dC (.int 0)))) (dAsg (aSub 2 (dVar 4)) (dCallF F_l_odd (dCons (dBor 0) dNil))) (dIfS (dTest (dOp (fEqX false) (dBor 3) (dC (.int 1)))) (dAsg (aSub 2 (dVar 4)) (dTup (dCons (dVar 5) (dCons (dC (.int 0)) dNil)))) (dIfS (dTest (dOp (fEqX false) (dBor 3) (dC (.int 2)))) (dAsg (aSub 2 (dVar 4)) (dTup (dCons (dVar 5) (dCons (dC (.bool true)) dNil)))) (dIfS (dTest (dOp (fEqX false) (dBor 3) (dC (.int 3)))) (dAsg (aSub 2 (dVar 4)) (dTup (dCons (dVar 5) (dCons (dVar 6) (dCons (dC (.int 1)) dNil))))) (dIfS (dTest (dOp (fEqX false) (dBor 3) (dC (.int 4)))) (dAsg (aSub 2 (dVar 4)) (dLst (dCons (dVar 5) (dCons (dVar 6) dNil)))) (dIfS (dTest (dOp (fEqX false) (dBor 3) (dC (.int 5)))) (dSet 2 (dOp fAddU (dOp fAddU (dSl2 (dBor 2) dNoPart (dPart (dVar 4))) (dLst (dCons (dOp fIx (dBor 2) (dVar 4)) dNil))) (dSl2 (dBor 2) (dPart (dVar 4)) dNoPart))) (dIfS (dTest (dOp (fEqX false) (dBor 3) (dC (.int 6)))) (dAsg (aSub 2 (dVar 4)) (dTup (dCons (dOp fIx (dOp fIx (dBor 2) (dOp (fII gSub) (dBor 4) (dC (.int 1)))) (dC (.int 0))) (dCons (dVar 6) dNil)))) (dIfS (dTest (dOp (fEqX false) (dBor 3) (dC (.int 7)))) (dAsg (aSub 2 (dVar 4)) (dTup (dCons (dOp (fII gSub) (dOp fIx (dOp fIx (dBor 2) (dOp (fII gSub) (dBor 4) (dC (.int 1)))) (dC (.int 0))) (dC (.int 1))) (dCons (dVar 6) dNil)))) dNext)))))))) (dRet (dIf (dTest (dOp (fEqX false) (dBor 3) (dC (.int 8)))) (dVar 2) (dCall (fTuple) (dCons (dBor 2) dNil))))))))
def F_l_bent : FD := bodyF 2 5 d_l_bent
def t_l_bent (K : PySem.W.Frag) : TS := (tSeq (tIfS (tTest (tOp (rEqX K) (tCB (rLenW K) (tCons (tVar 1) tNil)) (tC (.int 0)))) (tRet (tCall (spF K 2 F_l_one_of) [] E0 (tCons (tVar 0) (tCons (tLst (tCons (tTup tNil) (tCons (tLst tNil) (tCons (tTup (tCons (tCall (spF K 1 F_l_odd) [] E0 (tCons (tVar 0) tNil)) tNil)) (tCons tDNewK tNil))))) tNil)))) tNext) (tSeq (tPar3 2 3 4 (tCons (tCB (rListU K) (tCons (tVar 1) tNil)) (tCons (tCall (spF K 2 F_l_draw) [] E0 (tCons (tVar 0) (tCons (tC (.int 9)) tNil))) (tCons (tCall (spF K 2 F_l_draw) [] E0 (tCons (tVar 0) (tCons (tCB (rLenW K) (tCons (tVar 1) tNil)) tNil))) tNil)))) (tSeq (tAsg (tOp (rIx K) (tVar 2) (tVar 4)) (gTup K 2 (gCons (gName 5) (gCons (gName 6) gNil)))) (tSeq (tIfS (tTest (tOp (rEqX K) (tVar 3) (tC (.int 0)))) (tAsg (tCall (spF K 1 F_l_odd) [] E0 (tCons (tVar 0) tNil)) (L2.gSub (tVar 2) (tVar 4) rSetL)) (tIfS (tTest (tOp (rEqX K) (tVar 3) (tC (.int 1)))) (tAsg (tTup (tCons (tVar 5) (tCons (tC (.int 0)) tNil))) (L2.gSub (tVar 2) (tVar 4) rSetL)) (tIfS (tTest (tOp (rEqX K) (tVar 3) (tC (.int 2)))) (tAsg (tTup (tCons (tVar 5) (tCons (tC (.bl true)) tNil))) (L2.gSub (tVar 2) (tVar 4) rSetL)) (tIfS (tTest (tOp (rEqX K) (tVar 3) (tC (.int 3)))) (tAsg (tTup (tCons (tVar 5) (tCons (tVar 6) (tCons (tC (.int 1)) tNil)))) (L2.gSub (tVar 2) (tVar 4) rSetL)) (tIfS (tTest (tOp (rEqX K) (tVar 3) (tC (.int 4)))) (tAsg (tLst (tCons (tVar 5) (tCons (tVar 6) tNil))) (L2.gSub (tVar 2) (tVar 4) rSetL)) (tIfS (tTest (tOp (rEqX K) (tVar 3) (tC (.int 5)))) (tAsg (tOp (rAddU K) (tOp (rAddU K) (tSl (rSlB K) (tVar 2) tNoPart (tPart (tVar 4))) (tLst (tCons (tOp (rIx K) (tVar 2) (tVar 4)) tNil))) (tSl (rSlB K) (tVar 2) (tPart (tVar 4)) tNoPart)) (gName 2)) (tIfS (tTest (tOp (rEqX K) (tVar 3) (tC (.int 6)))) (tAsg (tTup (tCons (tOp (rIx K) (tOp (rIx K) (tVar 2) (tOp (rSubU) (tVar 4) (tC (.int 1)))) (tC (.int 0))) (tCons (tVar 6) tNil))) (L2.gSub (tVar 2) (tVar 4) rSetL)) (tIfS (tTest (tOp (rEqX K) (tVar 3) (tC (.int 7)))) (tAsg (tTup (tCons (tOp (rSubU) (tOp (rIx K) (tOp (rIx K) (tVar 2) (tOp (rSubU) (tVar 4) (tC (.int 1)))) (tC (.int 0))) (tC (.int 1))) (tCons (tVar 6) tNil))) (L2.gSub (tVar 2) (tVar 4) rSetL)) tNext)))))))) (tRet (tIf (tTest (tOp (rEqX K) (tVar 3) (tC (.int 8)))) (tVar 2) (tCB (rTupleU K) (tCons (tVar 2) tNil))))))))
theorem ss_l_bent : SS K (t_l_bent K) d_l_bent := (ss_seq (ss_if (sb_test (se_op (se_call (sa_cons se_bor sa_nil) rs_lenW) se_int r2_eqX)) (ss_ret (se_fn bodyF_len (sa_cons se_bor (sa_cons (se_lst (sa_cons (se_tup sa_nil) (sa_cons (se_lst sa_nil) (sa_cons (se_tup (sa_cons (se_fn bodyF_len (sa_cons se_bor sa_nil)) sa_nil)) (sa_cons se_dnew sa_nil))))) sa_nil)))) ss_next) (ss_seq (ss_par3X (by decide) (by decide) (by decide) (sa_cons (se_call (sa_cons se_bor sa_nil) rs_listU) (sa_cons (se_fn bodyF_len (sa_cons se_bor (sa_cons se_int sa_nil))) (sa_cons (se_fn bodyF_len (sa_cons se_bor (sa_cons (se_call (sa_cons se_bor sa_nil) rs_lenW) sa_nil))) sa_nil)))) (ss_seq (ss_asg (se_op se_bor se_var r2_ix) (sg_tup (sgs_cons sg_name (sgs_cons sg_name sgs_nil)))) (ss_seq (ss_if (sb_test (se_op se_bor se_int r2_eqX)) (ss_asg (se_fn bodyF_len (sa_cons se_bor sa_nil)) (sg_sub se_var)) (ss_if (sb_test (se_op se_bor se_int r2_eqX)) (ss_asg (se_tup (sa_cons se_var (sa_cons se_int sa_nil))) (sg_sub se_var)) (ss_if (sb_test (se_op se_bor se_int r2_eqX)) (ss_asg (se_tup (sa_cons se_var (sa_cons se_bl sa_nil))) (sg_sub se_var)) (ss_if (sb_test (se_op se_bor se_int r2_eqX)) (ss_asg (se_tup (sa_cons se_var (sa_cons se_var (sa_cons se_int sa_nil)))) (sg_sub se_var)) (ss_if (sb_test (se_op se_bor se_int r2_eqX)) (ss_asg (se_lst (sa_cons se_var (sa_cons se_var sa_nil))) (sg_sub se_var)) (ss_if (sb_test (se_op se_bor se_int r2_eqX)) (ss_set (se_op (se_op (se_sl2 se_bor so_none (so_some se_var)) (se_lst (sa_cons (se_op se_bor se_var r2_ix) sa_nil)) r2_addU) (se_sl2 se_bor (so_some se_var) so_none) r2_addU)) (ss_if (sb_test (se_op se_bor se_int r2_eqX)) (ss_asg (se_tup (sa_cons (se_op (se_op se_bor (se_op se_bor se_int r2_subU) r2_ix) se_int r2_ix) (sa_cons se_var sa_nil))) (sg_sub se_var)) (ss_if (sb_test (se_op se_bor se_int r2_eqX)) (ss_asg (se_tup (sa_cons (se_op (se_op (se_op se_bor (se_op se_bor se_int r2_subU) r2_ix) se_int r2_ix) se_int r2_subU) (sa_cons se_var sa_nil))) (sg_sub se_var)) ss_next)))))))) (ss_ret (se_if (sb_test (se_op se_bor se_int r2_eqX)) se_var (se_call (sa_cons se_bor sa_nil) rs_tupleU)))))))
theorem cal_l_bent (R : Raw K mg) : CalG P w K mg base 4 2 "_law_bent" s_l_bent ["_law_spring_here", "_law_row"] F_l_bent := by
  obtain ⟨a, fd, hF, hg⟩ := R.f_l_bent
  exact ⟨a, fd, hF, hg, fun_G hF sc_l_bent (spF_len rfl) (fun cdv A outer s H E hr hgd => ⟨t_l_bent K, (pss_cons (ps_if (pt_cmpR (op_eqX hr.units) (pe_callB call_lenW (by rfl) R.b_len (by decide +kernel) (pa_cons (pv 1) pa_nil)) pe_int (nomark _)) (pss_one (ps_ret (pe_cal (E := E0) (cal_l_one_of R) hr (by decide) hgd rfl (pa_cons (pv 0) (pa_cons (pe_lst (pa_cons (pe_tup pa_nil) (pa_cons (pe_lst pa_nil) (pa_cons (pe_tup (pa_cons (pe_cal (E := E0) (cal_l_odd R) hr (by decide) hgd rfl (pa_cons (pv 0) pa_nil)) pa_nil)) (pa_cons pe_dnewK pa_nil))))) pa_nil))))) pss_nil) (pss_cons (ps_par3 (i := 2) (j := 3) (l := 4) rfl sc_l_bent.nd rfl rfl rfl (by decide) (by decide) (by decide) rfl rfl rfl (pa_cons (pe_callTy call_listU (by rfl) R.b_list (by decide +kernel) (pa_cons (pv 1) pa_nil)) (pa_cons (pe_cal (E := E0) (cal_l_draw R) hr (by decide) hgd rfl (pa_cons (pv 0) (pa_cons pe_int pa_nil))) (pa_cons (pe_cal (E := E0) (cal_l_draw R) hr (by decide) hgd rfl (pa_cons (pv 0) (pa_cons (pe_callB call_lenW (by rfl) R.b_len (by decide +kernel) (pa_cons (pv 1) pa_nil)) pa_nil))) pa_nil))) (by rfl)) (pss_cons (ps_asg (pe_ix ix_seq (pv 2) (pv 4) (fun _ _ => rfl)) (pg_tup rfl (pgs_cons (pg_name (i := 5) sc_l_bent.nd rfl (.inl rfl)) (pgs_cons (pg_name (i := 6) sc_l_bent.nd rfl (.inl rfl)) pgs_nil)))) (pss_cons (ps_if (pt_cmpR (op_eqX hr.units) (pv 3) pe_int (nomark _)) (pss_one (ps_asg (pe_cal (E := E0) (cal_l_odd R) hr (by decide) hgd rfl (pa_cons (pv 0) pa_nil)) (pg_sub (pv 2) (pv 4) set_list))) (pss_one (ps_if (pt_cmpR (op_eqX hr.units) (pv 3) pe_int (nomark _)) (pss_one (ps_asg (pe_tup (pa_cons (pv 5) (pa_cons pe_int pa_nil))) (pg_sub (pv 2) (pv 4) set_list))) (pss_one (ps_if (pt_cmpR (op_eqX hr.units) (pv 3) pe_int (nomark _)) (pss_one (ps_asg (pe_tup (pa_cons (pv 5) (pa_cons pe_bl pa_nil))) (pg_sub (pv 2) (pv 4) set_list))) (pss_one (ps_if (pt_cmpR (op_eqX hr.units) (pv 3) pe_int (nomark _)) (pss_one (ps_asg (pe_tup (pa_cons (pv 5) (pa_cons (pv 6) (pa_cons pe_int pa_nil)))) (pg_sub (pv 2) (pv 4) set_list))) (pss_one (ps_if (pt_cmpR (op_eqX hr.units) (pv 3) pe_int (nomark _)) (pss_one (ps_asg (pe_lst (pa_cons (pv 5) (pa_cons (pv 6) pa_nil))) (pg_sub (pv 2) (pv 4) set_list))) (pss_one (ps_if (pt_cmpR (op_eqX hr.units) (pv 3) pe_int (nomark _)) (pss_one (ps_set (i := 2) sc_l_bent.nd rfl (.inl rfl) (pe_op op_addU (pe_op op_addU (pe_slice sl_all (pv 2) po_none (po_some (pv 4))) (pe_lst (pa_cons (pe_ix ix_seq (pv 2) (pv 4) (fun _ _ => rfl)) pa_nil))) (pe_slice sl_all (pv 2) (po_some (pv 4)) po_none)))) (pss_one (ps_if (pt_cmpR (op_eqX hr.units) (pv 3) pe_int (nomark _)) (pss_one (ps_asg (pe_tup (pa_cons (pe_ix ix_seq (pe_ix ix_seq (pv 2) (pe_op op_subU (pv 4) pe_int) (fun _ _ => rfl)) pe_int (fun _ _ => rfl)) (pa_cons (pv 6) pa_nil))) (pg_sub (pv 2) (pv 4) set_list))) (pss_one (ps_if (pt_cmpR (op_eqX hr.units) (pv 3) pe_int (nomark _)) (pss_one (ps_asg (pe_tup (pa_cons (pe_op op_subU (pe_ix ix_seq (pe_ix ix_seq (pv 2) (pe_op op_subU (pv 4) pe_int) (fun _ _ => rfl)) pe_int (fun _ _ => rfl)) pe_int) (pa_cons (pv 6) pa_nil))) (pg_sub (pv 2) (pv 4) set_list))) pss_nil))))))))))))))) (pss_one (ps_ret (pe_ifExp (pt_cmpR (op_eqX hr.units) (pv 3) pe_int (nomark _)) (pv 2) (pe_callTy call_tupleU (by rfl) R.b_tuple (by decide +kernel) (pa_cons (pv 2) pa_nil))))))))), fun vs Q h => spF_body ss_l_bent rfl h⟩), hF.binds fun _ _ _ _ _ _ us hl => match us, hl with | [_, _], _ => rfl⟩
theorem sc_is_row : FnScope ["value"] ["value"] (defScope s_is_row) := ⟨rfl, rfl, rfl, by decide +kernel, rfl, by decide +kernel, by decide +kernel⟩
def d_is_row : DS := (dRet (dCallF F_makes_row (dCons (dVar 0) dNil)))
def F_is_row : FD := bodyF 1 0 d_is_row
def t_is_row (K : PySem.W.Frag) : TS := (tRet (tCall (spF K 1 F_makes_row) [] E0 (tCons (tVar 0) tNil)))
theorem ss_is_row : SS K (t_is_row K) d_is_row := (ss_ret (se_fn bodyF_len (sa_cons se_var sa_nil)))
theorem cal_is_row (R : Raw K mg) : CalG P w K mg base 5 1 "is_row" s_is_row ["value"] F_is_row := by
  obtain ⟨a, fd, hF, hg⟩ := R.f_is_row
  exact ⟨a, fd, hF, hg, fun_G hF sc_is_row (spF_len rfl) (fun cdv A outer s H E hr hgd => ⟨t_is_row K, (pss_one (ps_ret (pe_cal (E := E0) (cal_makes_row R) hr (by decide) hgd rfl (pa_cons (pv 0) pa_nil)))), fun vs Q h => spF_body ss_is_row rfl h⟩), hF.binds fun _ _ _ _ _ _ us hl => match us, hl with | [_], _ => rfl⟩
theorem sc_is_heap : FnScope ["value", "_", "weight"] ["value"] (defScope s_is_heap) := ⟨rfl, rfl, rfl, by decide +kernel, rfl, by decide +kernel, by decide +kernel⟩
def d_is_heap : DS := (dRet (dAndV (dCallF F_makes_row (dCons (dVar 0) dNil)) (dCall (f1 gAll) (dCons (dLc (dIter (dVar 0)) [1, 2] (aTup 2 (aCons (aName 1) (aCons (aName 2) aNil))) dYes (dOp (fII gGt) (dBor 2) (dC (.int 0)))) dNil))))
def F_is_heap : FD := bodyF 1 2 d_is_heap
def t_is_heap (K : PySem.W.Frag) : TS := (tRet (tAndV (tCall (spF K 1 F_makes_row) [] E0 (tCons (tVar 0) tNil)) (tCB (rAll K) (tCons (tLc (iAny K (tVar 0)) (gTup K 2 (gCons (gName 1) (gCons (gName 2) gNil))) tYes (tOp (rGtU) (tVar 2) (tC (.int 0))) [1, 2]) tNil))))
theorem ss_is_heap : SS K (t_is_heap K) d_is_heap := (ss_ret (se_andV (se_fn bodyF_len (sa_cons se_var sa_nil)) (se_call (sa_cons (se_lc (si_any se_var) (sg_tup (sgs_cons sg_name (sgs_cons sg_name sgs_nil))) sb_yes (se_op se_bor se_int r2_gtU) (ao_tup (ao_cons ao_name (ao_cons ao_name ao_nil))) (by simp)) sa_nil) rs_all)))
theorem cal_is_heap (R : Raw K mg) : CalG P w K mg base 5 1 "is_heap" s_is_heap ["value"] F_is_heap := by
  obtain ⟨a, fd, hF, hg⟩ := R.f_is_heap
  exact ⟨a, fd, hF, hg, fun_G hF sc_is_heap (spF_len rfl) (fun cdv A outer s H E hr hgd => ⟨t_is_heap K, (pss_one (ps_ret (pe_and (pe_cal (E := E0) (cal_makes_row R) hr (by decide) hgd rfl (pa_cons (pv 0) pa_nil)) (pe_one (pe_callB (cr_all rfl) (by rfl) R.b_all (by decide +kernel) (pa_cons (pe_lc (own := [("_", 1), ("weight", 2)]) (g := (gTup K 2 (gCons (gName 1) (gCons (gName 2) gNil)))) (tt := tYes) (te := (tOp (rGtU) (tVar 2) (tC (.int 0)))) rfl sc_is_heap.nd (pi_any (pv 0)) (blkOk_by (N := ["value", "_", "weight"]) (sc := defScope s_is_heap) (by decide +kernel)) (fun _ _ _ _ _ => (pg_tup rfl (pgs_cons (pg_name (i := 1) sc_is_heap.nd rfl (.inl rfl)) (pgs_cons (pg_name (i := 2) sc_is_heap.nd rfl (.inl rfl)) pgs_nil)))) (fun _ _ _ _ _ => pts_nil) (fun _ _ _ _ _ => (pe_cmpR op_gtU (pv 2) pe_int (nomark _)))) pa_nil)))))), fun vs Q h => spF_body ss_is_heap rfl h⟩), hF.binds fun _ _ _ _ _ _ us hl => match us, hl with | [_], _ => rfl⟩
theorem sc_is_plain : FnScope ["value", "_", "weight"] ["value"] (defScope s_is_plain) := ⟨rfl, rfl, rfl, by decide +kernel, rfl, by decide +kernel, by decide +kernel⟩
def d_is_plain : DS := (dRet (dAndV (dCallF F_makes_row (dCons (dVar 0) dNil)) (dCall (f1 gAll) (dCons (dLc (dIter (dVar 0)) [1, 2] (aTup 2 (aCons (aName 1) (aCons (aName 2) aNil))) dYes (dOp (fEqX false) (dBor 2) (dC (.int 1)))) dNil))))
def F_is_plain : FD := bodyF 1 2 d_is_plain
def t_is_plain (K : PySem.W.Frag) : TS := (tRet (tAndV (tCall (spF K 1 F_makes_row) [] E0 (tCons (tVar 0) tNil)) (tCB (rAll K) (tCons (tLc (iAny K (tVar 0)) (gTup K 2 (gCons (gName 1) (gCons (gName 2) gNil))) tYes (tOp (rEqX K) (tVar 2) (tC (.int 1))) [1, 2]) tNil))))
theorem ss_is_plain : SS K (t_is_plain K) d_is_plain := (ss_ret (se_andV (se_fn bodyF_len (sa_cons se_var sa_nil)) (se_call (sa_cons (se_lc (si_any se_var) (sg_tup (sgs_cons sg_name (sgs_cons sg_name sgs_nil))) sb_yes (se_op se_bor se_int r2_eqX) (ao_tup (ao_cons ao_name (ao_cons ao_name ao_nil))) (by simp)) sa_nil) rs_all)))
theorem cal_is_plain (R : Raw K mg) : CalG P w K mg base 5 1 "is_plain" s_is_plain ["value"] F_is_plain := by
  obtain ⟨a, fd, hF, hg⟩ := R.f_is_plain
  exact ⟨a, fd, hF, hg, fun_G hF sc_is_plain (spF_len rfl) (fun cdv A outer s H E hr hgd => ⟨t_is_plain K, (pss_one (ps_ret (pe_and (pe_cal (E := E0) (cal_makes_row R) hr (by decide) hgd rfl (pa_cons (pv 0) pa_nil)) (pe_one (pe_callB (cr_all rfl) (by rfl) R.b_all (by decide +kernel) (pa_cons (pe_lc (own := [("_", 1), ("weight", 2)]) (g := (gTup K 2 (gCons (gName 1) (gCons (gName 2) gNil)))) (tt := tYes) (te := (tOp (rEqX K) (tVar 2) (tC (.int 1)))) rfl sc_is_plain.nd (pi_any (pv 0)) (blkOk_by (N := ["value", "_", "weight"]) (sc := defScope s_is_plain) (by decide +kernel)) (fun _ _ _ _ _ => (pg_tup rfl (pgs_cons (pg_name (i := 1) sc_is_plain.nd rfl (.inl rfl)) (pgs_cons (pg_name (i := 2) sc_is_plain.nd rfl (.inl rfl)) pgs_nil)))) (fun _ _ _ _ _ => pts_nil) (fun _ _ _ _ _ => (pe_cmpR (op_eqX hr.units) (pv 2) pe_int (nomark _)))) pa_nil)))))), fun vs Q h => spF_body ss_is_plain rfl h⟩), hF.binds fun _ _ _ _ _ _ us hl => match us, hl with | [_], _ => rfl⟩
theorem sc_l_thing : FnScope ["_law_spring_here", "_law_many", "_law_way", "_law_place", "_law_pairs", "_law_turn", "_law_weight_here", "_law_at"] ["_law_spring_here"] (defScope s_l_thing) := ⟨rfl, rfl, rfl, by decide +kernel, rfl, by decide +kernel, by decide +kernel⟩
def d_l_thing : DS := (dSeq (dIfS (dTest (dOp (fEqX false) (dCallF F_l_draw (dCons (dBor 0) (dCons (dC (.int 6)) dNil))) (dC (.int 0)))) (dRet (dCallF F_l_odd (dCons (dBor 0) dNil))) dNext) (dSeq (dSet 1 (dIf (dTest (dOp (fEqX false) (dCallF F_l_draw (dCons (dBor 0) (dCons (dC (.int 12)) dNil))) (dC (.int 0)))) (dOp fAddU (dC (.int 398)) (dCallF F_l_draw (dCons (dBor 0) (dCons (dC (.int 5)) dNil)))) (dCallF F_l_draw (dCons (dBor 0) (dCons (dC (.int 8)) dNil))))) (dSeq (dPar3X 2 3 4 (dCons (dCallF F_l_draw (dCons (dBor 0) (dCons (dC (.int 3)) dNil))) (dCons (dCallF F_l_number (dCons (dBor 0) (dCons (dC (.int 6)) dNil))) (dCons (dLst dNil) dNil)))) (dSeq (dFor (dRng1 (dCons (dVar 1) dNil)) (aName 5) (dSeq (dSet 6 (dIf (dTest (dOp (fII gLt) (dBor 2) (dC (.int 2)))) (dCallF F_l_weight (dCons (dBor 0) (dCons (dC (.int 5)) dNil))) (dC (.int 1)))) (dSeq (dApp 4 (dTup (dCons (dVar 3) (dCons (dIf (dTest (dOp (fEqX false) (dBor 2) (dC (.int 0)))) (dVar 6) (dCall (f1 gAbs) (dCons (dVar 6) dNil))) dNil)))) (dSet 3 (dOp fAddU (dOp fAddU (dBor 3) (dC (.int 1))) (dCallF F_l_draw (dCons (dBor 0) (dCons (dC (.int 4)) dNil)))))))) (dSeq (dIfS (dAndB (dTest (dOp (fII gGt) (dBor 1) (dC (.int 0)))) (dTest (dOp (fEqX false) (dCallF F_l_draw (dCons (dBor 0) (dCons (dC (.int 3)) dNil))) (dC (.int 0))))) (dSeq (dSet 7 (dCallF F_l_draw (dCons (dBor 0) (dCons (dVar 1) dNil)))) (dAsg (aSub 4 (dVar 7)) (dTup (dCons (dOp fIx (dOp fIx (dBor 4) (dVar 7)) (dC (.int 0))) (dCons (dCallF F_l_one_of (dCons (dBor 0) (dCons (dLst (dCons (dUn fNeg (dC (.int 1))) (dCons (dC (.int 2)) (dCons (dC (.int 1)) dNil)))) dNil))) dNil))))) dNext) (dRet (dIf (dTest (dOp (fEqX false) (dCallF F_l_draw (dCons (dBor 0) (dCons (dC (.int 2)) dNil))) (dC (.int 0)))) (dCallF F_l_bent (dCons (dBor 0) (dCons (dCall (fTuple) (dCons (dBor 4) dNil)) dNil))) (dCall (fTuple) (dCons (dBor 4) dNil)))))))))
def F_l_thing : FD := bodyF 1 7 d_l_thing
def t_l_thing (K : PySem.W.Frag) : TS := (tSeq (tIfS (tTest (tOp (rEqX K) (tCall (spF K 2 F_l_draw) [] E0 (tCons (tVar 0) (tCons (tC (.int 6)) tNil))) (tC (.int 0)))) (tRet (tCall (spF K 1 F_l_odd) [] E0 (tCons (tVar 0) tNil))) tNext) (tSeq (tAsg (tIf (tTest (tOp (rEqX K) (tCall (spF K 2 F_l_draw) [] E0 (tCons (tVar 0) (tCons (tC (.int 12)) tNil))) (tC (.int 0)))) (tOp (rAddU K) (tC (.int 398)) (tCall (spF K 2 F_l_draw) [] E0 (tCons (tVar 0) (tCons (tC (.int 5)) tNil)))) (tCall (spF K 2 F_l_draw) [] E0 (tCons (tVar 0) (tCons (tC (.int 8)) tNil)))) (gName 1)) (tSeq (tPar3 2 3 4 (tCons (tCall (spF K 2 F_l_draw) [] E0 (tCons (tVar 0) (tCons (tC (.int 3)) tNil))) (tCons (tCall (spF K 2 F_l_number) [] E0 (tCons (tVar 0) (tCons (tC (.int 6)) tNil))) (tCons (tLst tNil) tNil)))) (tSeq (tFor (iRng1 (tCons (tVar 1) tNil)) (gName 5) (tSeq (tAsg (tIf (tTest (tOp (rLtU) (tVar 2) (tC (.int 2)))) (tCall (spF K 2 F_l_weight) [] E0 (tCons (tVar 0) (tCons (tC (.int 5)) tNil))) (tC (.int 1))) (gName 6)) (tSeq (tDrop (tBM K "list" rAppend (tVar 4) (tCons (tTup (tCons (tVar 3) (tCons (tIf (tTest (tOp (rEqX K) (tVar 2) (tC (.int 0)))) (tVar 6) (tCB (rAbsU) (tCons (tVar 6) tNil))) tNil))) tNil))) (tAsg (tOp (rAddU K) (tOp (rAddU K) (tVar 3) (tC (.int 1))) (tCall (spF K 2 F_l_draw) [] E0 (tCons (tVar 0) (tCons (tC (.int 4)) tNil)))) (gName 3))))) (tSeq (tIfS (tAnd (tTest (tOp (rGtU) (tVar 1) (tC (.int 0)))) (tTest (tOp (rEqX K) (tCall (spF K 2 F_l_draw) [] E0 (tCons (tVar 0) (tCons (tC (.int 3)) tNil))) (tC (.int 0))))) (tSeq (tAsg (tCall (spF K 2 F_l_draw) [] E0 (tCons (tVar 0) (tCons (tVar 1) tNil))) (gName 7)) (tAsg (tTup (tCons (tOp (rIx K) (tOp (rIx K) (tVar 4) (tVar 7)) (tC (.int 0))) (tCons (tCall (spF K 2 F_l_one_of) [] E0 (tCons (tVar 0) (tCons (tLst (tCons (tUn (rU fun i => .int (-i)) (tC (.int 1))) (tCons (tC (.int 2)) (tCons (tC (.int 1)) tNil)))) tNil))) tNil))) (L2.gSub (tVar 4) (tVar 7) rSetL))) tNext) (tRet (tIf (tTest (tOp (rEqX K) (tCall (spF K 2 F_l_draw) [] E0 (tCons (tVar 0) (tCons (tC (.int 2)) tNil))) (tC (.int 0)))) (tCall (spF K 2 F_l_bent) [] E0 (tCons (tVar 0) (tCons (tCB (rTupleU K) (tCons (tVar 4) tNil)) tNil))) (tCB (rTupleU K) (tCons (tVar 4) tNil)))))))))
theorem ss_l_thing : SS K (t_l_thing K) d_l_thing := (ss_seq (ss_if (sb_test (se_op (se_fn bodyF_len (sa_cons se_bor (sa_cons se_int sa_nil))) se_int r2_eqX)) (ss_ret (se_fn bodyF_len (sa_cons se_bor sa_nil))) ss_next) (ss_seq (ss_set (se_if (sb_test (se_op (se_fn bodyF_len (sa_cons se_bor (sa_cons se_int sa_nil))) se_int r2_eqX)) (se_op se_int (se_fn bodyF_len (sa_cons se_bor (sa_cons se_int sa_nil))) r2_addU) (se_fn bodyF_len (sa_cons se_bor (sa_cons se_int sa_nil))))) (ss_seq (ss_par3X (by decide) (by decide) (by decide) (sa_cons (se_fn bodyF_len (sa_cons se_bor (sa_cons se_int sa_nil))) (sa_cons (se_fn bodyF_len (sa_cons se_bor (sa_cons se_int sa_nil))) (sa_cons (se_lst sa_nil) sa_nil)))) (ss_seq (ss_for (si_rng1 (sa_cons se_var sa_nil)) sg_name (ss_seq (ss_set (se_if (sb_test (se_op se_bor se_int r2_ltU)) (se_fn bodyF_len (sa_cons se_bor (sa_cons se_int sa_nil))) se_int)) (ss_seq (ss_app (se_tup (sa_cons se_var (sa_cons (se_if (sb_test (se_op se_bor se_int r2_eqX)) se_var (se_call (sa_cons se_var sa_nil) rs_absU)) sa_nil)))) (ss_set (se_op (se_op se_bor se_int r2_addU) (se_fn bodyF_len (sa_cons se_bor (sa_cons se_int sa_nil))) r2_addU))))) (ss_seq (ss_if (sb_and (sb_test (se_op se_bor se_int r2_gtU)) (sb_test (se_op (se_fn bodyF_len (sa_cons se_bor (sa_cons se_int sa_nil))) se_int r2_eqX))) (ss_seq (ss_set (se_fn bodyF_len (sa_cons se_bor (sa_cons se_var sa_nil)))) (ss_asg (se_tup (sa_cons (se_op (se_op se_bor se_var r2_ix) se_int r2_ix) (sa_cons (se_fn bodyF_len (sa_cons se_bor (sa_cons (se_lst (sa_cons (se_un se_int ru_neg) (sa_cons se_int (sa_cons se_int sa_nil)))) sa_nil))) sa_nil))) (sg_sub se_var))) ss_next) (ss_ret (se_if (sb_test (se_op (se_fn bodyF_len (sa_cons se_bor (sa_cons se_int sa_nil))) se_int r2_eqX)) (se_fn bodyF_len (sa_cons se_bor (sa_cons (se_call (sa_cons se_bor sa_nil) rs_tupleU) sa_nil))) (se_call (sa_cons se_bor sa_nil) rs_tupleU))))))))
theorem cal_l_thing (R : Raw K mg) : CalG P w K mg base 5 1 "_law_thing" s_l_thing ["_law_spring_here"] F_l_thing := by
  obtain ⟨a, fd, hF, hg⟩ := R.f_l_thing
  exact ⟨a, fd, hF, hg, fun_G hF sc_l_thing (spF_len rfl) (fun cdv A outer s H E hr hgd => ⟨t_l_thing K, (pss_cons (ps_if (pt_cmpR (op_eqX hr.units) (pe_cal (E := E0) (cal_l_draw R) hr (by decide) hgd rfl (pa_cons (pv 0) (pa_cons pe_int pa_nil))) pe_int (nomark _)) (pss_one (ps_ret (pe_cal (E := E0) (cal_l_odd R) hr (by decide) hgd rfl (pa_cons (pv 0) pa_nil)))) pss_nil) (pss_cons (ps_set (i := 1) sc_l_thing.nd rfl (.inl rfl) (pe_ifExp (pt_cmpR (op_eqX hr.units) (pe_cal (E := E0) (cal_l_draw R) hr (by decide) hgd rfl (pa_cons (pv 0) (pa_cons pe_int pa_nil))) pe_int (nomark _)) (pe_op op_addU pe_int (pe_cal (E := E0) (cal_l_draw R) hr (by decide) hgd rfl (pa_cons (pv 0) (pa_cons pe_int pa_nil)))) (pe_cal (E := E0) (cal_l_draw R) hr (by decide) hgd rfl (pa_cons (pv 0) (pa_cons pe_int pa_nil))))) (pss_cons (ps_par3 (i := 2) (j := 3) (l := 4) rfl sc_l_thing.nd rfl rfl rfl (by decide) (by decide) (by decide) rfl rfl rfl (pa_cons (pe_cal (E := E0) (cal_l_draw R) hr (by decide) hgd rfl (pa_cons (pv 0) (pa_cons pe_int pa_nil))) (pa_cons (pe_cal (E := E0) (cal_l_number R) hr (by decide) hgd rfl (pa_cons (pv 0) (pa_cons pe_int pa_nil))) (pa_cons (pe_lst pa_nil) pa_nil))) (by rfl)) (pss_cons (ps_for PassesOwn.never rfl (pi_range1 rfl R.b_range (pa_cons (pv 1) pa_nil)) (pg_name (i := 5) sc_l_thing.nd rfl (.inl rfl)) (pss_cons (ps_set (i := 6) sc_l_thing.nd rfl (.inl rfl) (pe_ifExp (pt_cmpR op_ltU (pv 2) pe_int (nomark _)) (pe_cal (E := E0) (cal_l_weight R) hr (by decide) hgd rfl (pa_cons (pv 0) (pa_cons pe_int pa_nil))) pe_int)) (pss_cons (ps_expr (pe_bm PySem.F.plainAttrs_list PySem.F.slot_list_append PySem.F.type_list_append mt_append (pv 4) (pa_cons (pe_tup (pa_cons (pv 3) (pa_cons (pe_ifExp (pt_cmpR (op_eqX hr.units) (pv 2) pe_int (nomark _)) (pv 6) (pe_callB call_absU (by rfl) R.b_abs (by decide +kernel) (pa_cons (pv 6) pa_nil))) pa_nil))) pa_nil))) (pss_one (ps_set (i := 3) sc_l_thing.nd rfl (.inl rfl) (pe_op op_addU (pe_op op_addU (pv 3) pe_int) (pe_cal (E := E0) (cal_l_draw R) hr (by decide) hgd rfl (pa_cons (pv 0) (pa_cons pe_int pa_nil))))))))) (pss_cons (ps_if (PW.pt (pw_and (pt_cmpR op_gtU (pv 1) pe_int (nomark _)) (pw_and1 (pt_cmpR (op_eqX hr.units) (pe_cal (E := E0) (cal_l_draw R) hr (by decide) hgd rfl (pa_cons (pv 0) (pa_cons pe_int pa_nil))) pe_int (nomark _))))) (pss_cons (ps_set (i := 7) sc_l_thing.nd rfl (.inl rfl) (pe_cal (E := E0) (cal_l_draw R) hr (by decide) hgd rfl (pa_cons (pv 0) (pa_cons (pv 1) pa_nil)))) (pss_one (ps_asg (pe_tup (pa_cons (pe_ix ix_seq (pe_ix ix_seq (pv 4) (pv 7) (fun _ _ => rfl)) pe_int (fun _ _ => rfl)) (pa_cons (pe_cal (E := E0) (cal_l_one_of R) hr (by decide) hgd rfl (pa_cons (pv 0) (pa_cons (pe_lst (pa_cons (pe_un un_neg pe_int) (pa_cons pe_int (pa_cons pe_int pa_nil)))) pa_nil))) pa_nil))) (pg_sub (pv 4) (pv 7) set_list)))) pss_nil) (pss_one (ps_ret (pe_ifExp (pt_cmpR (op_eqX hr.units) (pe_cal (E := E0) (cal_l_draw R) hr (by decide) hgd rfl (pa_cons (pv 0) (pa_cons pe_int pa_nil))) pe_int (nomark _)) (pe_cal (E := E0) (cal_l_bent R) hr (by decide) hgd rfl (pa_cons (pv 0) (pa_cons (pe_callTy call_tupleU (by rfl) R.b_tuple (by decide +kernel) (pa_cons (pv 4) pa_nil)) pa_nil))) (pe_callTy call_tupleU (by rfl) R.b_tuple (by decide +kernel) (pa_cons (pv 4) pa_nil)))))))))), fun vs Q h => spF_body ss_l_thing rfl h⟩), hF.binds fun _ _ _ _ _ _ us hl => match us, hl with | [_], _ => rfl⟩
theorem sc_l_right : FnScope ["_law_spring_here", "_law_thing_here", "_law_is_one", "_law_weights", "_law_due", "_law_place", "_law_weight_here"] ["_law_spring_here"] (defScope s_l_right) := ⟨rfl, rfl, rfl, by decide +kernel, rfl, by decide +kernel, by decide +kernel⟩
def d_l_right : DS := (dSeq (dSet 1 (dCallF F_l_thing (dCons (dBor 0) dNil))) (dSeq (dSet 2 (dOp (fEqX false) (dCallF F_l_fault (dCons (dVar 1) dNil)) (dLst dNil))) (dSeq (dSet 3 (dIf (dTruth (dVar 2)) (dLc (dIter (dVar 1)) [5, 6] (aTup 2 (aCons (aName 5) (aCons (aName 6) aNil))) dYes (dVar 6)) (dLst dNil))) (dSeq (dSet 4 (dLst (dCons (dVar 2) (dCons (dAndV (dVar 2) (dOp (fII gGt) (dCall (f1 gMinL) (dCons (dOp fAddU (dBor 3) (dLst (dCons (dC (.int 1)) dNil))) dNil)) (dC (.int 0)))) (dCons (dAndV (dVar 2) (dChain (fEqX false) (fEqX false) (dCall (f1 gMinL) (dCons (dOp fAddU (dBor 3) (dLst (dCons (dC (.int 1)) dNil))) dNil)) (dCall (f1 gMaxL) (dCons (dOp fAddU (dBor 3) (dLst (dCons (dC (.int 1)) dNil))) dNil)) (dC (.int 1)))) dNil))))) (dSeq (dIfS (dTest (dOp (fEqX true) (dCall (f1 gReprW) (dCons (dLst (dCons (dCallF F_is_row (dCons (dVar 1) dNil)) (dCons (dCallF F_is_heap (dCons (dVar 1) dNil)) (dCons (dCallF F_is_plain (dCons (dVar 1) dNil)) dNil)))) dNil)) (dCall (f1 gReprW) (dCons (dVar 4) dNil)))) (dRet (dC (.bool false))) dNext) (dRet (dOp (fEqX false) (dCall (f1 gReprW) (dCons (dLst (dCons (dCallK F_is_row 0 1 [0] dNil (dCons (dVar 1) dNil)) (dCons (dCallK F_is_heap 0 1 [0] dNil (dCons (dVar 1) dNil)) (dCons (dCallK F_is_plain 0 1 [0] dNil (dCons (dVar 1) dNil)) dNil)))) dNil)) (dCall (f1 gReprW) (dCons (dVar 4) dNil)))))))))
def F_l_right : FD := bodyF 1 6 d_l_right
def t_l_right (K : PySem.W.Frag) : TS := (tSeq (tAsg (tCall (spF K 1 F_l_thing) [] E0 (tCons (tVar 0) tNil)) (gName 1)) (tSeq (tAsg (tOp (rEqX K) (tCall (spF K 1 F_l_fault) [] E0 (tCons (tVar 1) tNil)) (tLst tNil)) (gName 2)) (tSeq (tAsg (tIf (tTruth K (tVar 2)) (tLc (iAny K (tVar 1)) (gTup K 2 (gCons (gName 5) (gCons (gName 6) gNil))) tYes (tVar 6) [5, 6]) (tLst tNil)) (gName 3)) (tSeq (tAsg (tLst (tCons (tVar 2) (tCons (tAndV (tVar 2) (tOp (rGtU) (tCB (rMin K) (tCons (tOp (rAddU K) (tVar 3) (tLst (tCons (tC (.int 1)) tNil))) tNil)) (tC (.int 0)))) (tCons (tAndV (tVar 2) (tChain (rEqX K) (rEqX K) (tCB (rMin K) (tCons (tOp (rAddU K) (tVar 3) (tLst (tCons (tC (.int 1)) tNil))) tNil)) (tCB (rMax K) (tCons (tOp (rAddU K) (tVar 3) (tLst (tCons (tC (.int 1)) tNil))) tNil)) (tC (.int 1)))) tNil)))) (gName 4)) (tSeq (tIfS (tTest (tOp (rNeX K) (tCB (rReprW K) (tCons (tLst (tCons (tCall (spF K 1 F_is_row) [] E0 (tCons (tVar 1) tNil)) (tCons (tCall (spF K 1 F_is_heap) [] E0 (tCons (tVar 1) tNil)) (tCons (tCall (spF K 1 F_is_plain) [] E0 (tCons (tVar 1) tNil)) tNil)))) tNil)) (tCB (rReprW K) (tCons (tVar 4) tNil)))) (tRet (tC (.bl false))) tNext) (tRet (tOp (rEqX K) (tCB (rReprW K) (tCons (tLst (tCons (tCallN 0 1 (spF K 1 F_is_row) (fun vs zs => permL [0] (vs ++ zs)) E0 tNil (tCons (tVar 1) tNil)) (tCons (tCallN 0 1 (spF K 1 F_is_heap) (fun vs zs => permL [0] (vs ++ zs)) E0 tNil (tCons (tVar 1) tNil)) (tCons (tCallN 0 1 (spF K 1 F_is_plain) (fun vs zs => permL [0] (vs ++ zs)) E0 tNil (tCons (tVar 1) tNil)) tNil)))) tNil)) (tCB (rReprW K) (tCons (tVar 4) tNil)))))))))
theorem ss_l_right : SS K (t_l_right K) d_l_right := (ss_seq (ss_set (se_fn bodyF_len (sa_cons se_bor sa_nil))) (ss_seq (ss_set (se_op (se_fn bodyF_len (sa_cons se_var sa_nil)) (se_lst sa_nil) r2_eqX)) (ss_seq (ss_set (se_if (sb_truth se_var) (se_lc (si_any se_var) (sg_tup (sgs_cons sg_name (sgs_cons sg_name sgs_nil))) sb_yes se_var (ao_tup (ao_cons ao_name (ao_cons ao_name ao_nil))) (by simp)) (se_lst sa_nil))) (ss_seq (ss_set (se_lst (sa_cons se_var (sa_cons (se_andV se_var (se_op (se_call (sa_cons (se_op se_bor (se_lst (sa_cons se_int sa_nil)) r2_addU) sa_nil) rs_minL) se_int r2_gtU)) (sa_cons (se_andV se_var (se_chain (se_call (sa_cons (se_op se_bor (se_lst (sa_cons se_int sa_nil)) r2_addU) sa_nil) rs_minL) (se_call (sa_cons (se_op se_bor (se_lst (sa_cons se_int sa_nil)) r2_addU) sa_nil) rs_maxL) se_int r2_eqX r2_eqX)) sa_nil))))) (ss_seq (ss_if (sb_test (se_op (se_call (sa_cons (se_lst (sa_cons (se_fn bodyF_len (sa_cons se_var sa_nil)) (sa_cons (se_fn bodyF_len (sa_cons se_var sa_nil)) (sa_cons (se_fn bodyF_len (sa_cons se_var sa_nil)) sa_nil)))) sa_nil) rs_reprW) (se_call (sa_cons se_var sa_nil) rs_reprW) r2_neX)) (ss_ret se_bl) ss_next) (ss_ret (se_op (se_call (sa_cons (se_lst (sa_cons (se_fnK bodyF_len sa_nil (sa_cons se_var sa_nil)) (sa_cons (se_fnK bodyF_len sa_nil (sa_cons se_var sa_nil)) (sa_cons (se_fnK bodyF_len sa_nil (sa_cons se_var sa_nil)) sa_nil)))) sa_nil) rs_reprW) (se_call (sa_cons se_var sa_nil) rs_reprW) r2_eqX)))))))
theorem cal_l_right (R : Raw K mg) : CalG P w K mg base 6 1 "_law_right" s_l_right ["_law_spring_here"] F_l_right := by
  obtain ⟨a, fd, hF, hg⟩ := R.f_l_right
  exact ⟨a, fd, hF, hg, fun_G hF sc_l_right (spF_len rfl) (fun cdv A outer s H E hr hgd => ⟨t_l_right K, (pss_cons (ps_set (i := 1) sc_l_right.nd rfl (.inl rfl) (pe_cal (E := E0) (cal_l_thing R) hr (by decide) hgd rfl (pa_cons (pv 0) pa_nil))) (pss_cons (ps_set (i := 2) sc_l_right.nd rfl (.inl rfl) (pe_cmpR (op_eqX hr.units) (pe_cal (E := E0) (cal_l_fault R) hr (by decide) hgd rfl (pa_cons (pv 1) pa_nil)) (pe_lst pa_nil) (nomark _))) (pss_cons (ps_set (i := 3) sc_l_right.nd rfl (.inl rfl) (pe_ifExp (pt_truth (pv 2) (fun _ => rfl)) (pe_lc (own := [("_law_place", 5), ("_law_weight_here", 6)]) (g := (gTup K 2 (gCons (gName 5) (gCons (gName 6) gNil)))) (tt := tYes) (te := (tVar 6)) rfl sc_l_right.nd (pi_any (pv 1)) (blkOk_by (N := ["_law_spring_here", "_law_thing_here", "_law_is_one", "_law_weights", "_law_due", "_law_place", "_law_weight_here"]) (sc := defScope s_l_right) (by decide +kernel)) (fun _ _ _ _ _ => (pg_tup rfl (pgs_cons (pg_name (i := 5) sc_l_right.nd rfl (.inl rfl)) (pgs_cons (pg_name (i := 6) sc_l_right.nd rfl (.inl rfl)) pgs_nil)))) (fun _ _ _ _ _ => pts_nil) (fun _ _ _ _ _ => (pv 6))) (pe_lst pa_nil))) (pss_cons (ps_set (i := 4) sc_l_right.nd rfl (.inl rfl) (pe_lst (pa_cons (pv 2) (pa_cons (pe_and (pv 2) (pe_one (pe_cmpR op_gtU (pe_callB (cr_min rfl) (by rfl) R.b_min (by decide +kernel) (pa_cons (pe_op op_addU (pv 3) (pe_lst (pa_cons pe_int pa_nil))) pa_nil)) pe_int (nomark _)))) (pa_cons (pe_and (pv 2) (pe_one (pe_chain (op_eqX hr.units) (op_eqX hr.units) (pe_callB (cr_min rfl) (by rfl) R.b_min (by decide +kernel) (pa_cons (pe_op op_addU (pv 3) (pe_lst (pa_cons pe_int pa_nil))) pa_nil)) (pe_callB (cr_max rfl) (by rfl) R.b_max (by decide +kernel) (pa_cons (pe_op op_addU (pv 3) (pe_lst (pa_cons pe_int pa_nil))) pa_nil)) pe_int))) pa_nil))))) (pss_cons (ps_if (pt_cmpR (op_neX hr.units) (pe_callB (call_reprW hgd (hr.units)) (by rfl) R.b_repr (by decide +kernel) (pa_cons (pe_lst (pa_cons (pe_cal (E := E0) (cal_is_row R) hr (by decide) hgd rfl (pa_cons (pv 1) pa_nil)) (pa_cons (pe_cal (E := E0) (cal_is_heap R) hr (by decide) hgd rfl (pa_cons (pv 1) pa_nil)) (pa_cons (pe_cal (E := E0) (cal_is_plain R) hr (by decide) hgd rfl (pa_cons (pv 1) pa_nil)) pa_nil)))) pa_nil)) (pe_callB (call_reprW hgd (hr.units)) (by rfl) R.b_repr (by decide +kernel) (pa_cons (pv 4) pa_nil)) (nomark _)) (pss_one (ps_ret pe_bl)) pss_nil) (pss_one (ps_ret (pe_cmpR (op_eqX hr.units) (pe_callB (call_reprW hgd (hr.units)) (by rfl) R.b_repr (by decide +kernel) (pa_cons (pe_lst (pa_cons (pe_cal0K (π := [0]) (ks := ["value"]) (E := E0) (cal_is_row R) hr (by decide) hgd rfl (fun _ _ _ _ _ _ us ws h1 h2 => match us, ws, h1, h2 with | [], [_], _, _ => rfl) (pk_cons (pv 1) pk_nil)) (pa_cons (pe_cal0K (π := [0]) (ks := ["value"]) (E := E0) (cal_is_heap R) hr (by decide) hgd rfl (fun _ _ _ _ _ _ us ws h1 h2 => match us, ws, h1, h2 with | [], [_], _, _ => rfl) (pk_cons (pv 1) pk_nil)) (pa_cons (pe_cal0K (π := [0]) (ks := ["value"]) (E := E0) (cal_is_plain R) hr (by decide) hgd rfl (fun _ _ _ _ _ _ us ws h1 h2 => match us, ws, h1, h2 with | [], [_], _, _ => rfl) (pk_cons (pv 1) pk_nil)) pa_nil)))) pa_nil)) (pe_callB (call_reprW hgd (hr.units)) (by rfl) R.b_repr (by decide +kernel) (pa_cons (pv 4) pa_nil)) (nomark _))))))))), fun vs Q h => spF_body ss_l_right rfl h⟩), hF.binds fun _ _ _ _ _ _ us hl => match us, hl with | [_], _ => rfl⟩
theorem sc_law : FnScope ["_law_script", "_law_turn"] ["_law_script"] (defScope s_law) := ⟨rfl, rfl, rfl, by decide +kernel, rfl, by decide +kernel, by decide +kernel⟩
def d_law : DS := (dRet (dCall (f1 gAll) (dCons (dLc (dRng1 (dCons (dCall (fMaxU) (dCons (dC (.int 2)) (dCons (dCall (fMinU) (dCons (dCall (f1 gLenW) (dCons (dBor 0) dNil)) (dCons (dC (.int 8)) dNil))) dNil))) dNil)) [1] (aName 1) dYes (dCallO F_l_right (dCons (dCallF F_l_spring (dCons (dVar 0) (dCons (dVar 1) dNil))) dNil))) dNil)))
def F_law : FD := bodyF 1 1 d_law
def t_law (K : PySem.W.Frag) : TS := (tRet (tCB (rAll K) (tCons (tLc (iRng1 (tCons (tCB (rMaxU) (tCons (tC (.int 2)) (tCons (tCB (rMinU) (tCons (tCB (rLenW K) (tCons (tVar 0) tNil)) (tCons (tC (.int 8)) tNil))) tNil))) tNil)) (gName 1) tYes (tCall (spF K 1 F_l_right) [] E0 (tCons (tCall (spF K 2 F_l_spring) [] E0 (tCons (tVar 0) (tCons (tVar 1) tNil))) tNil)) [1]) tNil)))
theorem ss_law : SS K (t_law K) d_law := (ss_ret (se_call (sa_cons (se_lc (si_rng1 (sa_cons (se_call (sa_cons se_int (sa_cons (se_call (sa_cons (se_call (sa_cons se_bor sa_nil) rs_lenW) (sa_cons se_int sa_nil)) rs_minU) sa_nil)) rs_maxU) sa_nil)) sg_name sb_yes (se_fnO bodyF_len (sa_cons (se_fn bodyF_len (sa_cons se_var (sa_cons se_var sa_nil))) sa_nil)) ao_name (by simp)) sa_nil) rs_all))
theorem cal_law (R : Raw K mg) : CalG P w K mg base 7 1 "law" s_law ["_law_script"] F_law := by
  obtain ⟨a, fd, hF, hg⟩ := R.f_law
  exact ⟨a, fd, hF, hg, fun_G hF sc_law (spF_len rfl) (fun cdv A outer s H E hr hgd => ⟨t_law K, (pss_one (ps_ret (pe_callB (cr_all rfl) (by rfl) R.b_all (by decide +kernel) (pa_cons (pe_lc (own := [("_law_turn", 1)]) (g := (gName 1)) (tt := tYes) (te := (tCall (spF K 1 F_l_right) [] E0 (tCons (tCall (spF K 2 F_l_spring) [] E0 (tCons (tVar 0) (tCons (tVar 1) tNil))) tNil))) rfl sc_law.nd (pi_range1 rfl R.b_range (pa_cons (pe_callB (call_maxU rfl) (by rfl) R.b_max (by decide +kernel) (pa_cons pe_int (pa_cons (pe_callB (call_minU rfl) (by rfl) R.b_min (by decide +kernel) (pa_cons (pe_callB call_lenW (by rfl) R.b_len (by decide +kernel) (pa_cons (pv 0) pa_nil)) (pa_cons pe_int pa_nil))) pa_nil))) pa_nil)) (blkOk_by (N := ["_law_script", "_law_turn"]) (sc := defScope s_law) (by decide +kernel)) (fun _ _ _ _ _ => (pg_name (i := 1) sc_law.nd rfl (.inl rfl))) (fun _ _ _ _ _ => pts_nil) (fun _ _ _ _ _ => (pe_cal (E := E0) (cal_l_right R) hr (by decide) hgd rfl (pa_cons (pe_cal (E := E0) (cal_l_spring R) hr (by decide) hgd rfl (pa_cons (pv 0) (pa_cons (pv 1) pa_nil))) pa_nil)))) pa_nil)))), fun vs Q h => spF_body ss_law rfl h⟩), hF.binds fun _ _ _ _ _ _ us hl => match us, hl with | [_], _ => rfl⟩
end
end K02
end
section
set_option Elab.async false
set_option linter.all false
set_option maxRecDepth 100000
namespace K02
open PySem (PyData)
open DL
local macro_rules | `(tactic| walk_at "bd") => `(tactic| simp only [bodyF, List.length_cons, List.length_nil, if_true, List.replicate, List.cons_append, List.nil_append])
local macro_rules | `(tactic| walk_at "end") => `(tactic| simp [retOf_d, retOf_f, retOf_nx, outsOf, outAt, List.range, List.range.loop])
local macro_rules | `(tactic| walk_at "dl") => `(tactic| simp [bodyF, retOf_d, retOf_f, retOf_nx, outsOf, outAt, List.range, List.range.loop, dSeq, dSet, dVar, dBor, dC, dRet, dIfS, dNext, dTest, dOp, dUn, dCall, dCons, dNil, dCallF, callF, callD, callB, asDs, asD, retV, DL.cellOf, f1, gInt, gAbs, fII, gAdd, DL.gSub, gMul, gDiv, gMod, gPow, gLt, gLe, gGt, gGe, fNeg, fAddU, fMulU, isIntV, dIf, dAndV, dOrV, dNotV, dAndB, dOrB, dNotB, dIsi, isiB, dDrop, fIs, isNone, dLst, dTup, dNever, dAsg, aName, aTup, aCons, aNil, dTruth, fGcd, f2I, eqx_int, eqx_str, eqx_row, eqx_row0, szOk, dPar2X, dPar3X, ix_row, ix_pr0, ix_pr1, lenW_d, len_row, len_pr, truth_row, isTup_row, isTup_pr, at_zero, at_last])
local macro_rules | `(tactic| walk_at "dls") => `(tactic| simp [*, bodyF, retOf_d, retOf_f, retOf_nx, outsOf, outAt, List.range, List.range.loop, dSeq, dSet, dVar, dBor, dC, dRet, dIfS, dNext, dTest, dOp, dUn, dCall, dCons, dNil, dCallF, callF, callD, callB, asDs, asD, retV, DL.cellOf, f1, gInt, gAbs, fII, gAdd, DL.gSub, gMul, gDiv, gMod, gPow, gLt, gLe, gGt, gGe, fNeg, fAddU, fMulU, isIntV, dIf, dAndV, dOrV, dNotV, dAndB, dOrB, dNotB, dIsi, isiB, dDrop, fIs, isNone, dLst, dTup, dNever, dAsg, aName, aTup, aCons, aNil, dTruth, fGcd, f2I, eqx_int, eqx_str, eqx_row, eqx_row0, szOk, dPar2X, dPar3X, ix_row, ix_pr0, ix_pr1, lenW_d, len_row, len_pr, truth_row, isTup_row, isTup_pr, at_zero, at_last])
local macro_rules | `(tactic| walk_at "dr") => `(tactic| simp [bodyF, retOf_d, retOf_f, retOf_nx, outsOf, outAt, List.range, List.range.loop, dSeq, dSet, dVar, dBor, dC, dRet, dIfS, dNext, dTest, dOp, dUn, dCall, dCons, dNil, dCallF, callF, callD, callB, asDs, asD, retV, DL.cellOf, f1, lenW_d, gLen, gInt, gAbs, tupOf, DL.listOf, fII, gAdd, DL.gSub, gMul, gMod, gDiv, gLt, gLe, gGt, gGe, gPow, dAndV, dOrV, dNotV, dIsi, tyOf, isiB, dChain, dNotB, dAndB, dOrB, dIf, fAddU, fMulU, isIntV, isTupV, dDrop, dNever, dTup, dLst, dFor, dIter, dEnum, walkD, fIs, isNone, fIx, fEqU, datOf, eqD, dAsg, aTup, aCons, aNil, aName, aSub, ownL, dSl2, fSl2, dNoPart, dPart])
local macro_rules | `(tactic| walk_at "drs") => `(tactic| simp [*, bodyF, retOf_d, retOf_f, retOf_nx, outsOf, outAt, List.range, List.range.loop, dSeq, dSet, dVar, dBor, dC, dRet, dIfS, dNext, dTest, dOp, dUn, dCall, dCons, dNil, dCallF, callF, callD, callB, asDs, asD, retV, DL.cellOf, f1, lenW_d, gLen, gInt, gAbs, tupOf, DL.listOf, fII, gAdd, DL.gSub, gMul, gMod, gDiv, gLt, gLe, gGt, gGe, gPow, dAndV, dOrV, dNotV, dIsi, tyOf, isiB, dChain, dNotB, dAndB, dOrB, dIf, fAddU, fMulU, isIntV, isTupV, dDrop, dNever, dTup, dLst, dFor, dIter, dEnum, walkD, fIs, isNone, fIx, fEqU, datOf, eqD, dAsg, aTup, aCons, aNil, aName, aSub, ownL, dSl2, fSl2, dNoPart, dPart])

/-! ### draws -/
abbrev spr (a b c : Int) : Cl := .o (some 0) (.l [.int a, .int b, .int c])
def SP (a b : Int) : Prop := 0 ≤ a ∧ 0 ≤ b ∧ b < 2147483579
theorem draw_big (a b c m : Int) (h : 0 < a) (hm : 0 < m) (hm2 : m.natAbs < 2 ^ 8999) : F_l_draw [spr a b c, .d (.int m)] = some (.d (.int (a % m)), [spr (a / m) b c, .un]) := by
  unfold F_l_draw d_l_draw
  have hp := pylong_small (i := a) hm2
  walk_at "dr"
  simp [L2.atI, L2.ixN, h, fDivmod, hm, hp]
  walk_at "end"
theorem draw_small (a b c m : Int) (h : ¬ 0 < a) (hb : 0 ≤ b ∧ b < 2147483579) (hm : 0 < m) : ∃ r b' c', (0 ≤ b' ∧ b' < 2147483579) ∧ 0 ≤ r ∧ r < m ∧ F_l_draw [spr a b c, .d (.int m)] = some (.d (.int r), [spr a b' c', .un]) := by
  unfold F_l_draw d_l_draw
  have hne : m ≠ 0 := by omega
  have m1 : ∀ x : Int, mulOk b x = true := fun x => mulOk_l (by omega)
  have m2 : ∀ x : Int, mulOk 4 x = true := fun x => mulOk_l (by decide)
  have d1 : divOk 89 = true := by decide
  walk_at "dr"
  simp [L2.atI, L2.ixN, h, m1, m2, d1, hne]
  walk_at "end"
  exact ⟨_, _, fmod_pos (by decide), (fmod_pos hm).1, (fmod_pos hm).2, rfl, rfl⟩
theorem draw (a b c m : Int) (ha : SP a b) (hm : 0 < m) (hm2 : m ≤ 1000000) : ∃ r a' b' c', SP a' b' ∧ 0 ≤ r ∧ r < m ∧ F_l_draw [spr a b c, .d (.int m)] = some (.d (.int r), [spr a' b' c', .un]) := by
  by_cases h : 0 < a
  · have hb : m.natAbs < 2 ^ 8999 := Nat.lt_of_le_of_lt (show m.natAbs ≤ 2 ^ 20 by omega) (Nat.pow_lt_pow_right (by decide) (by decide))
    exact ⟨_, _, _, _, ⟨Int.ediv_nonneg ha.1 (by omega), ha.2⟩, Int.emod_nonneg a (by omega), Int.emod_lt_of_pos a hm, draw_big a b c m h hm hb⟩
  · obtain ⟨r, b', c', h0, h1, h2, h3⟩ := draw_small a b c m h ha.2 hm
    exact ⟨r, a, b', c', ⟨ha.1, h0⟩, h1, h2, h3⟩
theorem one_ofD (a b c : Int) (ns : List D) (ha : SP a b) (hn : 0 < ns.length) (hn2 : ns.length ≤ 100) : ∃ r a' b' c', SP a' b' ∧ r ∈ ns ∧ F_l_one_of [spr a b c, .d (.list ns)] = some (.d r, [spr a' b' c', .un]) := by
  obtain ⟨r, a', b', c', h1, h2, h3, h4⟩ := draw a b c ns.length ha (by omega) (by omega)
  have hr : r.toNat < ns.length := by omega
  refine ⟨ns[r.toNat], a', b', c', h1, List.getElem_mem _, ?_⟩
  unfold F_l_one_of d_l_one_of
  walk_at "dr"
  simp [h4, atI_of h2 (show r < ns.length by simpa using h3)]
  simp [List.getElem?_eq_getElem hr]
  walk_at "end"
theorem one_of (a b c : Int) (ns : List Int) (ha : SP a b) (hn : 0 < ns.length) (hn2 : ns.length ≤ 100) : ∃ r a' b' c', SP a' b' ∧ r ∈ ns ∧ F_l_one_of [spr a b c, .d (.list (ns.map PyData.int))] = some (.d (.int r), [spr a' b' c', .un]) := by
  obtain ⟨r, a', b', c', h1, h2, h3⟩ := one_ofD a b c (ns.map PyData.int) ha (by simpa using hn) (by simpa using hn2)
  obtain ⟨x, hx, rfl⟩ := List.mem_map.mp h2
  exact ⟨x, a', b', c', h1, hx, h3⟩
theorem p30 : ((10 : Int) ^ 30) = 1000000000000000000000000000000 := by decide
theorem number (a b c size : Int) (ha : SP a b) (h0 : 0 ≤ size) (h1 : size ≤ 100) : ∃ x a' b' c', SP a' b' ∧ Sm 110 x ∧ F_l_number [spr a b c, .d (.int size)] = some (.d (.int x), [spr a' b' c', .un]) := by
  obtain ⟨far, a1, b1, c1, s1, hf, e1⟩ := one_of a b c [0, 0, 0, 0, 0, 0, 0, 0, 0, 0, 1000000, 1000000000000000000000000000000] ha (by decide) (by decide)
  obtain ⟨r1, a2, b2, c2, s2, r10, r11, e2⟩ := draw a1 b1 c1 (size + 1) s1 (by omega) (by omega)
  obtain ⟨r2, a3, b3, c3, s3, r20, r21, e3⟩ := draw a2 b2 c2 9 s2 (by decide) (by decide)
  obtain ⟨r3, a4, b4, c4, s4, r30, r31, e4⟩ := draw a3 b3 c3 2 s3 (by decide) (by decide)
  have hfar : 0 ≤ far ∧ far ≤ 1000000000000000000000000000000 := by
    simp at hf
    omega
  have hb : Sm 110 (r1 + far * r2) := by
    have h3 : 0 ≤ far * r2 := Int.mul_nonneg hfar.1 r20
    have h4 : far * r2 ≤ 1000000000000000000000000000000 * 9 := Int.mul_le_mul hfar.2 (by omega) r20 (by decide)
    have h5 : (2 : Nat) ^ 110 = 1298074214633706907132624082305024 := by decide
    unfold Sm
    rw [h5]
    omega
  have mo : mulOk far r2 = true := mulOk_r (by omega)
  have hf2 : szOk 12 = true := by decide
  have t1 : dSet 2 (dCallF F_l_one_of (dCons (dBor 0) (dCons (dLst (dCons (dC (.int 0)) (dCons (dC (.int 0)) (dCons (dC (.int 0)) (dCons (dC (.int 0)) (dCons (dC (.int 0)) (dCons (dC (.int 0)) (dCons (dC (.int 0)) (dCons (dC (.int 0)) (dCons (dC (.int 0)) (dCons (dC (.int 0)) (dCons (dOp (fII gPow) (dC (.int 10)) (dC (.int 6))) (dCons (dOp (fII gPow) (dC (.int 10)) (dC (.int 30))) dNil))))))))))))) dNil))) [spr a b c, .d (.int size), .un, .un] = some (.nx, [spr a1 b1 c1, .d (.int size), .d (.int far), .un]) := by
    simp only [List.map_cons, List.map_nil] at e1
    simp [dSet, dCallF, dCons, dBor, dLst, dC, dOp, fII, gPow, dNil, asDs, asD, hf2, callF, callB, e1, retV, DL.cellOf]
  have t2 : dSet 3 (dOp fAddU (dCallF F_l_draw (dCons (dBor 0) (dCons (dOp fAddU (dBor 1) (dC (.int 1))) dNil))) (dOp fMulU (dBor 2) (dCallF F_l_draw (dCons (dBor 0) (dCons (dC (.int 9)) dNil))))) [spr a1 b1 c1, .d (.int size), .d (.int far), .un] = some (.nx, [spr a3 b3 c3, .d (.int size), .d (.int far), .d (.int (r1 + far * r2))]) := by
    simp [dSet, dOp, dCallF, dCons, dBor, dC, fAddU, isIntV, fII, gAdd, dNil, asDs, asD, callF, callB, e2, e3, retV, fMulU, gMul, mo, DL.cellOf]
  refine ⟨if r3 = 0 then r1 + far * r2 else 0 - (r1 + far * r2), a4, b4, c4, s4, ?_, ?_⟩
  · split
    · exact hb
    · rw [Int.zero_sub]; exact hb.neg
  · unfold F_l_number d_l_number
    walk_at "bd"
    rw [dSeq, t1, Option.bind_some]
    show (dSeq _ _ _).bind _ = _
    rw [dSeq, t2, Option.bind_some]
    show (dRet _ _).bind _ = _
    by_cases hr : r3 = 0
    · subst hr
      rw [if_pos rfl]
      walk_at "dls"
    · rw [if_neg hr]
      walk_at "dls"

theorem weight (a b c size : Int) (ha : SP a b) (h0 : 0 ≤ size) (h1 : size ≤ 100) : ∃ x a' b' c', SP a' b' ∧ Sm 110 x ∧ x ≠ 0 ∧ F_l_weight [spr a b c, .d (.int size)] = some (.d (.int x), [spr a' b' c', .un]) := by
  obtain ⟨x, a1, b1, c1, s1, hx, e1⟩ := number a b c size ha h0 h1
  refine ⟨if x = 0 then 1 else x, a1, b1, c1, s1, ?_, ?_, ?_⟩
  · split
    · show (1 : Int).natAbs < 2 ^ 110; decide
    · exact hx
  · split
    · decide
    · assumption
  · unfold F_l_weight d_l_weight
    have t1 : dSet 2 (dCallF F_l_number (dCons (dBor 0) (dCons (dVar 1) dNil))) [spr a b c, .d (.int size), .un] = some (.nx, [spr a1 b1 c1, .d (.int size), .d (.int x)]) := by
      simp [dSet, dCallF, dCons, dBor, dVar, dNil, callF, callB, asDs, asD, e1, retV, DL.cellOf]
    walk_at "bd"
    rw [dSeq, t1, Option.bind_some]
    show (dRet _ _).bind _ = _
    by_cases hr : x = 0
    · subst hr
      rw [if_pos rfl]
      walk_at "dls"
    · rw [if_neg hr]
      walk_at "dls"
end K02
end
section
set_option Elab.async false
set_option linter.all false
set_option maxRecDepth 100000
namespace K02
open PySem (PyData)
open DL
local macro_rules | `(tactic| walk_at "bd") => `(tactic| simp only [bodyF, List.length_cons, List.length_nil, if_true, List.replicate, List.cons_append, List.nil_append])
local macro_rules | `(tactic| walk_at "end") => `(tactic| simp [retOf_d, retOf_f, retOf_nx, outsOf, outAt, List.range, List.range.loop])
local macro_rules | `(tactic| walk_at "dl") => `(tactic| simp [bodyF, retOf_d, retOf_f, retOf_nx, outsOf, outAt, List.range, List.range.loop, dSeq, dSet, dVar, dBor, dC, dRet, dIfS, dNext, dTest, dOp, dUn, dCall, dCons, dNil, dCallF, callF, callD, callB, asDs, asD, retV, DL.cellOf, f1, gInt, gAbs, fII, gAdd, DL.gSub, gMul, gDiv, gMod, gPow, gLt, gLe, gGt, gGe, fNeg, fAddU, fMulU, isIntV, dIf, dAndV, dOrV, dNotV, dAndB, dOrB, dNotB, dIsi, isiB, dDrop, fIs, isNone, dLst, dTup, dNever, dAsg, aName, aTup, aCons, aNil, dTruth, fGcd, f2I, eqx_int, eqx_str, eqx_row, eqx_row0, szOk, dPar2X, dPar3X, ix_row, ix_pr0, ix_pr1, lenW_d, len_row, len_pr, truth_row, isTup_row, isTup_pr, at_zero, at_last])
local macro_rules | `(tactic| walk_at "dls") => `(tactic| simp [*, bodyF, retOf_d, retOf_f, retOf_nx, outsOf, outAt, List.range, List.range.loop, dSeq, dSet, dVar, dBor, dC, dRet, dIfS, dNext, dTest, dOp, dUn, dCall, dCons, dNil, dCallF, callF, callD, callB, asDs, asD, retV, DL.cellOf, f1, gInt, gAbs, fII, gAdd, DL.gSub, gMul, gDiv, gMod, gPow, gLt, gLe, gGt, gGe, fNeg, fAddU, fMulU, isIntV, dIf, dAndV, dOrV, dNotV, dAndB, dOrB, dNotB, dIsi, isiB, dDrop, fIs, isNone, dLst, dTup, dNever, dAsg, aName, aTup, aCons, aNil, dTruth, fGcd, f2I, eqx_int, eqx_str, eqx_row, eqx_row0, szOk, dPar2X, dPar3X, ix_row, ix_pr0, ix_pr1, lenW_d, len_row, len_pr, truth_row, isTup_row, isTup_pr, at_zero, at_last])

def wh : D → Bool
  | .int _ => true
  | _ => false
def nz : D → Bool
  | .int b => decide (b ≠ 0)
  | _ => false
def isPair : D → Bool
  | .tuple [x, y] => wh x && (wh y && nz y)
  | _ => false
theorem is_whole_eq (x : D) : F_is_whole [.d x] = some (.d (.bool (wh x)), [.un]) := by
  unfold F_is_whole d_is_whole
  walk_at "bd"
  cases x <;> simp [dRet, dAndV, dIsi, dBor, tyOf, isiB, dNotV, retOf_d, outsOf, outAt, List.range, List.range.loop, wh]
theorem lis_whole_eq (x : D) : F_l_is_whole [.d x] = some (.d (.bool (wh x)), [.un]) := by
  unfold F_l_is_whole d_l_is_whole
  walk_at "bd"
  cases x <;> simp [dRet, dAndV, dIsi, dBor, tyOf, isiB, dNotV, retOf_d, outsOf, outAt, List.range, List.range.loop, wh]
theorem wh_int {x : D} (h : wh x = true) : ∃ i, x = .int i := by
  cases x <;> first | exact ⟨_, rfl⟩ | cases h
theorem len_tup (xs : List D) (env : En) : gLen env (.d (.tuple xs)) = some (.int xs.length) := rfl
theorem ix2_0 (x y : D) (env : En) : fIx (.d (.tuple [x, y])) (.d (.int 0)) env = some (.d x, env) := rfl
theorem ix2_1 (x y : D) (env : En) : fIx (.d (.tuple [x, y])) (.d (.int 1)) env = some (.d y, env) := rfl
theorem ty_tup (xs : List D) (env : En) : tyOf env (.d (.tuple xs)) = some .tup := rfl
/-- the two looks at a pair -/
theorem look_pair (W : FD) (hW : ∀ x, W [.d x] = some (.d (.bool (wh x)), [.un])) (d : D) : bodyF 1 0 (dSeq (dIfS (dOrB (dNotB (dTest (dIsi .tup (dBor 0)))) (dTest (dOp (fEqX true) (dCall (f1 gLenW) (dCons (dBor 0) dNil)) (dC (.int 2))))) (dRet (dC (.bool false))) dNext) (dRet (dAndV (dCallF W (dCons (dOp fIx (dBor 0) (dC (.int 0))) dNil)) (dAndV (dCallF W (dCons (dOp fIx (dBor 0) (dC (.int 1))) dNil)) (dOp (fEqX true) (dOp fIx (dBor 0) (dC (.int 1))) (dC (.int 0))))))) [.d d] = some (.d (.bool (isPair d)), [.un]) := by
  have no : ∀ d : D, (∀ xs, d ≠ .tuple xs) → isPair d = false ∧ ∀ env : En, ∃ t : Ty, tyOf env (.d d) = some t ∧ isiB t .tup = false := fun d h => by
    cases d with
    | tuple xs => exact absurd rfl (h xs)
    | _ => exact ⟨rfl, fun env => ⟨_, rfl, rfl⟩⟩
  by_cases ht : ∃ xs, d = .tuple xs
  · obtain ⟨xs, rfl⟩ := ht
    by_cases h2 : xs.length = 2
    · match xs, h2 with
      | [x, y], _ =>
        have e1 := hW x
        have e2 := hW y
        cases hx : wh x with
        | false =>
          rw [hx] at e1
          have : isPair (.tuple [x, y]) = false := by show (wh x && (wh y && nz y)) = false; rw [hx]; rfl
          rw [this]
          simp [bodyF, dSeq, dIfS, dOrB, dNotB, dTest, dIsi, dBor, ty_tup, isiB, dOp, dCall, f1, dCons, dNil, lenW_d, len_tup, dC, eqx_int, dNext, dRet, dAndV, dCallF, ix2_0, ix2_1, callF, callD, asDs, asD, e1, e2, retV, retOf_d, outsOf, outAt, List.range, List.range.loop]
        | true =>
          rw [hx] at e1
          cases hy : wh y with
          | false =>
            rw [hy] at e2
            have : isPair (.tuple [x, y]) = false := by show (wh x && (wh y && nz y)) = false; rw [hx, hy]; rfl
            rw [this]
            simp [bodyF, dSeq, dIfS, dOrB, dNotB, dTest, dIsi, dBor, ty_tup, isiB, dOp, dCall, f1, dCons, dNil, lenW_d, len_tup, dC, eqx_int, dNext, dRet, dAndV, dCallF, ix2_0, ix2_1, callF, callD, asDs, asD, e1, e2, retV, retOf_d, outsOf, outAt, List.range, List.range.loop]
          | true =>
            rw [hy] at e2
            obtain ⟨b, rfl⟩ := wh_int hy
            have : isPair (.tuple [x, .int b]) = decide (b ≠ 0) := by show (wh x && (wh (.int b) && nz (.int b))) = _; rw [hx, hy]; rfl
            rw [this]
            simp [bodyF, dSeq, dIfS, dOrB, dNotB, dTest, dIsi, dBor, ty_tup, isiB, dOp, dCall, f1, dCons, dNil, lenW_d, len_tup, dC, eqx_int, dNext, dRet, dAndV, dCallF, ix2_0, ix2_1, callF, callD, asDs, asD, e1, e2, retV, retOf_d, outsOf, outAt, List.range, List.range.loop]
    · have hne : ¬ (xs.length : Int) = 2 := by omega
      have : isPair (.tuple xs) = false := by
        match xs, h2 with
        | [], _ => rfl
        | [_], _ => rfl
        | [_, _], h => exact absurd rfl h
        | _ :: _ :: _ :: _, _ => rfl
      rw [this]
      simp [bodyF, dSeq, dIfS, dOrB, dNotB, dTest, dIsi, dBor, ty_tup, isiB, dOp, dCall, f1, dCons, dNil, lenW_d, len_tup, dC, eqx_int, hne, dRet, retOf_d, outsOf, outAt, List.range, List.range.loop]
  · obtain ⟨h1, h2⟩ := no d fun xs e => ht ⟨xs, e⟩
    obtain ⟨t, h3, h4⟩ := h2 [.d d]
    rw [h1]
    simp [bodyF, dSeq, dIfS, dOrB, dNotB, dTest, dIsi, dBor, h3, h4, dC, dRet, retOf_d, outsOf, outAt, List.range, List.range.loop]
theorem is_weighted_eq (d : D) : F_is_weighted [.d d] = some (.d (.bool (isPair d)), [.un]) := look_pair F_is_whole is_whole_eq d
theorem lis_pair_eq (d : D) : F_l_is_pair [.d d] = some (.d (.bool (isPair d)), [.un]) := look_pair F_l_is_whole lis_whole_eq d
theorem isPair_pr {d : D} (h : isPair d = true) : ∃ p : Int × Int, d = prD p ∧ p.2 ≠ 0 := by
  unfold isPair at h
  split at h
  · rename_i x y
    obtain ⟨h1, h2⟩ := (Bool.and_eq_true _ _).mp h
    obtain ⟨h2, h3⟩ := (Bool.and_eq_true _ _).mp h2
    obtain ⟨i, rfl⟩ := wh_int h1
    obtain ⟨j, rfl⟩ := wh_int h2
    exact ⟨(i, j), rfl, of_decide_eq_true h3⟩
  · cases h
theorem pr_isPair (p : Int × Int) : isPair (prD p) = decide (p.2 ≠ 0) := by
  show (true && (true && decide (p.2 ≠ 0))) = _
  simp
/-! ### the walk over the pairs -/
def enumN (n : Nat) (ds : List D) : List D := (ds.zipIdx n).map fun p => .tuple [.int (p.2 : Int), p.1]
theorem enumN_cons (n : Nat) (d : D) (ds : List D) : enumN n (d :: ds) = .tuple [.int (n : Int), d] :: enumN (n + 1) ds := rfl
def up : Option Int → Int → Bool
  | none, _ => true
  | some p, a => decide (p < a)
/-- pairs behind pre, ascending -/
def asc (prev : Option Int) : List D → Bool
  | [] => true
  | d :: ds => isPair d && match d with
    | .tuple (.int a :: _) => up prev a && asc (some a) ds
    | _ => false
def body (T : DE) (R : DS) : DS := dIfS (dOrB (dNotB (dTest T)) (dAndB (dTest (dOp (fII gGt) (dBor 1) (dC (.int 0)))) (dTest (dOp (fII gLe) (dOp fIx (dBor 2) (dC (.int 0))) (dOp fIx (dOp fIx (dBor 0) (dOp (fII DL.gSub) (dBor 1) (dC (.int 1)))) (dC (.int 0))))))) R dNext
abbrev tg : DG := aTup 2 (aCons (aName 1) (aCons (aName 2) aNil))
theorem scan (ds : List D) (T : DE) (R : DS) (val : Nat → Val) (hT : ∀ (k : Int) (d : D), T [.d (.tuple ds), .d (.int k), .d d] = some (.d (.bool (isPair d)), [.d (.tuple ds), .d (.int k), .d d]))
    (hR : ∀ (k : Nat) (d : D), k < ds.length → R [.d (.tuple ds), .d (.int k), .d d] = some (.rt (val k), [.d (.tuple ds), .d (.int k), .d d])) :
    ∀ (rest pre : List D) (prev : Option Int) (c c' : Cl), ds = pre ++ rest → (pre = [] ∧ prev = none ∨ ∃ m p, pre = m ++ [prD p] ∧ prev = some p.1) →
      (asc prev rest = true ∧ ∃ x y, dLoop tg (body T R) (enumN pre.length rest) [.d (.tuple ds), c, c'] = some (.nx, [.d (.tuple ds), x, y])) ∨
      (asc prev rest = false ∧ ∃ k x y, dLoop tg (body T R) (enumN pre.length rest) [.d (.tuple ds), c, c'] = some (.rt (val k), [.d (.tuple ds), x, y]))
  | [], pre, prev, c, c', e, hp => .inl ⟨rfl, c, c', rfl⟩
  | d :: rest, pre, prev, c, c', e, hp => by
    have hk : pre.length < ds.length := by rw [e]; simp
    have ha : tg (.tuple [.int (pre.length : Int), d]) [.d (.tuple ds), c, c'] = some [.d (.tuple ds), .d (.int (pre.length : Int)), .d d] := rfl
    have t1 := hT pre.length d
    rw [enumN_cons]
    cases hd : isPair d with
    | false =>
      refine .inr ⟨by unfold asc; rw [hd]; rfl, pre.length, _, _, dLoop_rt (env' := [.d (.tuple ds), .d (.int (pre.length : Int)), .d d]) ?_⟩
      rw [hd] at t1
      rw [ha, Option.bind_some]
      unfold body
      simp [dIfS, dOrB, dNotB, dTest, t1, hR pre.length d hk]
    | true =>
      rw [hd] at t1
      obtain ⟨q, rfl, hq⟩ := isPair_pr hd
      have step : ∀ b : Bool, (up prev q.1) = b → ((tg (.tuple [.int (pre.length : Int), prD q]) [.d (.tuple ds), c, c']).bind (body T R)) = some (if b = true then .nx else .rt (val pre.length), [.d (.tuple ds), .d (.int (pre.length : Int)), .d (prD q)]) := fun b hb => by
        rw [ha, Option.bind_some]
        unfold body
        rcases hp with ⟨rfl, rfl⟩ | ⟨m, p, rfl, rfl⟩
        · cases hb
          simp [dIfS, dOrB, dNotB, dTest, dAndB, dOp, dBor, dC, fII, gGt, dNext] at t1 ⊢
          simp [t1]
          rfl
        · have hix : ∀ env : En, fIx (.d (.tuple ds)) (.d (.int (((m ++ [prD p]).length : Int) - 1))) env = some (.d (prD p), env) := fun env => by
            have hx : L2.atI ds (((m ++ [prD p]).length : Int) - 1) = some (prD p) := by
              rw [atI_of (by simp <;> omega) (by rw [e]; simp <;> omega)]
              have : ((((m ++ [prD p]).length : Int) - 1)).toNat = m.length := by simp
              rw [this, e]
              simp
            show (L2.atI ds _).map _ = _
            rw [hx]
            rfl
          have hpos : (0 : Int) < ((m ++ [prD p]).length : Int) := by simp <;> omega
          have hR' := hR (m ++ [prD p]).length (prD q) hk
          generalize (m ++ [prD p]).length = n at t1 hR' hix hpos
          have hposN : 0 < n := by omega
          have hR2 : R [.d (.tuple ds), .d (.int (n : Int)), .d (prD q)] = some (.rt (val n), [.d (.tuple ds), .d (.int (n : Int)), .d (prD q)]) := hR'
          by_cases hlt : p.1 < q.1
          · have hb' : b = true := by rw [← hb]; exact decide_eq_true hlt
            subst hb'
            have hle : ¬ q.1 ≤ p.1 := by omega
            simp [dIfS, dOrB, dNotB, dTest, t1, dAndB, dOp, dBor, dC, fII, gGt, hpos, hposN, DL.gSub, gLe, ix_pr0, hix, hle, dNext]
          · have hb' : b = false := by rw [← hb]; exact decide_eq_false hlt
            subst hb'
            have hle : q.1 ≤ p.1 := by omega
            simp [dIfS, dOrB, dNotB, dTest, t1, dAndB, dOp, dBor, dC, fII, gGt, hpos, hposN, DL.gSub, gLe, ix_pr0, hix, hle, hR2]
      have hasc : asc prev (prD q :: rest) = ((up prev q.1) && asc (some q.1) rest) := by
        show (isPair (prD q) && _) = _
        rw [hd]
        rfl
      rw [hasc]
      cases hb : up prev q.1 with
      | false =>
        have s := step false hb
        exact .inr ⟨rfl, pre.length, _, _, dLoop_rt s⟩
      | true =>
        have s := step true hb
        rw [dLoop_nx s, Bool.true_and]
        have := scan ds T R val hT hR rest (pre ++ [prD q]) (some q.1) (.d (.int (pre.length : Int))) (.d (prD q)) (by rw [e]; simp) (.inr ⟨pre, q, rfl, rfl⟩)
        rw [List.length_append, List.length_singleton] at this
        exact this
end K02
end
section
set_option Elab.async false
set_option linter.all false
set_option maxRecDepth 100000
namespace K02
open PySem (PyData)
open DL
local macro_rules | `(tactic| walk_at "bd") => `(tactic| simp only [bodyF, List.length_cons, List.length_nil, if_true, List.replicate, List.cons_append, List.nil_append])
local macro_rules | `(tactic| walk_at "end") => `(tactic| simp [retOf_d, retOf_f, retOf_nx, outsOf, outAt, List.range, List.range.loop])
local macro_rules | `(tactic| walk_at "dl") => `(tactic| simp [bodyF, retOf_d, retOf_f, retOf_nx, outsOf, outAt, List.range, List.range.loop, dSeq, dSet, dVar, dBor, dC, dRet, dIfS, dNext, dTest, dOp, dUn, dCall, dCons, dNil, dCallF, callF, callD, callB, asDs, asD, retV, DL.cellOf, f1, gInt, gAbs, fII, gAdd, DL.gSub, gMul, gDiv, gMod, gPow, gLt, gLe, gGt, gGe, fNeg, fAddU, fMulU, isIntV, dIf, dAndV, dOrV, dNotV, dAndB, dOrB, dNotB, dIsi, isiB, dDrop, fIs, isNone, dLst, dTup, dNever, dAsg, aName, aTup, aCons, aNil, dTruth, fGcd, f2I, eqx_int, eqx_str, eqx_row, eqx_row0, szOk, dPar2X, dPar3X, ix_row, ix_pr0, ix_pr1, lenW_d, len_row, len_pr, truth_row, isTup_row, isTup_pr, at_zero, at_last])
local macro_rules | `(tactic| walk_at "dls") => `(tactic| simp [*, bodyF, retOf_d, retOf_f, retOf_nx, outsOf, outAt, List.range, List.range.loop, dSeq, dSet, dVar, dBor, dC, dRet, dIfS, dNext, dTest, dOp, dUn, dCall, dCons, dNil, dCallF, callF, callD, callB, asDs, asD, retV, DL.cellOf, f1, gInt, gAbs, fII, gAdd, DL.gSub, gMul, gDiv, gMod, gPow, gLt, gLe, gGt, gGe, fNeg, fAddU, fMulU, isIntV, dIf, dAndV, dOrV, dNotV, dAndB, dOrB, dNotB, dIsi, isiB, dDrop, fIs, isNone, dLst, dTup, dNever, dAsg, aName, aTup, aCons, aNil, dTruth, fGcd, f2I, eqx_int, eqx_str, eqx_row, eqx_row0, szOk, dPar2X, dPar3X, ix_row, ix_pr0, ix_pr1, lenW_d, len_row, len_pr, truth_row, isTup_row, isTup_pr, at_zero, at_last])

def isRow : D → Bool
  | .tuple ds => decide (ds.length ≤ 400) && asc none ds
  | _ => false
theorem isTup_or (x : D) : (∃ xs, x = .tuple xs) ∨ (isRow x = false ∧ ∀ env : En, ∃ t : Ty, tyOf env (.d x) = some t ∧ isiB t .tup = false) := by
  cases x with
  | tuple xs => exact .inl ⟨xs, rfl⟩
  | _ => exact .inr ⟨rfl, fun env => ⟨_, rfl, rfl⟩⟩
theorem first_wrong_eq (ds : List D) : ∃ v : D, F_first_wrong [.d (.tuple ds)] = some (.d v, [.un]) ∧ ((asc none ds = true ∧ v = .none) ∨ (asc none ds = false ∧ ∃ k : Int, v = .int k)) := by
  unfold F_first_wrong d_first_wrong
  have h1 : dEnum (dCons (dVar 0) dNil) [.d (.tuple ds), .un, .un] = some (enumN 0 ds, [.d (.tuple ds), .un, .un]) := rfl
  have s := scan ds (dCallF F_is_weighted (dCons (dVar 2) dNil)) (dRet (dVar 1)) (fun k => .d (.int k)) (fun k d => by
    have e := is_weighted_eq d
    simp [dCallF, dCons, dVar, dNil, callF, callD, asDs, asD, e, retV]) (fun k d _ => rfl) ds [] none .un .un rfl (.inl ⟨rfl, rfl⟩)
  unfold body tg at s
  walk_at "bd"
  rcases s with ⟨ha, x, y, hs⟩ | ⟨ha, k, x, y, hs⟩
  · refine ⟨.none, ?_, .inl ⟨ha, rfl⟩⟩
    rw [dSeq, dFor_eq, h1, Option.bind_some]
    show (Option.bind (dLoop _ _ (enumN 0 ds) _) _).bind _ = _
    rw [show ([] : List D).length = 0 from rfl] at hs
    rw [hs]
    rfl
  · refine ⟨.int k, ?_, .inr ⟨ha, _, rfl⟩⟩
    rw [dSeq, dFor_eq, h1, Option.bind_some]
    show (Option.bind (dLoop _ _ (enumN 0 ds) _) _).bind _ = _
    rw [show ([] : List D).length = 0 from rfl] at hs
    rw [hs]
    rfl
theorem fault_eq (x : D) : ∃ l : List D, F_l_fault [.d x] = some (.f (.l l), [.un]) ∧ ((isRow x = true ∧ l = []) ∨ (isRow x = false ∧ ∃ a b : String, l = [.str (PySem.Str.ofString a), .str (PySem.Str.ofString b)])) := by
  unfold F_l_fault d_l_fault
  have z2 : szOk 2 = true := by decide
  have z0 : szOk 0 = true := by decide
  rcases isTup_or x with ⟨ds, rfl⟩ | ⟨h1, h2⟩
  · by_cases hl : ds.length ≤ 400
    · have hl' : ¬ (400 : Int) < ds.length := by omega
      have h0 : ∀ A : DS, dIfS (dOrB (dNotB (dTest (dIsi .tup (dBor 0)))) (dTest (dOp (fII gGt) (dCall (f1 gLenW) (dCons (dBor 0) dNil)) (dC (.int 400))))) A dNext [.d (.tuple ds), .un, .un] = some (.nx, [.d (.tuple ds), .un, .un]) := fun A => by
        simp [dIfS, dOrB, dNotB, dTest, dIsi, dBor, ty_tup, isiB, dOp, dCall, f1, dCons, dNil, lenW_d, len_tup, dC, fII, gGt, hl', dNext]
      have h1 : dEnum (dCons (dVar 0) dNil) [.d (.tuple ds), .un, .un] = some (enumN 0 ds, [.d (.tuple ds), .un, .un]) := rfl
      have s := scan ds (dCallF F_l_is_pair (dCons (dVar 2) dNil)) (dRet (dLst (dCons (dC (.str "row")) (dCons (dCall (f1 gReprW) (dCons (dVar 1) dNil)) dNil)))) (fun k => .f (.l [.str "row", .str (toString (k : Int))])) (fun k d => by
        have e := lis_pair_eq d
        simp [dCallF, dCons, dVar, dNil, callF, callD, asDs, asD, e, retV]) (fun k d hk => by
        have hlog : ((k : Int)).natAbs.log2 < 1920 := by
          by_cases h0 : ((k : Int)).natAbs = 0
          · rw [h0]; decide
          · refine (Nat.log2_lt h0).mpr (Nat.lt_of_le_of_lt (show ((k : Int)).natAbs ≤ 2 ^ 9 by omega) (Nat.pow_lt_pow_right (by decide) (by decide)))
        have hg : ∀ env : En, gReprW env (.d (.int (k : Int))) = some (.str (toString (k : Int))) := fun env => by
          show (if decide (((k : Int)).natAbs.log2 < 1920) then some (PyData.str (toString (k : Int))) else none) = _
          rw [if_pos (decide_eq_true hlog)]
        simp [dRet, dLst, dCons, dC, dCall, f1, dVar, dNil, hg, asDs, asD, z2]) ds [] none .un .un rfl (.inl ⟨rfl, rfl⟩)
      unfold body tg at s
      rw [show ([] : List D).length = 0 from rfl] at s
      walk_at "bd"
      have hrow : isRow (.tuple ds) = asc none ds := by
        show (decide (ds.length ≤ 400) && asc none ds) = _
        rw [decide_eq_true hl, Bool.true_and]
      rw [hrow]
      rcases s with ⟨ha, x, y, hs⟩ | ⟨ha, k, x, y, hs⟩
      · refine ⟨[], ?_, .inl ⟨ha, rfl⟩⟩
        rw [dSeq, h0, Option.bind_some]
        show (dSeq _ _ _).bind _ = _
        rw [dSeq, dFor_eq, h1, Option.bind_some]
        show (Option.bind (dLoop _ _ (enumN 0 ds) _) _).bind _ = _
        rw [hs]
        rfl
      · refine ⟨[.str "row", .str (toString (k : Int))], ?_, .inr ⟨ha, _, _, rfl⟩⟩
        rw [dSeq, h0, Option.bind_some]
        show (dSeq _ _ _).bind _ = _
        rw [dSeq, dFor_eq, h1, Option.bind_some]
        show (Option.bind (dLoop _ _ (enumN 0 ds) _) _).bind _ = _
        rw [hs]
        rfl
    · refine ⟨[.str "row", .str "None"], ?_, .inr ⟨?_, _, _, rfl⟩⟩
      · have hl' : (400 : Int) < ds.length := by omega
        have hl2 : 400 < ds.length := by omega
        simp [bodyF, dSeq, dIfS, dOrB, dNotB, dTest, dIsi, dBor, ty_tup, isiB, dOp, dCall, f1, dCons, dNil, lenW_d, len_tup, dC, fII, gGt, hl', hl2, dRet, dLst, asDs, asD, z2, retOf_f, outsOf, outAt, List.range, List.range.loop]
      · show (decide (ds.length ≤ 400) && asc none ds) = false
        rw [decide_eq_false hl, Bool.false_and]
  · obtain ⟨t, h3, h4⟩ := h2 [.d x, .un, .un]
    refine ⟨[.str "row", .str "None"], ?_, .inr ⟨h1, _, _, rfl⟩⟩
    simp [bodyF, dSeq, dIfS, dOrB, dNotB, dTest, dIsi, dBor, h3, h4, dC, dRet, dLst, dCons, dNil, asDs, asD, z2, retOf_f, outsOf, outAt, List.range, List.range.loop]
theorem makes_eq (x : D) : F_makes_row [.d x] = some (.d (.bool (isRow x)), [.un]) := by
  unfold F_makes_row d_makes_row
  rcases isTup_or x with ⟨ds, rfl⟩ | ⟨h1, h2⟩
  · have e1 : F_is_tuple_of_told_size [.d (.tuple ds)] = some (.d (.bool (decide (ds.length ≤ 400))), [.un]) := by
      unfold F_is_tuple_of_told_size d_is_tuple_of_told_size
      have : decide ((ds.length : Int) ≤ 400) = decide (ds.length ≤ 400) := by
        rw [decide_eq_decide]
        omega
      simp only [← this]
      simp [bodyF, dRet, dAndV, dIsi, dBor, ty_tup, isiB, dOp, fII, gLe, dCall, dCons, dNil, f1, lenW_d, len_tup, dC, retOf_d, outsOf, outAt, List.range, List.range.loop]
    obtain ⟨v, e2, hv⟩ := first_wrong_eq ds
    by_cases hl : ds.length ≤ 400
    · rw [decide_eq_true hl] at e1
      have hrow : isRow (.tuple ds) = asc none ds := by
        show (decide (ds.length ≤ 400) && asc none ds) = _
        rw [decide_eq_true hl, Bool.true_and]
      rw [hrow]
      rcases hv with ⟨ha, rfl⟩ | ⟨ha, k, rfl⟩
      · rw [ha]
        simp [bodyF, dRet, dAndV, dCallF, dCons, dVar, dNil, callF, callD, asDs, asD, e1, e2, retV, dOp, fIs, isNone, dC, retOf_d, outsOf, outAt, List.range, List.range.loop]
      · rw [ha]
        simp [bodyF, dRet, dAndV, dCallF, dCons, dVar, dNil, callF, callD, asDs, asD, e1, e2, retV, dOp, fIs, isNone, dC, retOf_d, outsOf, outAt, List.range, List.range.loop]
    · rw [decide_eq_false hl] at e1
      have hrow : isRow (.tuple ds) = false := by
        show (decide (ds.length ≤ 400) && asc none ds) = _
        rw [decide_eq_false hl, Bool.false_and]
      rw [hrow]
      simp [bodyF, dRet, dAndV, dCallF, dCons, dVar, dNil, callF, callD, asDs, asD, e1, retV, retOf_d, outsOf, outAt, List.range, List.range.loop]
  · have e1 : F_is_tuple_of_told_size [.d x] = some (.d (.bool false), [.un]) := by
      obtain ⟨t, h3, h4⟩ := h2 [.d x]
      unfold F_is_tuple_of_told_size d_is_tuple_of_told_size
      simp [bodyF, dRet, dAndV, dIsi, dBor, h3, h4, retOf_d, outsOf, outAt, List.range, List.range.loop]
    rw [h1]
    simp [bodyF, dRet, dAndV, dCallF, dCons, dVar, dNil, callF, callD, asDs, asD, e1, retV, retOf_d, outsOf, outAt, List.range, List.range.loop]
/-- a row is pairs -/
theorem asc_pairs : ∀ {ds : List D} {prev : Option Int}, asc prev ds = true → ∃ r : List (Int × Int), ds = r.map prD
  | [], _, _ => ⟨[], rfl⟩
  | d :: ds, prev, h => by
    have h' : (isPair d && _) = true := h
    obtain ⟨h1, h2⟩ := (Bool.and_eq_true _ _).mp h'
    obtain ⟨p, rfl, hp⟩ := isPair_pr h1
    have h3 : (up prev p.1 && asc (some p.1) ds) = true := h2
    obtain ⟨r, rfl⟩ := asc_pairs ((Bool.and_eq_true _ _).mp h3).2
    exact ⟨p :: r, rfl⟩
theorem isRow_row {x : D} (h : isRow x = true) : ∃ r : List (Int × Int), x = rowD r ∧ r.length ≤ 400 := by
  cases x with
  | tuple ds =>
    have h' : (decide (ds.length ≤ 400) && asc none ds) = true := h
    obtain ⟨h1, h2⟩ := (Bool.and_eq_true _ _).mp h'
    obtain ⟨r, rfl⟩ := asc_pairs h2
    exact ⟨r, rfl, by simpa using of_decide_eq_true h1⟩
  | _ => cases h
theorem is_row_eq (x : D) : F_is_row [.d x] = some (.d (.bool (isRow x)), [.un]) := by
  unfold F_is_row d_is_row
  have e := makes_eq x
  simp [bodyF, dRet, dCallF, dCons, dVar, dNil, callF, callD, asDs, asD, e, retV, retOf_d, outsOf, outAt, List.range, List.range.loop]
theorem bools_map {α : Type} (r : List α) (f : α → Bool) : boolsOf (r.map fun p => PyData.bool (f p)) = some (r.map f) := by
  rw [show (r.map fun p => PyData.bool (f p)) = (r.map f).map PyData.bool from by rw [List.map_map]; rfl, boolsOf_map]
def isHeap (x : D) (r : List (Int × Int)) : Bool := isRow x && r.all fun p => decide (0 < p.2)
def isPlain (x : D) (r : List (Int × Int)) : Bool := isRow x && r.all fun p => decide (p.2 = 1)
theorem is_heap_no {x : D} (h : isRow x = false) : F_is_heap [.d x] = some (.d (.bool false), [.un]) := by
  unfold F_is_heap d_is_heap
  have e := makes_eq x
  rw [h] at e
  simp [bodyF, dRet, dAndV, dCallF, dCons, dVar, dNil, callF, callD, asDs, asD, e, retV, retOf_d, outsOf, outAt, List.range, List.range.loop]
theorem is_plain_no {x : D} (h : isRow x = false) : F_is_plain [.d x] = some (.d (.bool false), [.un]) := by
  unfold F_is_plain d_is_plain
  have e := makes_eq x
  rw [h] at e
  simp [bodyF, dRet, dAndV, dCallF, dCons, dVar, dNil, callF, callD, asDs, asD, e, retV, retOf_d, outsOf, outAt, List.range, List.range.loop]
theorem is_heap_yes {r : List (Int × Int)} (h : isRow (rowD r) = true) (hl : r.length ≤ 400) : F_is_heap [.d (rowD r)] = some (.d (.bool (r.all fun p => decide (0 < p.2))), [.un]) := by
  unfold F_is_heap d_is_heap
  have e := makes_eq (rowD r)
  rw [h] at e
  have e2 := lc_map r prD (fun p => [.d (rowD r), .d (.int p.1), .d (.int p.2)]) (fun p => .bool (decide (0 < p.2))) (it := dIter (dVar 0)) (vs := [1, 2]) (asg := aTup 2 (aCons (aName 1) (aCons (aName 2) aNil))) (elt := dOp (fII gGt) (dBor 2) (dC (.int 0))) (env := [.d (rowD r), .un, .un])
    rfl rfl (fun _ => rfl) (fun _ _ => rfl) (fun p _ => ⟨_, rfl, rfl⟩) (fun _ => rfl) rfl (by omega)
  have e3 := bools_map r fun p => decide (0 < p.2)
  have ea : dCallF F_makes_row (dCons (dVar 0) dNil) [.d (rowD r), .un, .un] = some (.d (.bool true), [.d (rowD r), .un, .un]) := by
    simp [dCallF, dCons, dVar, dNil, callF, callD, asDs, asD, e, retV]
  have e4 : dCall (f1 gAll) (dCons (dLc (dIter (dVar 0)) [1, 2] (aTup 2 (aCons (aName 1) (aCons (aName 2) aNil))) dYes (dOp (fII gGt) (dBor 2) (dC (.int 0)))) dNil) [.d (rowD r), .un, .un] = some (.d (.bool (r.all fun p => decide (0 < p.2))), [.d (rowD r), .un, .un]) := by
    simp [dCall, dCons, e2, dNil, f1, gAll, DL.listOf, e3, List.all_map, Function.comp_def]
  walk_at "bd"
  simp only [dRet, dAndV, ea, e4]
  rfl
theorem is_plain_yes {r : List (Int × Int)} (h : isRow (rowD r) = true) (hl : r.length ≤ 400) : F_is_plain [.d (rowD r)] = some (.d (.bool (r.all fun p => decide (p.2 = 1))), [.un]) := by
  unfold F_is_plain d_is_plain
  have e := makes_eq (rowD r)
  rw [h] at e
  have e2 := lc_map r prD (fun p => [.d (rowD r), .d (.int p.1), .d (.int p.2)]) (fun p => .bool (decide (p.2 = 1))) (it := dIter (dVar 0)) (vs := [1, 2]) (asg := aTup 2 (aCons (aName 1) (aCons (aName 2) aNil))) (elt := dOp (fEqX false) (dBor 2) (dC (.int 1))) (env := [.d (rowD r), .un, .un])
    rfl rfl (fun _ => rfl) (fun _ _ => rfl) (fun p _ => ⟨.d (.bool (decide (p.2 = 1))), by simp [dOp, dBor, dC, eqx_int], rfl⟩) (fun _ => rfl) rfl (by omega)
  have e3 := bools_map r fun p => decide (p.2 = 1)
  have ea : dCallF F_makes_row (dCons (dVar 0) dNil) [.d (rowD r), .un, .un] = some (.d (.bool true), [.d (rowD r), .un, .un]) := by
    simp [dCallF, dCons, dVar, dNil, callF, callD, asDs, asD, e, retV]
  have e4 : dCall (f1 gAll) (dCons (dLc (dIter (dVar 0)) [1, 2] (aTup 2 (aCons (aName 1) (aCons (aName 2) aNil))) dYes (dOp (fEqX false) (dBor 2) (dC (.int 1)))) dNil) [.d (rowD r), .un, .un] = some (.d (.bool (r.all fun p => decide (p.2 = 1))), [.d (rowD r), .un, .un]) := by
    simp [dCall, dCons, e2, dNil, f1, gAll, DL.listOf, e3, List.all_map, Function.comp_def]
  walk_at "bd"
  simp only [dRet, dAndV, ea, e4]
  rfl
end K02
end
section
set_option Elab.async false
set_option linter.all false
set_option maxRecDepth 100000
namespace K02
open PySem (PyData)
open DL
local macro_rules | `(tactic| walk_at "bd") => `(tactic| simp only [bodyF, List.length_cons, List.length_nil, if_true, List.replicate, List.cons_append, List.nil_append])
local macro_rules | `(tactic| walk_at "end") => `(tactic| simp [retOf_d, retOf_f, retOf_nx, outsOf, outAt, List.range, List.range.loop])
local macro_rules | `(tactic| walk_at "dl") => `(tactic| simp [bodyF, retOf_d, retOf_f, retOf_nx, outsOf, outAt, List.range, List.range.loop, dSeq, dSet, dVar, dBor, dC, dRet, dIfS, dNext, dTest, dOp, dUn, dCall, dCons, dNil, dCallF, callF, callD, callB, asDs, asD, retV, DL.cellOf, f1, gInt, gAbs, fII, gAdd, DL.gSub, gMul, gDiv, gMod, gPow, gLt, gLe, gGt, gGe, fNeg, fAddU, fMulU, isIntV, dIf, dAndV, dOrV, dNotV, dAndB, dOrB, dNotB, dIsi, isiB, dDrop, fIs, isNone, dLst, dTup, dNever, dAsg, aName, aTup, aCons, aNil, dTruth, fGcd, f2I, eqx_int, eqx_str, eqx_row, eqx_row0, szOk, dPar2X, dPar3X, ix_row, ix_pr0, ix_pr1, lenW_d, len_row, len_pr, truth_row, isTup_row, isTup_pr, at_zero, at_last])
local macro_rules | `(tactic| walk_at "dls") => `(tactic| simp [*, bodyF, retOf_d, retOf_f, retOf_nx, outsOf, outAt, List.range, List.range.loop, dSeq, dSet, dVar, dBor, dC, dRet, dIfS, dNext, dTest, dOp, dUn, dCall, dCons, dNil, dCallF, callF, callD, callB, asDs, asD, retV, DL.cellOf, f1, gInt, gAbs, fII, gAdd, DL.gSub, gMul, gDiv, gMod, gPow, gLt, gLe, gGt, gGe, fNeg, fAddU, fMulU, isIntV, dIf, dAndV, dOrV, dNotV, dAndB, dOrB, dNotB, dIsi, isiB, dDrop, fIs, isNone, dLst, dTup, dNever, dAsg, aName, aTup, aCons, aNil, dTruth, fGcd, f2I, eqx_int, eqx_str, eqx_row, eqx_row0, szOk, dPar2X, dPar3X, ix_row, ix_pr0, ix_pr1, lenW_d, len_row, len_pr, truth_row, isTup_row, isTup_pr, at_zero, at_last])

theorem odd (a b c : Int) (ha : SP a b) : ∃ x a' b' c', SP a' b' ∧ F_l_odd [spr a b c] = some (.d x, [spr a' b' c']) := by
  have t1 : ∃ L : List D, L.length = 17 ∧ dSet 1 (dLst (dCons (dC .none) (dCons (dC (.bool true)) (dCons (dC (.bool false)) (dCons (dC (.int 0)) (dCons (dC (.int 1)) (dCons (dUn fNeg (dC (.int 1))) (dCons (dOp (fII gPow) (dC (.int 10)) (dC (.int 40))) (dCons (dC (.str "")) (dCons (dC (.str "x")) (dCons (dC (.str "0 1")) (dCons (dTup dNil) (dCons (dTup (dCons (dC (.int 0)) dNil)) (dCons (dTup (dCons (dC (.int 0)) (dCons (dC (.int 1)) dNil))) (dCons (dTup (dCons (dC (.int 0)) (dCons (dC (.int 1)) (dCons (dC (.int 2)) dNil)))) (dCons (dTup (dCons (dTup (dCons (dC (.int 0)) (dCons (dC (.int 1)) dNil))) dNil)) (dCons (dLst dNil) (dCons (dLst (dCons (dC (.int 0)) (dCons (dC (.int 1)) dNil))) dNil)))))))))))))))))) [spr a b c, .un, .un] = some (.nx, [spr a b c, .o none (.l L), .un]) := ⟨_, rfl, rfl⟩
  obtain ⟨L, hL, t1⟩ := t1
  have t2 : ∃ M : List D, M.length = 10 ∧ dSet 2 (dLst (dCons (dLst (dCons (dTup (dCons (dC (.int 0)) (dCons (dC (.int 1)) dNil))) dNil)) (dCons dDNew (dCons (dDisp1 0 1) (dCons (dTup (dCons (dC .none) (dCons (dC (.int 1)) dNil))) (dCons (dTup (dCons (dC (.int 0)) (dCons (dC .none) dNil))) (dCons (dTup (dCons (dC (.str "0")) (dCons (dC (.str "1")) dNil))) (dCons (dTup (dCons (dTup (dCons (dC (.int 0)) (dCons (dC (.int 1)) dNil))) (dCons (dC (.int 1)) dNil))) (dCons (dTup (dCons (dC (.bool true)) (dCons (dC (.int 1)) dNil))) (dCons (dTup (dCons (dC (.int 0)) (dCons (dC (.bool true)) dNil))) (dCons (dTup (dCons (dC (.int 0)) (dCons (dC (.bool false)) dNil))) dNil))))))))))) [spr a b c, .o none (.l L), .un] = some (.nx, [spr a b c, .o none (.l L), .o none (.l M)]) := ⟨_, rfl, rfl⟩
  obtain ⟨M, hM, t2⟩ := t2
  obtain ⟨x, a1, b1, c1, s1, hx, e1⟩ := one_ofD a b c (L ++ M) ha (by rw [List.length_append]; omega) (by rw [List.length_append]; omega)
  refine ⟨x, a1, b1, c1, s1, ?_⟩
  have hz : szOk (L.length + M.length) = true := by rw [hL, hM]; decide
  unfold F_l_odd d_l_odd
  walk_at "bd"
  rw [dSeq, t1, Option.bind_some]
  show (dSeq _ _ _).bind _ = _
  rw [dSeq, t2, Option.bind_some]
  show (dRet _ _).bind _ = _
  simp [dRet, dCallF, dCons, dBor, dOp, fAddU, isIntV, isTupV, fCat, lstT, hz, dNil, callF, callB, asDs, asD, e1, retV, retOf_d, outsOf, outAt, List.range, List.range.loop]
theorem cutD_len (xs : List D) (l h : Option Int) : (cutD xs l h).length ≤ xs.length := by
  unfold cutD
  rw [List.length_take, List.length_drop]
  omega
theorem bent (a b c : Int) (ha : SP a b) (r : List (Int × Int)) (hl : r.length ≤ 402) : ∃ x a' b' c', SP a' b' ∧ F_l_bent [spr a b c, .d (rowD r)] = some (.d x, [spr a' b' c', .un]) := by
  unfold F_l_bent d_l_bent
  by_cases hr : r = []
  · subst hr
    obtain ⟨o, a1, b1, c1, s1, e1⟩ := odd a b c ha
    obtain ⟨x, a2, b2, c2, s2, hx, e2⟩ := one_ofD a1 b1 c1 [.tuple [], .list [], .tuple [o], .dict []] s1 (by simp) (by simp)
    refine ⟨x, a2, b2, c2, s2, ?_⟩
    have z0 : szOk 0 = true := by decide
    have z1 : szOk 1 = true := by decide
    have z4 : szOk 4 = true := by decide
    have hlen : ∀ env : En, gLen env (.d (rowD [])) = some (.int 0) := fun _ => rfl
    simp [bodyF, dSeq, dIfS, dTest, dOp, dCall, f1, dCons, dBor, dNil, lenW_d, hlen, dC, eqx_int, dRet, dCallF, dLst, dTup, dDNew, callF, callB, asDs, asD, e1, e2, z0, z1, z4, retV, retOf_d, outsOf, outAt, List.range, List.range.loop]
  have hpos : 0 < r.length := List.length_pos_iff.mpr hr
  obtain ⟨way, a1, b1, c1, s1, w0, w1, e1⟩ := draw a b c 9 ha (by decide) (by decide)
  obtain ⟨at_, a2, b2, c2, s2, at0, at1, e2⟩ := draw a1 b1 c1 r.length s1 (by omega) (by omega)
  have hne : ¬ (r.length : Int) = 0 := by omega
  have t0 : ∀ A : DS, dIfS (dTest (dOp (fEqX false) (dCall (f1 gLenW) (dCons (dBor 1) dNil)) (dC (.int 0)))) A dNext [spr a b c, .d (rowD r), .un, .un, .un, .un, .un] = some (.nx, [spr a b c, .d (rowD r), .un, .un, .un, .un, .un]) := fun A => by
    simp [dIfS, dTest, dOp, dCall, f1, dCons, dBor, dNil, lenW_d, len_row, dC, eqx_int, dNext]
    exact fun z => absurd z hr
  have t1 : dPar3X 2 3 4 (dCons (dCall (fList) (dCons (dBor 1) dNil)) (dCons (dCallF F_l_draw (dCons (dBor 0) (dCons (dC (.int 9)) dNil))) (dCons (dCallF F_l_draw (dCons (dBor 0) (dCons (dCall (f1 gLenW) (dCons (dBor 1) dNil)) dNil))) dNil))) [spr a b c, .d (rowD r), .un, .un, .un, .un, .un] = some (.nx, [spr a2 b2 c2, .d (rowD r), .o none (.l (r.map prD)), .d (.int way), .d (.int at_), .un, .un]) := by
    have hlist : ∀ env : En, fList [.d (rowD r)] env = some (.f (.l (r.map prD)), env) := fun _ => rfl
    simp [dPar3X, dCons, dCall, hlist, dBor, dNil, dCallF, dC, f1, lenW_d, len_row, callF, callB, asDs, asD, e1, e2, retV]
  have hi : at_.toNat < r.length := by omega
  have him : at_ < ((r.map prD).length : Int) := by rw [List.length_map]; omega
  have ixat : L2.atI (r.map prD) at_ = some (prD r[at_.toNat]) := by
    rw [atI_of at0 him, List.getElem?_map, List.getElem?_eq_getElem hi]
    rfl
  generalize r[at_.toNat] = p at ixat
  have ixl : ∃ q : Int × Int, L2.atI (r.map prD) (at_ - 1) = some (prD q) := by
    by_cases h0 : at_ = 0
    · subst h0
      have hg : (r.map prD).getLast? = some (prD (r.getLast hr)) := by
        rw [List.getLast?_map, List.getLast?_eq_getLast hr]
        rfl
      exact ⟨_, (at_last' (r.map prD)).trans hg⟩
    · have h1 : (at_ - 1).toNat < r.length := by omega
      refine ⟨r[(at_ - 1).toNat], ?_⟩
      rw [atI_of (by omega) (by rw [List.length_map]; omega), List.getElem?_map, List.getElem?_eq_getElem h1]
      rfl
  obtain ⟨q, ixl⟩ := ixl
  have ixN_ : L2.ixN (r.map prD).length at_ = some at_.toNat := ixN_of at0 him
  have t2 : dAsg (aTup 2 (aCons (aName 5) (aCons (aName 6) aNil))) (dOp fIx (dBor 2) (dVar 4)) [spr a2 b2 c2, .d (rowD r), .o none (.l (r.map prD)), .d (.int way), .d (.int at_), .un, .un] = some (.nx, [spr a2 b2 c2, .d (rowD r), .o none (.l (r.map prD)), .d (.int way), .d (.int at_), .d (.int p.1), .d (.int p.2)]) := by
    have eb : ∀ x y z u v l m : Cl, (aTup 2 (aCons (aName 5) (aCons (aName 6) aNil))) (prD p) [x, y, z, u, v, l, m] = some [x, y, z, u, v, .d (.int p.1), .d (.int p.2)] := fun _ _ _ _ _ _ _ => rfl
    simp [dAsg, dOp, dBor, dVar, fIx, tupOf, DL.listOf, ixat, asD, eb]
  have z2 : szOk 2 = true := by decide
  have z3 : szOk 3 = true := by decide
  have z1 : szOk 1 = true := by decide
  have hst : ∀ (a b c : Int) (d : D), (aSub 2 (dVar 4)) d [spr a b c, .d (rowD r), .o none (.l (r.map prD)), .d (.int way), .d (.int at_), .d (.int p.1), .d (.int p.2)] = some [spr a b c, .d (rowD r), .o none (.l ((r.map prD).set at_.toNat d)), .d (.int way), .d (.int at_), .d (.int p.1), .d (.int p.2)] := fun a b c d => by
    simp only [aSub, ownL, dVar, List.getElem?_cons_succ, List.getElem?_cons_zero, Option.bind_some, ixN_, Option.map_some]
    rfl
  have t3 : ∃ (L : List D) (a3 b3 c3 : Int), SP a3 b3 ∧ (dIfS (dTest (dOp (fEqX false) (dBor 3) (dC (.int 0)))) (dAsg (aSub 2 (dVar 4)) (dCallF F_l_odd (dCons (dBor 0) dNil))) (dIfS (dTest (dOp (fEqX false) (dBor 3) (dC (.int 1)))) (dAsg (aSub 2 (dVar 4)) (dTup (dCons (dVar 5) (dCons (dC (.int 0)) dNil)))) (dIfS (dTest (dOp (fEqX false) (dBor 3) (dC (.int 2)))) (dAsg (aSub 2 (dVar 4)) (dTup (dCons (dVar 5) (dCons (dC (.bool true)) dNil)))) (dIfS (dTest (dOp (fEqX false) (dBor 3) (dC (.int 3)))) (dAsg (aSub 2 (dVar 4)) (dTup (dCons (dVar 5) (dCons (dVar 6) (dCons (dC (.int 1)) dNil))))) (dIfS (dTest (dOp (fEqX false) (dBor 3) (dC (.int 4)))) (dAsg (aSub 2 (dVar 4)) (dLst (dCons (dVar 5) (dCons (dVar 6) dNil)))) (dIfS (dTest (dOp (fEqX false) (dBor 3) (dC (.int 5)))) (dSet 2 (dOp fAddU (dOp fAddU (dSl2 (dBor 2) dNoPart (dPart (dVar 4))) (dLst (dCons (dOp fIx (dBor 2) (dVar 4)) dNil))) (dSl2 (dBor 2) (dPart (dVar 4)) dNoPart))) (dIfS (dTest (dOp (fEqX false) (dBor 3) (dC (.int 6)))) (dAsg (aSub 2 (dVar 4)) (dTup (dCons (dOp fIx (dOp fIx (dBor 2) (dOp (fII DL.gSub) (dBor 4) (dC (.int 1)))) (dC (.int 0))) (dCons (dVar 6) dNil)))) (dIfS (dTest (dOp (fEqX false) (dBor 3) (dC (.int 7)))) (dAsg (aSub 2 (dVar 4)) (dTup (dCons (dOp (fII DL.gSub) (dOp fIx (dOp fIx (dBor 2) (dOp (fII DL.gSub) (dBor 4) (dC (.int 1)))) (dC (.int 0))) (dC (.int 1))) (dCons (dVar 6) dNil)))) dNext)))))))) [spr a2 b2 c2, .d (rowD r), .o none (.l (r.map prD)), .d (.int way), .d (.int at_), .d (.int p.1), .d (.int p.2)] = some (.nx, [spr a3 b3 c3, .d (rowD r), .o none (.l L), .d (.int way), .d (.int at_), .d (.int p.1), .d (.int p.2)]) := by
    have pick : ∀ (k : Int) (A B : DS) (env : En), env[3]? = some (.d (.int way)) → dIfS (dTest (dOp (fEqX false) (dBor 3) (dC (.int k)))) A B env = if way = k then A env else B env := fun k A B env he => by
      by_cases hk : way = k
      · subst hk
        simp [dIfS, dTest, dOp, dBor, he, dC, eqx_int]
      · simp [dIfS, dTest, dOp, dBor, he, dC, eqx_int, hk]
    simp only [pick _ _ _ _ (show ([spr a2 b2 c2, .d (rowD r), .o none (.l (r.map prD)), .d (.int way), .d (.int at_), .d (.int p.1), .d (.int p.2)] : En)[3]? = some (.d (.int way)) from rfl)]
    by_cases q0 : way = 0
    · rw [if_pos q0]
      obtain ⟨o, a3, b3, c3, s3, e3⟩ := odd a2 b2 c2 s2
      refine ⟨(r.map prD).set at_.toNat o, a3, b3, c3, s3, ?_⟩
      simp [dAsg, dCallF, dCons, dBor, dNil, callF, callB, asDs, e3, retV, asD, hst]
    rw [if_neg q0]
    by_cases q1 : way = 1
    · rw [if_pos q1]
      refine ⟨(r.map prD).set at_.toNat (.tuple [.int p.1, .int 0]), a2, b2, c2, s2, ?_⟩
      simp [dAsg, dTup, dCons, dVar, dC, dNil, asDs, asD, z2, hst]
    rw [if_neg q1]
    by_cases q2 : way = 2
    · rw [if_pos q2]
      refine ⟨(r.map prD).set at_.toNat (.tuple [.int p.1, .bool true]), a2, b2, c2, s2, ?_⟩
      simp [dAsg, dTup, dCons, dVar, dC, dNil, asDs, asD, z2, hst]
    rw [if_neg q2]
    by_cases q3 : way = 3
    · rw [if_pos q3]
      refine ⟨(r.map prD).set at_.toNat (.tuple [.int p.1, .int p.2, .int 1]), a2, b2, c2, s2, ?_⟩
      simp [dAsg, dTup, dCons, dVar, dC, dNil, asDs, asD, z3, hst]
    rw [if_neg q3]
    by_cases q4 : way = 4
    · rw [if_pos q4]
      refine ⟨(r.map prD).set at_.toNat (.list [.int p.1, .int p.2]), a2, b2, c2, s2, ?_⟩
      simp [dAsg, dLst, dCons, dVar, dC, dNil, asDs, asD, z2, hst]
    rw [if_neg q4]
    by_cases q5 : way = 5
    · rw [if_pos q5]
      have l1 := cutD_len (r.map prD) none (some at_)
      have l2 := cutD_len (r.map prD) (some at_) none
      rw [List.length_map] at l1 l2
      have h1 : szOk ((cutD (r.map prD) none (some at_)).length + 1) = true := by unfold szOk; rw [decide_eq_true_eq]; omega
      have h2 : szOk ((cutD (r.map prD) none (some at_)).length + 1 + (cutD (r.map prD) (some at_) none).length) = true := by unfold szOk; rw [decide_eq_true_eq]; omega
      refine ⟨cutD (r.map prD) none (some at_) ++ [prD p] ++ cutD (r.map prD) (some at_) none, a2, b2, c2, s2, ?_⟩
      generalize hA : cutD (r.map prD) none (some at_) = A at h1 h2
      generalize hB : cutD (r.map prD) (some at_) none = B at h2
      have x1 : dSl2 (dBor 2) dNoPart (dPart (dVar 4)) [spr a2 b2 c2, .d (rowD r), .o none (.l (r.map prD)), .d (.int way), .d (.int at_), .d (.int p.1), .d (.int p.2)] = some (.f (.l A), [spr a2 b2 c2, .d (rowD r), .o none (.l (r.map prD)), .d (.int way), .d (.int at_), .d (.int p.1), .d (.int p.2)]) := by
        simp [dSl2, dBor, dNoPart, dPart, dVar, fSl2, DL.listOf, hA]
      have x2 : dLst (dCons (dOp fIx (dBor 2) (dVar 4)) dNil) [spr a2 b2 c2, .d (rowD r), .o none (.l (r.map prD)), .d (.int way), .d (.int at_), .d (.int p.1), .d (.int p.2)] = some (.f (.l [prD p]), [spr a2 b2 c2, .d (rowD r), .o none (.l (r.map prD)), .d (.int way), .d (.int at_), .d (.int p.1), .d (.int p.2)]) := by
        simp [dLst, dCons, dOp, dBor, dVar, fIx, tupOf, DL.listOf, ixat, dNil, asDs, asD, z1]
      have x3 : dSl2 (dBor 2) (dPart (dVar 4)) dNoPart [spr a2 b2 c2, .d (rowD r), .o none (.l (r.map prD)), .d (.int way), .d (.int at_), .d (.int p.1), .d (.int p.2)] = some (.f (.l B), [spr a2 b2 c2, .d (rowD r), .o none (.l (r.map prD)), .d (.int way), .d (.int at_), .d (.int p.1), .d (.int p.2)]) := by
        simp [dSl2, dBor, dNoPart, dPart, dVar, fSl2, DL.listOf, hB]
      have hz1 : szOk (A.length + [prD p].length) = true := h1
      have hz2 : szOk ((A ++ [prD p]).length + B.length) = true := by rw [List.length_append]; exact h2
      have y1 : ∀ env : En, fAddU (.f (.l A)) (.f (.l [prD p])) env = some (.f (.l (A ++ [prD p])), env) := fun env => by
        simp only [fAddU, isIntV, isTupV, Bool.false_eq_true, if_false, fCat, lstT, Option.bind_some, hz1, if_true]
      have y2 : ∀ env : En, fAddU (.f (.l (A ++ [prD p]))) (.f (.l B)) env = some (.f (.l (A ++ [prD p] ++ B)), env) := fun env => by
        simp only [fAddU, isIntV, isTupV, Bool.false_eq_true, if_false, fCat, lstT, Option.bind_some, hz2, if_true]
      simp only [dSet, dOp, x1, x2, x3, y1, y2, Option.bind_some, DL.cellOf, Option.map_some]
      rfl
    rw [if_neg q5]
    by_cases q6 : way = 6
    · rw [if_pos q6]
      refine ⟨(r.map prD).set at_.toNat (.tuple [.int q.1, .int p.2]), a2, b2, c2, s2, ?_⟩
      have hq0 : ∀ env : En, fIx (.d (prD q)) (.d (.int 0)) env = some (.d (.int q.1), env) := fun _ => rfl
      have hq1 : ∀ env : En, DL.listOf env (.b 2) = some (r.map prD) → fIx (.b 2) (.d (.int (at_ - 1))) env = some (.d (prD q), env) := fun env he => by
        simp [fIx, tupOf, he, ixl]
      simp [dAsg, dTup, dCons, dOp, dBor, dC, fII, DL.gSub, hq1, DL.listOf, hq0, dVar, dNil, asDs, asD, z2, hst]
    rw [if_neg q6]
    by_cases q7 : way = 7
    · rw [if_pos q7]
      refine ⟨(r.map prD).set at_.toNat (.tuple [.int (q.1 - 1), .int p.2]), a2, b2, c2, s2, ?_⟩
      have hq0 : ∀ env : En, fIx (.d (prD q)) (.d (.int 0)) env = some (.d (.int q.1), env) := fun _ => rfl
      have hq1 : ∀ env : En, DL.listOf env (.b 2) = some (r.map prD) → fIx (.b 2) (.d (.int (at_ - 1))) env = some (.d (prD q), env) := fun env he => by
        simp [fIx, tupOf, he, ixl]
      simp [dAsg, dTup, dCons, dOp, dBor, dC, fII, DL.gSub, hq1, DL.listOf, hq0, dVar, dNil, asDs, asD, z2, hst]
    rw [if_neg q7]
    exact ⟨r.map prD, a2, b2, c2, s2, rfl⟩
  obtain ⟨L, a3, b3, c3, s3, t3⟩ := t3
  walk_at "bd"
  have fin : ∃ x : D, (dRet (dIf (dTest (dOp (fEqX false) (dBor 3) (dC (.int 8)))) (dVar 2) (dCall (fTuple) (dCons (dBor 2) dNil))) [spr a3 b3 c3, .d (rowD r), .o none (.l L), .d (.int way), .d (.int at_), .d (.int p.1), .d (.int p.2)]).bind (retOf 2) = some (.d x, [spr a3 b3 c3, .un]) := by
    by_cases h8 : way = 8
    · refine ⟨.list L, ?_⟩
      simp [dRet, dIf, dTest, dOp, dBor, dC, eqx_int, h8, dVar, retOf_d, outsOf, outAt, List.range, List.range.loop]
    · refine ⟨.tuple L, ?_⟩
      simp [dRet, dIf, dTest, dOp, dBor, dC, eqx_int, h8, dCall, dCons, dNil, fTuple, tupOf, DL.listOf, retOf_d, outsOf, outAt, List.range, List.range.loop]
  obtain ⟨x, fin⟩ := fin
  refine ⟨x, a3, b3, c3, s3, ?_⟩
  rw [dSeq, t0, Option.bind_some]
  show (dSeq _ _ _).bind _ = _
  rw [dSeq, t1, Option.bind_some]
  show (dSeq _ _ _).bind _ = _
  rw [dSeq, t2, Option.bind_some]
  show (dSeq _ _ _).bind _ = _
  rw [dSeq, t3, Option.bind_some]
  exact fin
end K02
end
section
set_option Elab.async false
set_option linter.all false
set_option maxRecDepth 100000
namespace K02
open PySem (PyData)
open DL
local macro_rules | `(tactic| walk_at "bd") => `(tactic| simp only [bodyF, List.length_cons, List.length_nil, if_true, List.replicate, List.cons_append, List.nil_append])
local macro_rules | `(tactic| walk_at "end") => `(tactic| simp [retOf_d, retOf_f, retOf_nx, outsOf, outAt, List.range, List.range.loop])
local macro_rules | `(tactic| walk_at "dl") => `(tactic| simp [bodyF, retOf_d, retOf_f, retOf_nx, outsOf, outAt, List.range, List.range.loop, dSeq, dSet, dVar, dBor, dC, dRet, dIfS, dNext, dTest, dOp, dUn, dCall, dCons, dNil, dCallF, callF, callD, callB, asDs, asD, retV, DL.cellOf, f1, gInt, gAbs, fII, gAdd, DL.gSub, gMul, gDiv, gMod, gPow, gLt, gLe, gGt, gGe, fNeg, fAddU, fMulU, isIntV, dIf, dAndV, dOrV, dNotV, dAndB, dOrB, dNotB, dIsi, isiB, dDrop, fIs, isNone, dLst, dTup, dNever, dAsg, aName, aTup, aCons, aNil, dTruth, fGcd, f2I, eqx_int, eqx_str, eqx_row, eqx_row0, szOk, dPar2X, dPar3X, ix_row, ix_pr0, ix_pr1, lenW_d, len_row, len_pr, truth_row, isTup_row, isTup_pr, at_zero, at_last])
local macro_rules | `(tactic| walk_at "dls") => `(tactic| simp [*, bodyF, retOf_d, retOf_f, retOf_nx, outsOf, outAt, List.range, List.range.loop, dSeq, dSet, dVar, dBor, dC, dRet, dIfS, dNext, dTest, dOp, dUn, dCall, dCons, dNil, dCallF, callF, callD, callB, asDs, asD, retV, DL.cellOf, f1, gInt, gAbs, fII, gAdd, DL.gSub, gMul, gDiv, gMod, gPow, gLt, gLe, gGt, gGe, fNeg, fAddU, fMulU, isIntV, dIf, dAndV, dOrV, dNotV, dAndB, dOrB, dNotB, dIsi, isiB, dDrop, fIs, isNone, dLst, dTup, dNever, dAsg, aName, aTup, aCons, aNil, dTruth, fGcd, f2I, eqx_int, eqx_str, eqx_row, eqx_row0, szOk, dPar2X, dPar3X, ix_row, ix_pr0, ix_pr1, lenW_d, len_row, len_pr, truth_row, isTup_row, isTup_pr, at_zero, at_last])

theorem dr0 {env : En} {a b c m r a' b' c' : Int} (h0 : env[0]? = some (spr a b c)) (e : F_l_draw [spr a b c, .d (.int m)] = some (.d (.int r), [spr a' b' c', .un])) :
    dCallF F_l_draw (dCons (dBor 0) (dCons (dC (.int m)) dNil)) env = some (.d (.int r), env.set 0 (spr a' b' c')) := by
  simp [dCallF, dCons, dBor, h0, dC, dNil, callF, callB, asDs, asD, e, retV]
theorem eq0 {env : En} {a b c m r a' b' c' k : Int} (h0 : env[0]? = some (spr a b c)) (e : F_l_draw [spr a b c, .d (.int m)] = some (.d (.int r), [spr a' b' c', .un])) :
    dTest (dOp (fEqX false) (dCallF F_l_draw (dCons (dBor 0) (dCons (dC (.int m)) dNil))) (dC (.int k))) env = some (decide (r = k), env.set 0 (spr a' b' c')) := by
  have := dr0 h0 e
  simp only [dTest, dOp, this, dC, Option.bind_some, eqx_int, Bool.bne_false]
theorem part4 (a5 b5 c5 many way p : Int) (r : List (Int × Int)) (c6 c7 : Cl) (s5 : SP a5 b5) (hl : r.length = many.toNat) (m0 : 0 ≤ many) (m1 : many ≤ 402) : ∃ (r' : List (Int × Int)) (a6 b6 c8 : Int) (c9 : Cl), SP a6 b6 ∧ r'.length ≤ 402 ∧ (dIfS (dAndB (dTest (dOp (fII gGt) (dBor 1) (dC (.int 0)))) (dTest (dOp (fEqX false) (dCallF F_l_draw (dCons (dBor 0) (dCons (dC (.int 3)) dNil))) (dC (.int 0))))) (dSeq (dSet 7 (dCallF F_l_draw (dCons (dBor 0) (dCons (dVar 1) dNil)))) (dAsg (aSub 4 (dVar 7)) (dTup (dCons (dOp fIx (dOp fIx (dBor 4) (dVar 7)) (dC (.int 0))) (dCons (dCallF F_l_one_of (dCons (dBor 0) (dCons (dLst (dCons (dUn fNeg (dC (.int 1))) (dCons (dC (.int 2)) (dCons (dC (.int 1)) dNil)))) dNil))) dNil))))) dNext [spr a5 b5 c5, .d (.int many), .d (.int way), .d (.int p), .o none (.l (r.map prD)), c6, c7, .un]) = some (.nx, [spr a6 b6 c8, .d (.int many), .d (.int way), .d (.int p), .o none (.l (r'.map prD)), c6, c7, c9]) := by
  by_cases hm : 0 < many
  · obtain ⟨h, a6, b6, c8, s6, h0, h1, e6⟩ := draw a5 b5 c5 3 s5 (by decide) (by decide)
    have v0 : dAndB (dTest (dOp (fII gGt) (dBor 1) (dC (.int 0)))) (dTest (dOp (fEqX false) (dCallF F_l_draw (dCons (dBor 0) (dCons (dC (.int 3)) dNil))) (dC (.int 0)))) [spr a5 b5 c5, .d (.int many), .d (.int way), .d (.int p), .o none (.l (r.map prD)), c6, c7, .un] = some (decide (h = 0), [spr a6 b6 c8, .d (.int many), .d (.int way), .d (.int p), .o none (.l (r.map prD)), c6, c7, .un]) := by
      have x1 : dTest (dOp (fII gGt) (dBor 1) (dC (.int 0))) [spr a5 b5 c5, .d (.int many), .d (.int way), .d (.int p), .o none (.l (r.map prD)), c6, c7, .un] = some (true, [spr a5 b5 c5, .d (.int many), .d (.int way), .d (.int p), .o none (.l (r.map prD)), c6, c7, .un]) := by
        show some (decide (0 < many), _) = _
        rw [decide_eq_true hm]
      simp only [dAndB, x1, Option.bind_some, if_true]
      exact eq0 rfl e6
    by_cases hh : h = 0
    · subst hh
      obtain ⟨at_, a7, b7, c9, s7, at0, at1, e7⟩ := draw a6 b6 c8 many s6 (by omega) (by omega)
      obtain ⟨k, a8, b8, c10, s8, hk, e8⟩ := one_of a7 b7 c9 [-1, 2, 1] s7 (by decide) (by decide)
      have hi : at_.toNat < r.length := by omega
      have him : at_ < ((r.map prD).length : Int) := by rw [List.length_map]; omega
      have ixat : L2.atI (r.map prD) at_ = some (prD r[at_.toNat]) := by
        rw [atI_of at0 him, List.getElem?_map, List.getElem?_eq_getElem hi]
        rfl
      generalize r[at_.toNat] = q at ixat
      have ixN_ : L2.ixN (r.map prD).length at_ = some at_.toNat := ixN_of at0 him
      simp only [List.map_cons, List.map_nil] at e8
      have z2 : szOk 2 = true := by decide
      have z3 : szOk 3 = true := by decide
      refine ⟨r.set at_.toNat (q.1, k), a8, b8, c10, .d (.int at_), s8, by rw [List.length_set]; omega, ?_⟩
      have v1 : dSet 7 (dCallF F_l_draw (dCons (dBor 0) (dCons (dVar 1) dNil))) [spr a6 b6 c8, .d (.int many), .d (.int way), .d (.int p), .o none (.l (r.map prD)), c6, c7, .un] = some (.nx, [spr a7 b7 c9, .d (.int many), .d (.int way), .d (.int p), .o none (.l (r.map prD)), c6, c7, .d (.int at_)]) := by
        simp [dSet, dCallF, dCons, dBor, dVar, dNil, callF, callB, asDs, asD, e7, retV, DL.cellOf]
      have hset : (r.map prD).set at_.toNat (prD (q.1, k)) = (r.set at_.toNat (q.1, k)).map prD := (List.map_set).symm
      have x3 : dTup (dCons (dOp fIx (dOp fIx (dBor 4) (dVar 7)) (dC (.int 0))) (dCons (dCallF F_l_one_of (dCons (dBor 0) (dCons (dLst (dCons (dUn fNeg (dC (.int 1))) (dCons (dC (.int 2)) (dCons (dC (.int 1)) dNil)))) dNil))) dNil)) [spr a7 b7 c9, .d (.int many), .d (.int way), .d (.int p), .o none (.l (r.map prD)), c6, c7, .d (.int at_)] = some (.d (prD (q.1, k)), [spr a8 b8 c10, .d (.int many), .d (.int way), .d (.int p), .o none (.l (r.map prD)), c6, c7, .d (.int at_)]) := by
        have y1 : dOp fIx (dOp fIx (dBor 4) (dVar 7)) (dC (.int 0)) [spr a7 b7 c9, .d (.int many), .d (.int way), .d (.int p), .o none (.l (r.map prD)), c6, c7, .d (.int at_)] = some (.d (.int q.1), [spr a7 b7 c9, .d (.int many), .d (.int way), .d (.int p), .o none (.l (r.map prD)), c6, c7, .d (.int at_)]) := by
          have hq0 : ∀ env : En, fIx (.d (prD q)) (.d (.int 0)) env = some (.d (.int q.1), env) := fun _ => rfl
          have hq1 : ∀ env : En, DL.listOf env (.b 4) = some (r.map prD) → fIx (.b 4) (.d (.int at_)) env = some (.d (prD q), env) := fun env he => by
            simp [fIx, tupOf, he, ixat]
          simp [dOp, dBor, dVar, hq1, DL.listOf, dC, hq0]
        have y2 : dCallF F_l_one_of (dCons (dBor 0) (dCons (dLst (dCons (dUn fNeg (dC (.int 1))) (dCons (dC (.int 2)) (dCons (dC (.int 1)) dNil)))) dNil)) [spr a7 b7 c9, .d (.int many), .d (.int way), .d (.int p), .o none (.l (r.map prD)), c6, c7, .d (.int at_)] = some (.d (.int k), [spr a8 b8 c10, .d (.int many), .d (.int way), .d (.int p), .o none (.l (r.map prD)), c6, c7, .d (.int at_)]) := by
          simp [dCallF, dCons, dBor, dLst, dUn, fNeg, dC, dNil, asDs, asD, z3, callF, callB, e8, retV]
        simp only [dTup, dCons, y1, y2, dNil, Option.bind_some, Option.map_some, asDs, asD]
        rfl
      rw [dIfS, v0, Option.bind_some]
      show (dSeq _ _ _) = _
      rw [dSeq, v1, Option.bind_some]
      show (dAsg _ _ _) = _
      rw [dAsg, x3, Option.bind_some]
      show (Option.bind _ _) = _
      simp only [asD, Option.bind_some, aSub, ownL, dVar, List.getElem?_cons_succ, List.getElem?_cons_zero, ixN_, Option.map_some, hset]
      rfl
    · refine ⟨r, a6, b6, c8, .un, s6, by omega, ?_⟩
      rw [dIfS, v0, Option.bind_some, decide_eq_false hh]
      rfl
  · refine ⟨r, a5, b5, c5, .un, s5, by omega, ?_⟩
    have v0 : ∀ B : DB, dAndB (dTest (dOp (fII gGt) (dBor 1) (dC (.int 0)))) B [spr a5 b5 c5, .d (.int many), .d (.int way), .d (.int p), .o none (.l (r.map prD)), c6, c7, .un] = some (false, [spr a5 b5 c5, .d (.int many), .d (.int way), .d (.int p), .o none (.l (r.map prD)), c6, c7, .un]) := fun B => by
      have x1 : dTest (dOp (fII gGt) (dBor 1) (dC (.int 0))) [spr a5 b5 c5, .d (.int many), .d (.int way), .d (.int p), .o none (.l (r.map prD)), c6, c7, .un] = some (false, [spr a5 b5 c5, .d (.int many), .d (.int way), .d (.int p), .o none (.l (r.map prD)), c6, c7, .un]) := by
        show some (decide (0 < many), _) = _
        rw [decide_eq_false hm]
      simp only [dAndB, x1, Option.bind_some, Bool.false_eq_true, if_false]
    rw [dIfS, v0, Option.bind_some]
    rfl
theorem part5 (a6 b6 c8 many way p : Int) (r' : List (Int × Int)) (c6 c7 c9 : Cl) (s6 : SP a6 b6) (hl' : r'.length ≤ 402) : ∃ x a' b' c', SP a' b' ∧ (dRet (dIf (dTest (dOp (fEqX false) (dCallF F_l_draw (dCons (dBor 0) (dCons (dC (.int 2)) dNil))) (dC (.int 0)))) (dCallF F_l_bent (dCons (dBor 0) (dCons (dCall (fTuple) (dCons (dBor 4) dNil)) dNil))) (dCall (fTuple) (dCons (dBor 4) dNil))) [spr a6 b6 c8, .d (.int many), .d (.int way), .d (.int p), .o none (.l (r'.map prD)), c6, c7, c9]).bind (retOf 1) = some (.d x, [spr a' b' c']) := by
  obtain ⟨h, a7, b7, c10, s7, h0, h1, e7⟩ := draw a6 b6 c8 2 s6 (by decide) (by decide)
  have v0 := eq0 (env := [spr a6 b6 c8, .d (.int many), .d (.int way), .d (.int p), .o none (.l (r'.map prD)), c6, c7, c9]) (k := 0) rfl e7
  have v1 : dCall (fTuple) (dCons (dBor 4) dNil) [spr a7 b7 c10, .d (.int many), .d (.int way), .d (.int p), .o none (.l (r'.map prD)), c6, c7, c9] = some (.d (rowD r'), [spr a7 b7 c10, .d (.int many), .d (.int way), .d (.int p), .o none (.l (r'.map prD)), c6, c7, c9]) := rfl
  by_cases hh : h = 0
  · obtain ⟨x, a8, b8, c11, s8, e8⟩ := bent a7 b7 c10 s7 r' hl'
    refine ⟨x, a8, b8, c11, s8, ?_⟩
    have v2 : dCallF F_l_bent (dCons (dBor 0) (dCons (dCall (fTuple) (dCons (dBor 4) dNil)) dNil)) [spr a7 b7 c10, .d (.int many), .d (.int way), .d (.int p), .o none (.l (r'.map prD)), c6, c7, c9] = some (.d x, [spr a8 b8 c11, .d (.int many), .d (.int way), .d (.int p), .o none (.l (r'.map prD)), c6, c7, c9]) := by
      have v3 : dCons (dCall (fTuple) (dCons (dBor 4) dNil)) dNil [spr a7 b7 c10, .d (.int many), .d (.int way), .d (.int p), .o none (.l (r'.map prD)), c6, c7, c9] = some ([.d (rowD r')], [spr a7 b7 c10, .d (.int many), .d (.int way), .d (.int p), .o none (.l (r'.map prD)), c6, c7, c9]) := rfl
      have v4 : dBor 0 [spr a7 b7 c10, .d (.int many), .d (.int way), .d (.int p), .o none (.l (r'.map prD)), c6, c7, c9] = some (.b 0, [spr a7 b7 c10, .d (.int many), .d (.int way), .d (.int p), .o none (.l (r'.map prD)), c6, c7, c9]) := rfl
      rw [dCallF, dCons, v4, Option.bind_some, v3, Option.map_some, Option.bind_some]
      simp only [callF, callB, List.getElem?_cons_zero, asDs, asD, Option.bind_some, Option.map_some, List.map_cons, List.map_nil, e8]
      rfl
    rw [dRet, dIf, v0, decide_eq_true hh, Option.bind_some]
    show ((dCallF F_l_bent _ _).map _).bind _ = _
    rw [show ([spr a6 b6 c8, .d (.int many), .d (.int way), .d (.int p), .o none (.l (r'.map prD)), c6, c7, c9] : En).set 0 (spr a7 b7 c10) = [spr a7 b7 c10, .d (.int many), .d (.int way), .d (.int p), .o none (.l (r'.map prD)), c6, c7, c9] from rfl, v2]
    rfl
  · refine ⟨rowD r', a7, b7, c10, s7, ?_⟩
    rw [dRet, dIf, v0, decide_eq_false hh, Option.bind_some]
    rfl
set_option maxHeartbeats 2000000 in
theorem thing (a b c : Int) (ha : SP a b) : ∃ x a' b' c', SP a' b' ∧ F_l_thing [spr a b c] = some (.d x, [spr a' b' c']) := by
  unfold F_l_thing d_l_thing
  obtain ⟨g, a1, b1, c1, s1, g0, g1, e1⟩ := draw a b c 6 ha (by decide) (by decide)
  by_cases hg : g = 0
  · subst hg
    obtain ⟨x, a2, b2, c2, s2, e2⟩ := odd a1 b1 c1 s1
    refine ⟨x, a2, b2, c2, s2, ?_⟩
    walk_at "dls"
  have t0 : dIfS (dTest (dOp (fEqX false) (dCallF F_l_draw (dCons (dBor 0) (dCons (dC (.int 6)) dNil))) (dC (.int 0)))) (dRet (dCallF F_l_odd (dCons (dBor 0) dNil))) dNext [spr a b c, .un, .un, .un, .un, .un, .un, .un] = some (.nx, [spr a1 b1 c1, .un, .un, .un, .un, .un, .un, .un]) := by
    simp [dIfS, dTest, dOp, dCallF, dCons, dBor, dC, dNil, callF, callB, asDs, asD, e1, retV, eqx_int, hg, dNext]
  have t1 : ∃ many a2 b2 c2, SP a2 b2 ∧ 0 ≤ many ∧ many ≤ 402 ∧ dSet 1 (dIf (dTest (dOp (fEqX false) (dCallF F_l_draw (dCons (dBor 0) (dCons (dC (.int 12)) dNil))) (dC (.int 0)))) (dOp fAddU (dC (.int 398)) (dCallF F_l_draw (dCons (dBor 0) (dCons (dC (.int 5)) dNil)))) (dCallF F_l_draw (dCons (dBor 0) (dCons (dC (.int 8)) dNil)))) [spr a1 b1 c1, .un, .un, .un, .un, .un, .un, .un] = some (.nx, [spr a2 b2 c2, .d (.int many), .un, .un, .un, .un, .un, .un]) := by
    obtain ⟨h, a2, b2, c2, s2, h0, h1, e2⟩ := draw a1 b1 c1 12 s1 (by decide) (by decide)
    by_cases hh : h = 0
    · subst hh
      obtain ⟨k, a3, b3, c3, s3, k0, k1, e3⟩ := draw a2 b2 c2 5 s2 (by decide) (by decide)
      refine ⟨398 + k, a3, b3, c3, s3, by omega, by omega, ?_⟩
      simp [dSet, dIf, dTest, dOp, dCallF, dCons, dBor, dC, dNil, callF, callB, asDs, asD, e2, e3, retV, eqx_int, fAddU, isIntV, fII, gAdd, DL.cellOf]
    · obtain ⟨k, a3, b3, c3, s3, k0, k1, e3⟩ := draw a2 b2 c2 8 s2 (by decide) (by decide)
      refine ⟨k, a3, b3, c3, s3, by omega, by omega, ?_⟩
      simp [dSet, dIf, dTest, dOp, dCallF, dCons, dBor, dC, dNil, callF, callB, asDs, asD, e2, e3, hh, retV, eqx_int, DL.cellOf]
  obtain ⟨many, a2, b2, c2, s2, m0, m1, t1⟩ := t1
  obtain ⟨way, a3, b3, c3, s3, w0, w1, e3⟩ := draw a2 b2 c2 3 s2 (by decide) (by decide)
  obtain ⟨p0, a4, b4, c4, s4, hp0, e4⟩ := number a3 b3 c3 6 s3 (by decide) (by decide)
  have t2 : dPar3X 2 3 4 (dCons (dCallF F_l_draw (dCons (dBor 0) (dCons (dC (.int 3)) dNil))) (dCons (dCallF F_l_number (dCons (dBor 0) (dCons (dC (.int 6)) dNil))) (dCons (dLst dNil) dNil))) [spr a2 b2 c2, .d (.int many), .un, .un, .un, .un, .un, .un] = some (.nx, [spr a4 b4 c4, .d (.int many), .d (.int way), .d (.int p0), .o none (.l []), .un, .un, .un]) := by
    have z0 : szOk 0 = true := by decide
    simp [dPar3X, dCons, dCallF, dBor, dC, dLst, dNil, callF, callB, asDs, asD, e3, e4, z0, retV]
  have hb : b62 many = true := by unfold b62; simp; omega
  obtain ⟨env', ⟨r, a5, b5, c5, p, c6, c7, s5, rfl, hlen⟩, hloop⟩ := dLoop_at (asg := aName 5) (body := (dSeq (dSet 6 (dIf (dTest (dOp (fII gLt) (dBor 2) (dC (.int 2)))) (dCallF F_l_weight (dCons (dBor 0) (dCons (dC (.int 5)) dNil))) (dC (.int 1)))) (dSeq (dApp 4 (dTup (dCons (dVar 3) (dCons (dIf (dTest (dOp (fEqX false) (dBor 2) (dC (.int 0)))) (dVar 6) (dCall (f1 gAbs) (dCons (dVar 6) dNil))) dNil)))) (dSet 3 (dOp fAddU (dOp fAddU (dBor 3) (dC (.int 1))) (dCallF F_l_draw (dCons (dBor 0) (dCons (dC (.int 4)) dNil))))))))
    (rngD 0 many.toNat) (fun k env => ∃ (r : List (Int × Int)) (a b c p : Int) (c6 c7 : Cl), SP a b ∧ env = [spr a b c, .d (.int many), .d (.int way), .d (.int p), .o none (.l (r.map prD)), c6, c7, .un] ∧ r.length = k) (fun k d env ⟨r, a, b, c, p, c6, c7, sp, he, hlen⟩ hd => by
      subst he
      obtain ⟨hk, rfl⟩ := rngD_get hd
      have u1 : ∃ w a6 b6 c8, SP a6 b6 ∧ dSet 6 (dIf (dTest (dOp (fII gLt) (dBor 2) (dC (.int 2)))) (dCallF F_l_weight (dCons (dBor 0) (dCons (dC (.int 5)) dNil))) (dC (.int 1))) [spr a b c, .d (.int many), .d (.int way), .d (.int p), .o none (.l (r.map prD)), .d (.int (0 + (k : Int))), c7, .un] = some (.nx, [spr a6 b6 c8, .d (.int many), .d (.int way), .d (.int p), .o none (.l (r.map prD)), .d (.int (0 + (k : Int))), .d (.int w), .un]) := by
        by_cases hw : way < 2
        · obtain ⟨w, a6, b6, c8, s6, hw', hw0, e6⟩ := weight a b c 5 sp (by decide) (by decide)
          refine ⟨w, a6, b6, c8, s6, ?_⟩
          simp [dSet, dIf, dTest, dOp, dBor, dC, fII, gLt, hw, dCallF, dCons, dNil, callF, callB, asDs, asD, e6, retV, DL.cellOf]
        · refine ⟨1, a, b, c, sp, ?_⟩
          simp [dSet, dIf, dTest, dOp, dBor, dC, fII, gLt, hw, DL.cellOf]
      obtain ⟨w, a6, b6, c8, s6, u1⟩ := u1
      obtain ⟨g, a7, b7, c9, s7, g0, g1, e7⟩ := draw a6 b6 c8 4 s6 (by decide) (by decide)
      have hz : szOk (r.length + 1) = true := by unfold szOk; rw [decide_eq_true_eq]; omega
      have z2 : szOk 2 = true := by decide
      have u2 : ∃ w' : Int, dApp 4 (dTup (dCons (dVar 3) (dCons (dIf (dTest (dOp (fEqX false) (dBor 2) (dC (.int 0)))) (dVar 6) (dCall (f1 gAbs) (dCons (dVar 6) dNil))) dNil))) [spr a6 b6 c8, .d (.int many), .d (.int way), .d (.int p), .o none (.l (r.map prD)), .d (.int (0 + (k : Int))), .d (.int w), .un] = some (.nx, [spr a6 b6 c8, .d (.int many), .d (.int way), .d (.int p), .o none (.l ((r ++ [(p, w')]).map prD)), .d (.int (0 + (k : Int))), .d (.int w), .un]) := by
        by_cases hw : way = 0
        · refine ⟨w, ?_⟩
          simp [dApp, ownL, dTup, dCons, dVar, dIf, dTest, dOp, dBor, dC, eqx_int, hw, dNil, asDs, asD, z2, hz, prD]
        · refine ⟨if w < 0 then -w else w, ?_⟩
          simp [dApp, ownL, dTup, dCons, dVar, dIf, dTest, dOp, dBor, dC, eqx_int, hw, dCall, f1, gAbs, dNil, asDs, asD, z2, hz, prD]
      obtain ⟨w', u2⟩ := u2
      have u3 : dSet 3 (dOp fAddU (dOp fAddU (dBor 3) (dC (.int 1))) (dCallF F_l_draw (dCons (dBor 0) (dCons (dC (.int 4)) dNil)))) [spr a6 b6 c8, .d (.int many), .d (.int way), .d (.int p), .o none (.l ((r ++ [(p, w')]).map prD)), .d (.int (0 + (k : Int))), .d (.int w), .un] = some (.nx, [spr a7 b7 c9, .d (.int many), .d (.int way), .d (.int (p + 1 + g)), .o none (.l ((r ++ [(p, w')]).map prD)), .d (.int (0 + (k : Int))), .d (.int w), .un]) := by
        simp [dSet, dOp, dBor, dC, fAddU, isIntV, fII, gAdd, dCallF, dCons, dVar, dNil, callF, callB, asDs, asD, e7, retV, DL.cellOf]
      refine ⟨_, ?_, r ++ [(p, w')], a7, b7, c9, p + 1 + g, .d (.int (0 + (k : Int))), .d (.int w), s7, rfl, by simp [hlen]⟩
      show (dSeq _ _ _) = _
      have ha' : ∀ x y z v o q t n : Cl, [x, y, z, v, o, q, t, n].set 5 (.d (.int (0 + (k : Int)))) = [x, y, z, v, o, .d (.int (0 + (k : Int))), t, n] := fun _ _ _ _ _ _ _ _ => rfl
      rw [ha', dSeq, u1, Option.bind_some]
      show (dSeq _ _ _) = _
      rw [dSeq, u2, Option.bind_some]
      exact u3) 0 [spr a4 b4 c4, .d (.int many), .d (.int way), .d (.int p0), .o none (.l []), .un, .un, .un] (Nat.zero_le _) ⟨[], a4, b4, c4, p0, .un, .un, s4, rfl, rfl⟩
  rw [List.drop_zero] at hloop
  rw [rngD_len] at hlen
  have t3 : dRng1 (dCons (dVar 1) dNil) [spr a4 b4 c4, .d (.int many), .d (.int way), .d (.int p0), .o none (.l []), .un, .un, .un] = some (rngD 0 many.toNat, [spr a4 b4 c4, .d (.int many), .d (.int way), .d (.int p0), .o none (.l []), .un, .un, .un]) := by
    simp [dRng1, dCons, dVar, dNil, hb]
  have t4 : ∃ (r' : List (Int × Int)) (a6 b6 c8 : Int) (c9 : Cl), SP a6 b6 ∧ r'.length ≤ 402 ∧ dIfS (dAndB (dTest (dOp (fII gGt) (dBor 1) (dC (.int 0)))) (dTest (dOp (fEqX false) (dCallF F_l_draw (dCons (dBor 0) (dCons (dC (.int 3)) dNil))) (dC (.int 0))))) (dSeq (dSet 7 (dCallF F_l_draw (dCons (dBor 0) (dCons (dVar 1) dNil)))) (dAsg (aSub 4 (dVar 7)) (dTup (dCons (dOp fIx (dOp fIx (dBor 4) (dVar 7)) (dC (.int 0))) (dCons (dCallF F_l_one_of (dCons (dBor 0) (dCons (dLst (dCons (dUn fNeg (dC (.int 1))) (dCons (dC (.int 2)) (dCons (dC (.int 1)) dNil)))) dNil))) dNil))))) dNext [spr a5 b5 c5, .d (.int many), .d (.int way), .d (.int p), .o none (.l (r.map prD)), c6, c7, .un] = some (.nx, [spr a6 b6 c8, .d (.int many), .d (.int way), .d (.int p), .o none (.l (r'.map prD)), c6, c7, c9]) := by
    exact part4 a5 b5 c5 many way p r c6 c7 s5 (by omega) m0 m1
  obtain ⟨r', a6, b6, c8, c9, s6, hl', t4⟩ := t4
  have fin : ∃ x a' b' c', SP a' b' ∧ (dRet (dIf (dTest (dOp (fEqX false) (dCallF F_l_draw (dCons (dBor 0) (dCons (dC (.int 2)) dNil))) (dC (.int 0)))) (dCallF F_l_bent (dCons (dBor 0) (dCons (dCall (fTuple) (dCons (dBor 4) dNil)) dNil))) (dCall (fTuple) (dCons (dBor 4) dNil))) [spr a6 b6 c8, .d (.int many), .d (.int way), .d (.int p), .o none (.l (r'.map prD)), c6, c7, c9]).bind (retOf 1) = some (.d x, [spr a' b' c']) := by
    exact part5 a6 b6 c8 many way p r' c6 c7 c9 s6 hl'
  obtain ⟨x, a', b', c', sp, fin⟩ := fin
  refine ⟨x, a', b', c', sp, ?_⟩
  walk_at "bd"
  rw [dSeq, t0, Option.bind_some]
  show (dSeq _ _ _).bind _ = _
  rw [dSeq, t1, Option.bind_some]
  show (dSeq _ _ _).bind _ = _
  rw [dSeq, t2, Option.bind_some]
  show (dSeq _ _ _).bind _ = _
  rw [dSeq, dFor_eq, t3, Option.bind_some]
  show (Option.bind (dLoop _ _ (rngD 0 many.toNat) _) _).bind _ = _
  rw [hloop, Option.bind_some]
  show (dSeq _ _ _).bind _ = _
  rw [dSeq, t4, Option.bind_some]
  exact fin
end K02
end
section
set_option Elab.async false
set_option linter.all false
set_option maxRecDepth 100000
namespace K02
open PySem (PyData)
open DL
local macro_rules | `(tactic| walk_at "bd") => `(tactic| simp only [bodyF, List.length_cons, List.length_nil, if_true, List.replicate, List.cons_append, List.nil_append])
local macro_rules | `(tactic| walk_at "end") => `(tactic| simp [retOf_d, retOf_f, retOf_nx, outsOf, outAt, List.range, List.range.loop])
local macro_rules | `(tactic| walk_at "dl") => `(tactic| simp [bodyF, retOf_d, retOf_f, retOf_nx, outsOf, outAt, List.range, List.range.loop, dSeq, dSet, dVar, dBor, dC, dRet, dIfS, dNext, dTest, dOp, dUn, dCall, dCons, dNil, dCallF, callF, callD, callB, asDs, asD, retV, DL.cellOf, f1, gInt, gAbs, fII, gAdd, DL.gSub, gMul, gDiv, gMod, gPow, gLt, gLe, gGt, gGe, fNeg, fAddU, fMulU, isIntV, dIf, dAndV, dOrV, dNotV, dAndB, dOrB, dNotB, dIsi, isiB, dDrop, fIs, isNone, dLst, dTup, dNever, dAsg, aName, aTup, aCons, aNil, dTruth, fGcd, f2I, eqx_int, eqx_str, eqx_row, eqx_row0, szOk, dPar2X, dPar3X, ix_row, ix_pr0, ix_pr1, lenW_d, len_row, len_pr, truth_row, isTup_row, isTup_pr, at_zero, at_last])
local macro_rules | `(tactic| walk_at "dls") => `(tactic| simp [*, bodyF, retOf_d, retOf_f, retOf_nx, outsOf, outAt, List.range, List.range.loop, dSeq, dSet, dVar, dBor, dC, dRet, dIfS, dNext, dTest, dOp, dUn, dCall, dCons, dNil, dCallF, callF, callD, callB, asDs, asD, retV, DL.cellOf, f1, gInt, gAbs, fII, gAdd, DL.gSub, gMul, gDiv, gMod, gPow, gLt, gLe, gGt, gGe, fNeg, fAddU, fMulU, isIntV, dIf, dAndV, dOrV, dNotV, dAndB, dOrB, dNotB, dIsi, isiB, dDrop, fIs, isNone, dLst, dTup, dNever, dAsg, aName, aTup, aCons, aNil, dTruth, fGcd, f2I, eqx_int, eqx_str, eqx_row, eqx_row0, szOk, dPar2X, dPar3X, ix_row, ix_pr0, ix_pr1, lenW_d, len_row, len_pr, truth_row, isTup_row, isTup_pr, at_zero, at_last])

theorem showB3 (x y z : Bool) : showOk (.list [.bool x, .bool y, .bool z]) = true := showOk_of rfl rfl (by simp [PyData.depth, PyData.depthAll]) (by simp [wt, wtAll])
theorem strOk_of (s : String) : PyData.strOk (PySem.Str.ofString s) = true := by
  unfold PyData.strOk
  rw [PySem.Str.ofString_eq_toList]
  simp
  intro c hc
  have := c.valid
  have h2 : c.toNat < 1114112 := by
    rcases this with h | ⟨_, h⟩
    · exact Nat.lt_trans h (by decide)
    · exact h
  exact h2
theorem eq_fault (l : List D) (env : En) (h : l = [] ∨ ∃ a b : String, l = [.str (PySem.Str.ofString a), .str (PySem.Str.ofString b)]) : fEqX false (.f (.l l)) (.f (.l [])) env = some (.d (.bool (decide (l = []))), env) := by
  rcases h with rfl | ⟨a, b, rfl⟩
  · have : eqD (.list []) (.list []) = some true := by
      have := eqD_lst [] []
      simpa using this
    simp [fEqX, isStrV, fEqU, datOf, this]
  · have : eqD (.list [.str (PySem.Str.ofString a), .str (PySem.Str.ofString b)]) (.list []) = some false := by
      unfold eqD PySem.SeqAt.shaped
      simp [PyData.canLay0, PyData.canLayAll0, PyData.depth, PyData.depthAll, PyData.eqv, PyData.eqvAll, strOk_of]
    simp [fEqX, isStrV, fEqU, datOf, this]
theorem mn_pos {ws : List Int} {m : Int} (h : mnI (ws ++ [1]) = some m) : decide (0 < m) = ws.all fun w => decide (0 < w) := by
  obtain ⟨h1, h2⟩ := mnI_spec h
  rw [Bool.eq_iff_iff, decide_eq_true_eq, List.all_eq_true]
  constructor
  · intro hm w hw
    have := h2 w (by simp [hw])
    exact decide_eq_true (by omega)
  · intro ha
    rcases List.mem_append.mp h1 with z | z
    · exact of_decide_eq_true (ha m z)
    · rw [List.mem_singleton.mp z]; decide
theorem mn_mx {ws : List Int} {m n : Int} (h : mnI (ws ++ [1]) = some m) (h' : mxI (ws ++ [1]) = some n) : (decide (m = n) && decide (n = 1)) = ws.all fun w => decide (w = 1) := by
  obtain ⟨h1, h2⟩ := mnI_spec h
  obtain ⟨h3, h4⟩ := mxI_spec h'
  rw [Bool.eq_iff_iff, Bool.and_eq_true, decide_eq_true_eq, decide_eq_true_eq, List.all_eq_true]
  constructor
  · rintro ⟨e1, e2⟩ w hw
    have a1 := h2 w (by simp [hw])
    have a2 := h4 w (by simp [hw])
    exact decide_eq_true (by omega)
  · intro ha
    have all1 : ∀ w ∈ ws ++ [1], w = 1 := fun w hw => by
      rcases List.mem_append.mp hw with z | z
      · exact of_decide_eq_true (ha w z)
      · exact List.mem_singleton.mp z
    have := all1 m h1
    have := all1 n h3
    omega
theorem mn_some (ws : List Int) : ∃ m, mnI (ws ++ [1]) = some m := by
  cases e : mnI (ws ++ [1]) with
  | none => exact absurd (mnI_none e) (by simp)
  | some m => exact ⟨m, rfl⟩
theorem mx_some (ws : List Int) : ∃ m, mxI (ws ++ [1]) = some m := by
  cases e : mxI (ws ++ [1]) with
  | none => exact absurd (mxI_none e) (by simp)
  | some m => exact ⟨m, rfl⟩
/-- the end of the look: due is told -/
theorem ending (a b c : Int) (x : D) (ws : Cl) (p q s : Bool) (e1 : F_is_row [.d x] = some (.d (.bool p), [.un])) (e2 : F_is_heap [.d x] = some (.d (.bool q), [.un])) (e3 : F_is_plain [.d x] = some (.d (.bool s), [.un])) (c5 c6 : Cl) :
    ((dSeq (dIfS (dTest (dOp (fEqX true) (dCall (f1 gReprW) (dCons (dLst (dCons (dCallF F_is_row (dCons (dVar 1) dNil)) (dCons (dCallF F_is_heap (dCons (dVar 1) dNil)) (dCons (dCallF F_is_plain (dCons (dVar 1) dNil)) dNil)))) dNil)) (dCall (f1 gReprW) (dCons (dVar 4) dNil)))) (dRet (dC (.bool false))) dNext) (dRet (dOp (fEqX false) (dCall (f1 gReprW) (dCons (dLst (dCons (dCallK F_is_row 0 1 [0] dNil (dCons (dVar 1) dNil)) (dCons (dCallK F_is_heap 0 1 [0] dNil (dCons (dVar 1) dNil)) (dCons (dCallK F_is_plain 0 1 [0] dNil (dCons (dVar 1) dNil)) dNil)))) dNil)) (dCall (f1 gReprW) (dCons (dVar 4) dNil))))) [spr a b c, .d x, .d (.bool p), ws, .o none (.l [.bool p, .bool q, .bool s]), c5, c6]).bind (retOf 1) = some (.d (.bool true), [spr a b c]) := by
  have z3 : szOk 3 = true := by decide
  have sh := showB3 p q s
  have r1 : ∀ env : En, gReprW env (.d (.list [.bool p, .bool q, .bool s])) = some (.str (PyData.list [.bool p, .bool q, .bool s]).shown) := fun env => by
    show gRepr env _ = _
    simp [gRepr, asD, sh]
  have r2 : ∀ env : En, gReprW env (.f (.l [.bool p, .bool q, .bool s])) = some (.str (PyData.list [.bool p, .bool q, .bool s]).shown) := fun env => by
    show gRepr env _ = _
    simp [gRepr, asD, sh]
  have x1 : ∀ (w : Cl), dLst (dCons (dCallF F_is_row (dCons (dVar 1) dNil)) (dCons (dCallF F_is_heap (dCons (dVar 1) dNil)) (dCons (dCallF F_is_plain (dCons (dVar 1) dNil)) dNil))) [spr a b c, .d x, .d (.bool p), ws, w, c5, c6] = some (.f (.l [.bool p, .bool q, .bool s]), [spr a b c, .d x, .d (.bool p), ws, w, c5, c6]) := fun w => by
    simp [dLst, dCons, dCallF, dVar, dNil, callF, callD, asDs, asD, e1, e2, e3, retV, z3]
  have x2 : ∀ (w : Cl), dLst (dCons (dCallK F_is_row 0 1 [0] dNil (dCons (dVar 1) dNil)) (dCons (dCallK F_is_heap 0 1 [0] dNil (dCons (dVar 1) dNil)) (dCons (dCallK F_is_plain 0 1 [0] dNil (dCons (dVar 1) dNil)) dNil))) [spr a b c, .d x, .d (.bool p), ws, w, c5, c6] = some (.f (.l [.bool p, .bool q, .bool s]), [spr a b c, .d x, .d (.bool p), ws, w, c5, c6]) := fun w => by
    simp [dLst, dCons, dCallK, permV, dVar, dNil, callF, callD, asDs, asD, e1, e2, e3, retV, z3]
  have t1 : dIfS (dTest (dOp (fEqX true) (dCall (f1 gReprW) (dCons (dLst (dCons (dCallF F_is_row (dCons (dVar 1) dNil)) (dCons (dCallF F_is_heap (dCons (dVar 1) dNil)) (dCons (dCallF F_is_plain (dCons (dVar 1) dNil)) dNil)))) dNil)) (dCall (f1 gReprW) (dCons (dVar 4) dNil)))) (dRet (dC (.bool false))) dNext [spr a b c, .d x, .d (.bool p), ws, .o none (.l [.bool p, .bool q, .bool s]), c5, c6] = some (.nx, [spr a b c, .d x, .d (.bool p), ws, .d (.list [.bool p, .bool q, .bool s]), c5, c6]) := by
    simp only [dIfS, dTest, dOp, dCall, dCons, x1, dNil, Option.bind_some, Option.map_some, f1, r2]
    simp [dVar, r1, eqx_str, dNext]
  rw [dSeq, t1, Option.bind_some]
  show (dRet _ _).bind _ = _
  have t2 : dOp (fEqX false) (dCall (f1 gReprW) (dCons (dLst (dCons (dCallK F_is_row 0 1 [0] dNil (dCons (dVar 1) dNil)) (dCons (dCallK F_is_heap 0 1 [0] dNil (dCons (dVar 1) dNil)) (dCons (dCallK F_is_plain 0 1 [0] dNil (dCons (dVar 1) dNil)) dNil)))) dNil)) (dCall (f1 gReprW) (dCons (dVar 4) dNil)) [spr a b c, .d x, .d (.bool p), ws, .d (.list [.bool p, .bool q, .bool s]), c5, c6] = some (.d (.bool true), [spr a b c, .d x, .d (.bool p), ws, .d (.list [.bool p, .bool q, .bool s]), c5, c6]) := by
    simp only [dOp, dCall, dCons, x2, dNil, Option.bind_some, Option.map_some, f1, r2]
    simp [dVar, r1, eqx_str]
  rw [dRet, t2]
  rfl
theorem right (a b c : Int) (ha : SP a b) : ∃ outs, F_l_right [spr a b c] = some (.d (.bool true), outs) := by
  obtain ⟨x, a1, b1, c1, s1, e1⟩ := thing a b c ha
  have z0 : szOk 0 = true := by decide
  have z1 : szOk 1 = true := by decide
  have z3 : szOk 3 = true := by decide
  have t1 : dSet 1 (dCallF F_l_thing (dCons (dBor 0) dNil)) [spr a b c, .un, .un, .un, .un, .un, .un] = some (.nx, [spr a1 b1 c1, .d x, .un, .un, .un, .un, .un]) := by
    simp [dSet, dCallF, dCons, dBor, dNil, callF, callB, asDs, e1, retV, DL.cellOf]
  obtain ⟨l, e2, hl⟩ := fault_eq x
  have hdec : decide (l = []) = isRow x := by
    rcases hl with ⟨h1, h2⟩ | ⟨h1, y, z, h2⟩
    · rw [h1, h2]; rfl
    · rw [h1, h2]; rfl
  have hq := eq_fault l
  rw [hdec] at hq
  have t2 : dSet 2 (dOp (fEqX false) (dCallF F_l_fault (dCons (dVar 1) dNil)) (dLst dNil)) [spr a1 b1 c1, .d x, .un, .un, .un, .un, .un] = some (.nx, [spr a1 b1 c1, .d x, .d (.bool (isRow x)), .un, .un, .un, .un]) := by
    have hq' := fun env => hq env (by
      rcases hl with ⟨_, h2⟩ | ⟨_, y, z, h2⟩
      · exact .inl h2
      · exact .inr ⟨y, z, h2⟩)
    simp [dSet, dOp, dCallF, dCons, dVar, dNil, callF, callD, asDs, asD, e2, retV, dLst, z0, hq', DL.cellOf]
  have e3 := is_row_eq x
  refine ⟨[spr a1 b1 c1], ?_⟩
  unfold F_l_right d_l_right
  walk_at "bd"
  rw [dSeq, t1, Option.bind_some]
  show (dSeq _ _ _).bind _ = _
  rw [dSeq, t2, Option.bind_some]
  show (dSeq _ _ _).bind _ = _
  cases hx : isRow x with
  | false =>
    rw [hx] at e3
    have e4 := is_heap_no hx
    have e5 := is_plain_no hx
    have t3 : ∀ A : DE, dSet 3 (dIf (dTruth (dVar 2)) A (dLst dNil)) [spr a1 b1 c1, .d x, .d (.bool false), .un, .un, .un, .un] = some (.nx, [spr a1 b1 c1, .d x, .d (.bool false), .o none (.l []), .un, .un, .un]) := fun A => by
      simp [dSet, dIf, dTruth, dVar, truth, dLst, dNil, asDs, z0, DL.cellOf]
    have t4 : ∀ A B : DE, dSet 4 (dLst (dCons (dVar 2) (dCons (dAndV (dVar 2) A) (dCons (dAndV (dVar 2) B) dNil)))) [spr a1 b1 c1, .d x, .d (.bool false), .o none (.l []), .un, .un, .un] = some (.nx, [spr a1 b1 c1, .d x, .d (.bool false), .o none (.l []), .o none (.l [.bool false, .bool false, .bool false]), .un, .un]) := fun A B => by
      simp [dSet, dLst, dCons, dVar, dAndV, dNil, asDs, asD, z3, DL.cellOf]
    rw [dSeq, t3, Option.bind_some]
    show (dSeq _ _ _).bind _ = _
    rw [dSeq, t4, Option.bind_some]
    exact ending a1 b1 c1 x _ false false false e3 e4 e5 .un .un
  | true =>
    obtain ⟨r, rfl, hlen⟩ := isRow_row hx
    rw [hx] at e3
    have e4 := is_heap_yes hx hlen
    have e5 := is_plain_yes hx hlen
    obtain ⟨m, hm⟩ := mn_some (r.map Prod.snd)
    obtain ⟨n, hn⟩ := mx_some (r.map Prod.snd)
    have g1 := mn_pos hm
    have g2 := mn_mx hm hn
    rw [List.all_map] at g1 g2
    have ew := lc_map r prD (fun p => [spr a1 b1 c1, .d (rowD r), .d (.bool true), .un, .un, .d (.int p.1), .d (.int p.2)]) (fun p => .int p.2) (it := dIter (dVar 1)) (vs := [5, 6]) (asg := aTup 2 (aCons (aName 5) (aCons (aName 6) aNil))) (elt := dVar 6) (env := [spr a1 b1 c1, .d (rowD r), .d (.bool true), .un, .un, .un, .un])
      rfl rfl (fun _ => rfl) (fun _ _ => rfl) (fun p _ => ⟨_, rfl, rfl⟩) (fun _ => rfl) rfl (by omega)
    have hw : (r.map fun p => PyData.int p.2) = (r.map Prod.snd).map PyData.int := by rw [List.map_map]; rfl
    rw [hw] at ew
    have hwl : (r.map Prod.snd).length ≤ 400 := by rw [List.length_map]; exact hlen
    generalize r.map Prod.snd = ws at hm hn ew hwl
    have t3 : dSet 3 (dIf (dTruth (dVar 2)) (dLc (dIter (dVar 1)) [5, 6] (aTup 2 (aCons (aName 5) (aCons (aName 6) aNil))) dYes (dVar 6)) (dLst dNil)) [spr a1 b1 c1, .d (rowD r), .d (.bool true), .un, .un, .un, .un] = some (.nx, [spr a1 b1 c1, .d (rowD r), .d (.bool true), .o none (.l (ws.map PyData.int)), .un, .un, .un]) := by
      have : dTruth (dVar 2) [spr a1 b1 c1, .d (rowD r), .d (.bool true), .un, .un, .un, .un] = some (true, [spr a1 b1 c1, .d (rowD r), .d (.bool true), .un, .un, .un, .un]) := rfl
      simp only [dSet, dIf, this, Option.bind_some, if_true, ew, DL.cellOf, Option.map_some]
      rfl
    have hz : szOk ((ws.map PyData.int).length + 1) = true := by unfold szOk; rw [decide_eq_true_eq, List.length_map]; omega
    have cat : ∀ w c5 c6 : Cl, dOp fAddU (dBor 3) (dLst (dCons (dC (.int 1)) dNil)) [spr a1 b1 c1, .d (rowD r), .d (.bool true), .o none (.l (ws.map PyData.int)), w, c5, c6] = some (.f (.l ((ws ++ [1]).map PyData.int)), [spr a1 b1 c1, .d (rowD r), .d (.bool true), .o none (.l (ws.map PyData.int)), w, c5, c6]) := fun w c5 c6 => by
      have : dLst (dCons (dC (.int 1)) dNil) [spr a1 b1 c1, .d (rowD r), .d (.bool true), .o none (.l (ws.map PyData.int)), w, c5, c6] = some (.f (.l [.int 1]), [spr a1 b1 c1, .d (rowD r), .d (.bool true), .o none (.l (ws.map PyData.int)), w, c5, c6]) := rfl
      have b3 : dBor 3 [spr a1 b1 c1, .d (rowD r), .d (.bool true), .o none (.l (ws.map PyData.int)), w, c5, c6] = some (.b 3, [spr a1 b1 c1, .d (rowD r), .d (.bool true), .o none (.l (ws.map PyData.int)), w, c5, c6]) := rfl
      have hz' : szOk ((ws.map PyData.int).length + [PyData.int 1].length) = true := hz
      simp only [dOp, b3, this, Option.bind_some, fAddU, isIntV, isTupV, Bool.false_eq_true, if_false, fCat, lstT, List.getElem?_cons_succ, List.getElem?_cons_zero, hz', if_true, List.map_append, List.map_cons, List.map_nil]
    have vmin : ∀ w c5 c6 : Cl, (dCall (f1 gMinL) (dCons (dOp fAddU (dBor 3) (dLst (dCons (dC (.int 1)) dNil))) dNil)) [spr a1 b1 c1, .d (rowD r), .d (.bool true), .o none (.l (ws.map PyData.int)), w, c5, c6] = some (.d (.int m), [spr a1 b1 c1, .d (rowD r), .d (.bool true), .o none (.l (ws.map PyData.int)), w, c5, c6]) := fun w c5 c6 => by
      simp only [dCall, dCons, cat, dNil, Option.bind_some, Option.map_some, f1, gMinL, DL.listOf, intsOf_map, hm]
    have vmax : ∀ w c5 c6 : Cl, (dCall (f1 gMaxL) (dCons (dOp fAddU (dBor 3) (dLst (dCons (dC (.int 1)) dNil))) dNil)) [spr a1 b1 c1, .d (rowD r), .d (.bool true), .o none (.l (ws.map PyData.int)), w, c5, c6] = some (.d (.int n), [spr a1 b1 c1, .d (rowD r), .d (.bool true), .o none (.l (ws.map PyData.int)), w, c5, c6]) := fun w c5 c6 => by
      simp only [dCall, dCons, cat, dNil, Option.bind_some, Option.map_some, f1, gMaxL, DL.listOf, intsOf_map, hn]
    have t4 : dSet 4 (dLst (dCons (dVar 2) (dCons (dAndV (dVar 2) (dOp (fII gGt) (dCall (f1 gMinL) (dCons (dOp fAddU (dBor 3) (dLst (dCons (dC (.int 1)) dNil))) dNil)) (dC (.int 0)))) (dCons (dAndV (dVar 2) (dChain (fEqX false) (fEqX false) (dCall (f1 gMinL) (dCons (dOp fAddU (dBor 3) (dLst (dCons (dC (.int 1)) dNil))) dNil)) (dCall (f1 gMaxL) (dCons (dOp fAddU (dBor 3) (dLst (dCons (dC (.int 1)) dNil))) dNil)) (dC (.int 1)))) dNil)))) [spr a1 b1 c1, .d (rowD r), .d (.bool true), .o none (.l (ws.map PyData.int)), .un, .un, .un] = some (.nx, [spr a1 b1 c1, .d (rowD r), .d (.bool true), .o none (.l (ws.map PyData.int)), .o none (.l [.bool true, .bool (r.all fun p => decide (0 < p.2)), .bool (r.all fun p => decide (p.2 = 1))]), .un, .un]) := by
      have b2 : dVar 2 [spr a1 b1 c1, .d (rowD r), .d (.bool true), .o none (.l (ws.map PyData.int)), .un, .un, .un] = some (.d (.bool true), [spr a1 b1 c1, .d (rowD r), .d (.bool true), .o none (.l (ws.map PyData.int)), .un, .un, .un]) := rfl
      have y1 : dOp (fII gGt) (dCall (f1 gMinL) (dCons (dOp fAddU (dBor 3) (dLst (dCons (dC (.int 1)) dNil))) dNil)) (dC (.int 0)) [spr a1 b1 c1, .d (rowD r), .d (.bool true), .o none (.l (ws.map PyData.int)), .un, .un, .un] = some (.d (.bool (decide (0 < m))), [spr a1 b1 c1, .d (rowD r), .d (.bool true), .o none (.l (ws.map PyData.int)), .un, .un, .un]) := by
        simp only [dOp, vmin, dC, Option.bind_some, fII, gGt, Option.map_some]
      have y2 : dChain (fEqX false) (fEqX false) (dCall (f1 gMinL) (dCons (dOp fAddU (dBor 3) (dLst (dCons (dC (.int 1)) dNil))) dNil)) (dCall (f1 gMaxL) (dCons (dOp fAddU (dBor 3) (dLst (dCons (dC (.int 1)) dNil))) dNil)) (dC (.int 1)) [spr a1 b1 c1, .d (rowD r), .d (.bool true), .o none (.l (ws.map PyData.int)), .un, .un, .un] = some (.d (.bool (decide (m = n) && decide (n = 1))), [spr a1 b1 c1, .d (rowD r), .d (.bool true), .o none (.l (ws.map PyData.int)), .un, .un, .un]) := by
        simp only [dChain, vmin, vmax, Option.bind_some, eqx_int, Bool.bne_false]
        by_cases hmn : m = n
        · simp [hmn, dC, eqx_int]
        · simp [hmn]
      have g1' : decide (0 < m) = r.all fun p => decide (0 < p.2) := g1
      have g2' : (decide (m = n) && decide (n = 1)) = r.all fun p => decide (p.2 = 1) := g2
      rw [g1'] at y1
      rw [g2'] at y2
      simp only [dSet, dLst, dCons, b2, dAndV, y1, y2, dNil, Option.bind_some, Option.map_some, if_true, asDs, asD, List.length_cons, List.length_nil, z3, DL.cellOf]
      rfl
    rw [dSeq, t3, Option.bind_some]
    show (dSeq _ _ _).bind _ = _
    rw [dSeq, t4, Option.bind_some]
    exact ending a1 b1 c1 (rowD r) _ true _ _ e3 e4 e5 .un .un
end K02
end
section
set_option Elab.async false
set_option linter.all false
set_option maxRecDepth 100000
namespace K02
open PySem (PyData)
open DL
local macro_rules | `(tactic| walk_at "bd") => `(tactic| simp only [bodyF, List.length_cons, List.length_nil, if_true, List.replicate, List.cons_append, List.nil_append])
local macro_rules | `(tactic| walk_at "end") => `(tactic| simp [retOf_d, retOf_f, retOf_nx, outsOf, outAt, List.range, List.range.loop])
local macro_rules | `(tactic| walk_at "dl") => `(tactic| simp [bodyF, retOf_d, retOf_f, retOf_nx, outsOf, outAt, List.range, List.range.loop, dSeq, dSet, dVar, dBor, dC, dRet, dIfS, dNext, dTest, dOp, dUn, dCall, dCons, dNil, dCallF, callF, callD, callB, asDs, asD, retV, DL.cellOf, f1, gInt, gAbs, fII, gAdd, DL.gSub, gMul, gDiv, gMod, gPow, gLt, gLe, gGt, gGe, fNeg, fAddU, fMulU, isIntV, dIf, dAndV, dOrV, dNotV, dAndB, dOrB, dNotB, dIsi, isiB, dDrop, fIs, isNone, dLst, dTup, dNever, dAsg, aName, aTup, aCons, aNil, dTruth, fGcd, f2I, eqx_int, eqx_str, eqx_row, eqx_row0, szOk, dPar2X, dPar3X, ix_row, ix_pr0, ix_pr1, lenW_d, len_row, len_pr, truth_row, isTup_row, isTup_pr, at_zero, at_last])
local macro_rules | `(tactic| walk_at "dls") => `(tactic| simp [*, bodyF, retOf_d, retOf_f, retOf_nx, outsOf, outAt, List.range, List.range.loop, dSeq, dSet, dVar, dBor, dC, dRet, dIfS, dNext, dTest, dOp, dUn, dCall, dCons, dNil, dCallF, callF, callD, callB, asDs, asD, retV, DL.cellOf, f1, gInt, gAbs, fII, gAdd, DL.gSub, gMul, gDiv, gMod, gPow, gLt, gLe, gGt, gGe, fNeg, fAddU, fMulU, isIntV, dIf, dAndV, dOrV, dNotV, dAndB, dOrB, dNotB, dIsi, isiB, dDrop, fIs, isNone, dLst, dTup, dNever, dAsg, aName, aTup, aCons, aNil, dTruth, fGcd, f2I, eqx_int, eqx_str, eqx_row, eqx_row0, szOk, dPar2X, dPar3X, ix_row, ix_pr0, ix_pr1, lenW_d, len_row, len_pr, truth_row, isTup_row, isTup_pr, at_zero, at_last])
theorem abs_nat (a : Int) : (if a < 0 then -a else a) = ((a.natAbs : Nat) : Int) := by
  split <;> omega
theorem enum_ints (ms : List Int) (k : Nat) (d : D) (h : (enumD (ms.map PyData.int))[k]? = some d) : ∃ v : Int, d = .tuple [.int (k : Int), .int v] := by
  obtain ⟨y, hy, rfl⟩ := enumD_get h
  rw [List.getElem?_map] at hy
  obtain ⟨v, _, rfl⟩ := Option.map_eq_some_iff.mp hy
  exact ⟨v, rfl⟩
theorem spring_eq (ns : List Int) (t : Int) (ht : 0 ≤ t) : ∃ a b, SP a b ∧ F_l_spring [.d (.list (ns.map PyData.int)), .d (.int t)] = some (.f (.l [.int a, .int b, .int 0]), [.un, .un]) := by
  have m1 : ∀ x : Int, mulOk x 48271 = true := fun x => mulOk_r (by decide)
  have m2 : ∀ x : Int, mulOk 5099 x = true := fun x => mulOk_l (by decide)
  have m3 : ∀ x : Int, mulOk x 30269 = true := fun x => mulOk_r (by decide)
  have m4 : ∀ x y : Int, mulOk (x.fmod 998244353) y = true := fun x y => mulOk_l (by
    obtain ⟨h1, h2⟩ := fmod_pos (i := x) (m := 998244353) (by decide)
    omega)
  have z3 : szOk 3 = true := by decide
  have cut63 : ∃ ms : List Int, cutD (ns.map PyData.int) none (some 63) = ms.map PyData.int := ⟨ns.take (min 63 ns.length), by
    unfold cutD
    rw [show (some (63 : Int)) = some ((63 : Nat) : Int) from rfl, HT.sIx_nat, HT.sIx_none, List.drop_zero, List.map_take, List.length_map, Nat.sub_zero]⟩
  obtain ⟨ms, ec⟩ := cut63
  obtain ⟨env', ⟨m, c3, c4, rfl⟩, hl⟩ := dLoop_at (asg := aTup 2 (aCons (aName 3) (aCons (aName 4) aNil))) (body := (dSet 2 (dOp (fII gMod) (dCall (f1 gInt) (dCons (dOp fAddU (dOp fAddU (dOp fMulU (dBor 2) (dC (.int 48271))) (dOp fMulU (dOp (fII gMod) (dCall (f1 gInt) (dCons (dVar 4) dNil)) (dC (.int 998244353))) (dOp fAddU (dBor 3) (dC (.int 5))))) (dC (.int 7))) dNil)) (dC (.int 2147483579)))))
    (enumD (ms.map PyData.int)) (fun k env => ∃ (m : Int) (c3 c4 : Cl), env = [.d (.list (ns.map PyData.int)), .d (.int t), .d (.int m), c3, c4, .un, .un]) (fun k d env ⟨m, c3, c4, he⟩ hd => by
      subst he
      obtain ⟨v, rfl⟩ := enum_ints ms k d hd
      refine ⟨[.d (.list (ns.map PyData.int)), .d (.int t), .d (.int ((m * 48271 + v.fmod 998244353 * ((k : Int) + 5) + 7).fmod 2147483579)), .d (.int k), .d (.int v), .un, .un], by
        simp [aTup, aCons, aNil, aName, dSet, dOp, dCall, dCons, dNil, dBor, dVar, dC, fMulU, fAddU, isIntV, fII, gMul, gMod, gAdd, f1, gInt, m1, m4, DL.cellOf], _, _, _, rfl⟩) 0 [.d (.list (ns.map PyData.int)), .d (.int t), .d (.int (86311 + 5099 * t)), .un, .un, .un, .un] (Nat.zero_le _) ⟨_, _, _, rfl⟩
  rw [List.drop_zero] at hl
  have t1 : dSet 2 (dOp fAddU (dC (.int 86311)) (dOp fMulU (dC (.int 5099)) (dBor 1))) [.d (.list (ns.map PyData.int)), .d (.int t), .un, .un, .un, .un, .un] = some (.nx, [.d (.list (ns.map PyData.int)), .d (.int t), .d (.int (86311 + 5099 * t)), .un, .un, .un, .un]) := by
    simp [dSet, dOp, fAddU, fMulU, dC, dBor, isIntV, fII, gMul, gAdd, m2, DL.cellOf]
  have t2 : dEnum (dCons (dSl2 (dBor 0) dNoPart (dPart (dC (.int 63)))) dNil) [.d (.list (ns.map PyData.int)), .d (.int t), .d (.int (86311 + 5099 * t)), .un, .un, .un, .un] = some (enumD (ms.map PyData.int), [.d (.list (ns.map PyData.int)), .d (.int t), .d (.int (86311 + 5099 * t)), .un, .un, .un, .un]) := by
    simp [dEnum, dCons, dNil, dSl2, dBor, dNoPart, dPart, dC, fSl2, DL.listOf, ec, walkD]
  have here : ∃ h : Int, dSet 5 (dIf (dTest (dOp (fII gLt) (dBor 1) (dCall (f1 gLenW) (dCons (dBor 0) dNil)))) (dCall (f1 gInt) (dCons (dOp fIx (dBor 0) (dVar 1)) dNil)) (dC (.int 0))) [.d (.list (ns.map PyData.int)), .d (.int t), .d (.int m), c3, c4, .un, .un] = some (.nx, [.d (.list (ns.map PyData.int)), .d (.int t), .d (.int m), c3, c4, .d (.int h), .un]) := by
    by_cases hl : t < ns.length
    · have hk : t.toNat < ns.length := by omega
      refine ⟨ns[t.toNat], ?_⟩
      simp [dSet, dIf, dTest, dOp, dBor, dCall, dCons, dNil, f1, lenW_d, gLen, tupOf, DL.listOf, fII, gLt, hl, fIx, dVar, atI_map, atI_of ht hl, List.getElem?_eq_getElem hk, gInt, DL.cellOf]
    · refine ⟨0, ?_⟩
      simp [dSet, dIf, dTest, dOp, dBor, dCall, dCons, dNil, f1, lenW_d, gLen, tupOf, DL.listOf, fII, gLt, hl, dC, DL.cellOf]
  obtain ⟨h, t5⟩ := here
  have hab : ∃ a : Int, 0 ≤ a ∧ dSet 6 (dIf (dTest (dOp (fII gGe) (dCall (f1 gAbs) (dCons (dVar 5) dNil)) (dOp (fII gPow) (dC (.int 10)) (dC (.int 18))))) (dCall (f1 gAbs) (dCons (dVar 5) dNil)) (dC (.int 0))) [.d (.list (ns.map PyData.int)), .d (.int t), .d (.int m), c3, c4, .d (.int h), .un] = some (.nx, [.d (.list (ns.map PyData.int)), .d (.int t), .d (.int m), c3, c4, .d (.int h), .d (.int a)]) := by
    by_cases h1 : (1000000000000000000 : Int) ≤ ((h.natAbs : Nat) : Int)
    · refine ⟨h.natAbs, by omega, ?_⟩
      simp [dSet, dIf, dTest, dOp, dC, fII, gGe, gPow, dCall, dCons, dVar, dNil, f1, gAbs, abs_nat, DL.cellOf, h1]
    · refine ⟨0, by omega, ?_⟩
      simp [dSet, dIf, dTest, dOp, dC, fII, gGe, gPow, dCall, dCons, dVar, dNil, f1, gAbs, abs_nat, DL.cellOf, h1]
  obtain ⟨a, ha, t6⟩ := hab
  refine ⟨a, (m * 30269 + h.fmod 998244353 + 11).fmod 2147483579, ⟨ha, fmod_pos (by decide)⟩, ?_⟩
  unfold F_l_spring d_l_spring
  walk_at "bd"
  rw [dSeq, t1, Option.bind_some]
  show (dSeq _ _ _).bind _ = _
  rw [dSeq, dFor_eq, t2, Option.bind_some]
  show (Option.bind (dLoop _ _ (enumD (ms.map PyData.int)) _) _).bind _ = _
  rw [hl, Option.bind_some]
  show (dSeq _ _ _).bind _ = _
  rw [dSeq, t5, Option.bind_some]
  show (dSeq _ _ _).bind _ = _
  rw [dSeq, t6, Option.bind_some]
  show (dRet _ _).bind _ = _
  simp [dRet, dLst, dCons, dVar, dOp, dCall, dBor, dC, dNil, fMulU, fAddU, isIntV, fII, gMul, gMod, gAdd, f1, gInt, m3, asDs, asD, z3, retOf_f, outsOf, outAt, List.range, List.range.loop]

theorem bools_rep (k : Nat) : boolsOf (List.replicate k (PyData.bool true)) = some (List.replicate k true) := by
  induction k with
  | zero => rfl
  | succ k ih =>
    rw [List.replicate_succ, List.replicate_succ]
    show (boolsOf (List.replicate k (PyData.bool true))).map _ = _
    rw [ih]
    rfl
theorem law_true (ns : List Int) (hl : ns.length ≤ 63) (hbits : ∀ z ∈ ns, PySem.Builtin.Int.intBits z ≤ 1048576) : ∃ outs, F_law [.d (.list (ns.map PyData.int))] = some (.d (.bool true), outs) := by
  have hm : ∃ m : Int, 0 ≤ m ∧ m ≤ 8 ∧ dRng1 (dCons (dCall (fMaxU) (dCons (dC (.int 2)) (dCons (dCall (fMinU) (dCons (dCall (f1 gLenW) (dCons (dBor 0) dNil)) (dCons (dC (.int 8)) dNil))) dNil))) dNil) [.d (.list (ns.map PyData.int)), .un] = some (rngD 0 m.toNat, [.d (.list (ns.map PyData.int)), .un]) := by
    refine ⟨if (if (8 : Int) < ns.length then 8 else (ns.length : Int)) > 2 then (if (8 : Int) < ns.length then 8 else (ns.length : Int)) else 2, ?_, ?_, ?_⟩
    · (repeat' split) <;> omega
    · (repeat' split) <;> omega
    · have hb : b62 (if (if (8 : Int) < ns.length then 8 else (ns.length : Int)) > 2 then (if (8 : Int) < ns.length then 8 else (ns.length : Int)) else 2) = true := by
        unfold b62
        rw [decide_eq_true_eq]
        (repeat' split) <;> omega
      simp [dRng1, dCons, dCall, fMaxU, fMinU, f2I, dC, dBor, dNil, f1, lenW_d, gLen, tupOf, DL.listOf]
      simpa using hb
  obtain ⟨m, m0, m6, em⟩ := hm
  obtain ⟨out, env', ⟨c', rfl, rfl⟩, he⟩ := lcLoop_at (vs := [1]) (asg := aName 1) (tests := dYes) (elt := dCallO F_l_right (dCons (dCallF F_l_spring (dCons (dVar 0) (dCons (dVar 1) dNil))) dNil)) (rngD 0 m.toNat)
    (fun k acc env => ∃ c, env = [.d (.list (ns.map PyData.int)), c] ∧ acc = List.replicate k (PyData.bool true)) (fun k d acc env ⟨c, h1, h2⟩ hd => by
      subst h1 h2
      obtain ⟨hk, rfl⟩ := rngD_get hd
      have ec : (0 : Int) + k = k := by omega
      rw [ec]
      obtain ⟨a, b, ha, e1⟩ := spring_eq ns k (by omega)
      obtain ⟨outs, e2⟩ := right a b 0 ha
      refine ⟨[.d (.list (ns.map PyData.int)), .d (.int k)], true, [.d (.list (ns.map PyData.int)), .d (.int k)], ?_, rfl, .inr ⟨rfl, .d (.bool true), [.d (.list (ns.map PyData.int)), .d (.int k)], .bool true, ?_, rfl, ?_, _, rfl, ?_⟩⟩
      · simp [aName, wipeE]
      · simp [dCallO, dCons, dCallF, dVar, dNil, callF, callD, asDs, asD, e1, retV, callO, pureDs, e2]
      · unfold szOk
        simp
        omega
      · rw [← List.replicate_succ']) [.d (.list (ns.map PyData.int)), .un] ⟨.un, rfl, rfl⟩
  unfold F_law d_law
  have e3 : dLc (dRng1 (dCons (dCall (fMaxU) (dCons (dC (.int 2)) (dCons (dCall (fMinU) (dCons (dCall (f1 gLenW) (dCons (dBor 0) dNil)) (dCons (dC (.int 8)) dNil))) dNil))) dNil)) [1] (aName 1) dYes (dCallO F_l_right (dCons (dCallF F_l_spring (dCons (dVar 0) (dCons (dVar 1) dNil))) dNil)) [.d (.list (ns.map PyData.int)), .un] = some (.f (.l (List.replicate (rngD 0 m.toNat).length (PyData.bool true))), [.d (.list (ns.map PyData.int)), .un]) := by
    unfold dLc
    rw [em]
    simp [isOwn, he, backE]
  refine ⟨[.un], ?_⟩
  simp only [bodyF, List.length_cons, List.length_nil, if_true, List.replicate, List.cons_append, List.nil_append]
  simp [dRet, dCall, dCons, e3, dNil, f1, gAll, DL.listOf, bools_rep, retOf_d, outsOf, outAt, List.range, List.range.loop]
end K02
end
section
set_option Elab.async false
set_option linter.all false
set_option maxRecDepth 100000
set_option maxHeartbeats 0
namespace K02
open PySem PySem.Spec PyProof.Rows L2 DL
def fn : List He.DefD := ([⟨("is_whole", none), "is_whole", "is_whole", defArgs s_is_whole, defBody s_is_whole, defScope s_is_whole, [], []⟩, ⟨("is_tuple_of_told_size", none), "is_tuple_of_told_size", "is_tuple_of_told_size", defArgs s_is_tuple_of_told_size, defBody s_is_tuple_of_told_size, defScope s_is_tuple_of_told_size, [], []⟩, ⟨("_law_spring", none), "_law_spring", "_law_spring", defArgs s_l_spring, defBody s_l_spring, defScope s_l_spring, [], []⟩, ⟨("_law_draw", none), "_law_draw", "_law_draw", defArgs s_l_draw, defBody s_l_draw, defScope s_l_draw, [], []⟩, ⟨("_law_is_whole", none), "_law_is_whole", "_law_is_whole", defArgs s_l_is_whole, defBody s_l_is_whole, defScope s_l_is_whole, [], []⟩, ⟨("is_weighted", none), "is_weighted", "is_weighted", defArgs s_is_weighted, defBody s_is_weighted, defScope s_is_weighted, [], []⟩, ⟨("_law_one_of", none), "_law_one_of", "_law_one_of", defArgs s_l_one_of, defBody s_l_one_of, defScope s_l_one_of, [], []⟩, ⟨("_law_is_pair", none), "_law_is_pair", "_law_is_pair", defArgs s_l_is_pair, defBody s_l_is_pair, defScope s_l_is_pair, [], []⟩, ⟨("first_wrong", none), "first_wrong", "first_wrong", defArgs s_first_wrong, defBody s_first_wrong, defScope s_first_wrong, [], []⟩, ⟨("_law_number", none), "_law_number", "_law_number", defArgs s_l_number, defBody s_l_number, defScope s_l_number, [], []⟩, ⟨("_law_odd", none), "_law_odd", "_law_odd", defArgs s_l_odd, defBody s_l_odd, defScope s_l_odd, [], []⟩, ⟨("_law_fault", none), "_law_fault", "_law_fault", defArgs s_l_fault, defBody s_l_fault, defScope s_l_fault, [], []⟩, ⟨("makes_row", none), "makes_row", "makes_row", defArgs s_makes_row, defBody s_makes_row, defScope s_makes_row, [], []⟩, ⟨("_law_weight", none), "_law_weight", "_law_weight", defArgs s_l_weight, defBody s_l_weight, defScope s_l_weight, [], []⟩, ⟨("_law_bent", none), "_law_bent", "_law_bent", defArgs s_l_bent, defBody s_l_bent, defScope s_l_bent, [], []⟩, ⟨("is_row", none), "is_row", "is_row", defArgs s_is_row, defBody s_is_row, defScope s_is_row, [], []⟩, ⟨("is_heap", none), "is_heap", "is_heap", defArgs s_is_heap, defBody s_is_heap, defScope s_is_heap, [], []⟩, ⟨("is_plain", none), "is_plain", "is_plain", defArgs s_is_plain, defBody s_is_plain, defScope s_is_plain, [], []⟩, ⟨("_law_thing", none), "_law_thing", "_law_thing", defArgs s_l_thing, defBody s_l_thing, defScope s_l_thing, [], []⟩, ⟨("_law_right", none), "_law_right", "_law_right", defArgs s_l_right, defBody s_l_right, defScope s_l_right, [], []⟩, ⟨("law", none), "law", "law", defArgs s_law, defBody s_law, defScope s_law, [], []⟩] : List He.DefD)
def fa : List He.Fa := ([.glo "is_whole", .glo "is_tuple_of_told_size", .glo "_law_spring", .glo "_law_draw", .glo "_law_is_whole", .glo "is_weighted", .glo "_law_one_of", .glo "_law_is_pair", .glo "first_wrong", .glo "_law_number", .glo "_law_odd", .glo "_law_fault", .glo "makes_row", .glo "_law_weight", .glo "_law_bent", .glo "is_row", .glo "is_heap", .glo "is_plain", .glo "_law_thing", .glo "_law_right", .glo "law", .free "abs", .free "all", .free "bool", .free "divmod", .free "enumerate", .free "int", .free "isinstance", .free "len", .free "list"] : List He.Fa) ++ ([.free "max", .free "min", .free "range", .free "repr", .free "tuple", .int "MOST_PAIRS" 400] : List He.Fa)
abbrev R0 : PySem.W.OpenRow := PySem.W.OpenLaw.row PySem.Challenge.rw_samegaps_k02_whole_rows_and_heaps_of_any
def ex (K : PySem.W.Frag) : Bool := true
abbrev hk : PySem.W.Hook := hookE 4 ex fa fn
def ob (s : PySem.W.SharedT) : He.AlD := obsEG 4 ex fa fn (HandSHeadRun.getT s)
theorem ob_eq (s : PySem.W.SharedT) : ob s = hk.obs s.abs := obsEG_eq (HandSHeadRun.getT_eq s)
theorem run (w : World) : HandSHeadRun.RunEq R0 (PySem.W.view R0.prog [25]) hk ob 4000 ((["is_whole", "MOST_PAIRS", "is_weighted", "first_wrong", "is_tuple_of_told_size", "makes_row", "is_row", "is_heap", "is_plain", "_law_spring", "_law_draw", "_law_one_of", "_law_number", "_law_weight", "_law_odd", "_law_bent", "_law_is_whole", "_law_is_pair", "_law_fault", "_law_thing"] : List Str) ++ (["_law_right"] : List Str)) w := by
  intro os
  kernel_rfl
theorem raw {K : PySem.W.Frag} {h : Heap} {mg : Str → Option Value} (X : K.In h) (G : h.Ns mainGlobals mg) (c1 : SaysE ex fa fn K) : Raw K mg where
  f_is_whole := let ⟨fd, F⟩ := c1.2.def_ 0 (d := ⟨("is_whole", none), "is_whole", "is_whole", defArgs s_is_whole, defBody s_is_whole, defScope s_is_whole, [], []⟩) rfl; ⟨_, fd, fun_of F, He.glo_ok X G (c1.2.fact 0 (f := .glo "is_whole") rfl)⟩
  f_is_tuple_of_told_size := let ⟨fd, F⟩ := c1.2.def_ 1 (d := ⟨("is_tuple_of_told_size", none), "is_tuple_of_told_size", "is_tuple_of_told_size", defArgs s_is_tuple_of_told_size, defBody s_is_tuple_of_told_size, defScope s_is_tuple_of_told_size, [], []⟩) rfl; ⟨_, fd, fun_of F, He.glo_ok X G (c1.2.fact 1 (f := .glo "is_tuple_of_told_size") rfl)⟩
  f_l_spring := let ⟨fd, F⟩ := c1.2.def_ 2 (d := ⟨("_law_spring", none), "_law_spring", "_law_spring", defArgs s_l_spring, defBody s_l_spring, defScope s_l_spring, [], []⟩) rfl; ⟨_, fd, fun_of F, He.glo_ok X G (c1.2.fact 2 (f := .glo "_law_spring") rfl)⟩
  f_l_draw := let ⟨fd, F⟩ := c1.2.def_ 3 (d := ⟨("_law_draw", none), "_law_draw", "_law_draw", defArgs s_l_draw, defBody s_l_draw, defScope s_l_draw, [], []⟩) rfl; ⟨_, fd, fun_of F, He.glo_ok X G (c1.2.fact 3 (f := .glo "_law_draw") rfl)⟩
  f_l_is_whole := let ⟨fd, F⟩ := c1.2.def_ 4 (d := ⟨("_law_is_whole", none), "_law_is_whole", "_law_is_whole", defArgs s_l_is_whole, defBody s_l_is_whole, defScope s_l_is_whole, [], []⟩) rfl; ⟨_, fd, fun_of F, He.glo_ok X G (c1.2.fact 4 (f := .glo "_law_is_whole") rfl)⟩
  f_is_weighted := let ⟨fd, F⟩ := c1.2.def_ 5 (d := ⟨("is_weighted", none), "is_weighted", "is_weighted", defArgs s_is_weighted, defBody s_is_weighted, defScope s_is_weighted, [], []⟩) rfl; ⟨_, fd, fun_of F, He.glo_ok X G (c1.2.fact 5 (f := .glo "is_weighted") rfl)⟩
  f_l_one_of := let ⟨fd, F⟩ := c1.2.def_ 6 (d := ⟨("_law_one_of", none), "_law_one_of", "_law_one_of", defArgs s_l_one_of, defBody s_l_one_of, defScope s_l_one_of, [], []⟩) rfl; ⟨_, fd, fun_of F, He.glo_ok X G (c1.2.fact 6 (f := .glo "_law_one_of") rfl)⟩
  f_l_is_pair := let ⟨fd, F⟩ := c1.2.def_ 7 (d := ⟨("_law_is_pair", none), "_law_is_pair", "_law_is_pair", defArgs s_l_is_pair, defBody s_l_is_pair, defScope s_l_is_pair, [], []⟩) rfl; ⟨_, fd, fun_of F, He.glo_ok X G (c1.2.fact 7 (f := .glo "_law_is_pair") rfl)⟩
  f_first_wrong := let ⟨fd, F⟩ := c1.2.def_ 8 (d := ⟨("first_wrong", none), "first_wrong", "first_wrong", defArgs s_first_wrong, defBody s_first_wrong, defScope s_first_wrong, [], []⟩) rfl; ⟨_, fd, fun_of F, He.glo_ok X G (c1.2.fact 8 (f := .glo "first_wrong") rfl)⟩
  f_l_number := let ⟨fd, F⟩ := c1.2.def_ 9 (d := ⟨("_law_number", none), "_law_number", "_law_number", defArgs s_l_number, defBody s_l_number, defScope s_l_number, [], []⟩) rfl; ⟨_, fd, fun_of F, He.glo_ok X G (c1.2.fact 9 (f := .glo "_law_number") rfl)⟩
  f_l_odd := let ⟨fd, F⟩ := c1.2.def_ 10 (d := ⟨("_law_odd", none), "_law_odd", "_law_odd", defArgs s_l_odd, defBody s_l_odd, defScope s_l_odd, [], []⟩) rfl; ⟨_, fd, fun_of F, He.glo_ok X G (c1.2.fact 10 (f := .glo "_law_odd") rfl)⟩
  f_l_fault := let ⟨fd, F⟩ := c1.2.def_ 11 (d := ⟨("_law_fault", none), "_law_fault", "_law_fault", defArgs s_l_fault, defBody s_l_fault, defScope s_l_fault, [], []⟩) rfl; ⟨_, fd, fun_of F, He.glo_ok X G (c1.2.fact 11 (f := .glo "_law_fault") rfl)⟩
  f_makes_row := let ⟨fd, F⟩ := c1.2.def_ 12 (d := ⟨("makes_row", none), "makes_row", "makes_row", defArgs s_makes_row, defBody s_makes_row, defScope s_makes_row, [], []⟩) rfl; ⟨_, fd, fun_of F, He.glo_ok X G (c1.2.fact 12 (f := .glo "makes_row") rfl)⟩
  f_l_weight := let ⟨fd, F⟩ := c1.2.def_ 13 (d := ⟨("_law_weight", none), "_law_weight", "_law_weight", defArgs s_l_weight, defBody s_l_weight, defScope s_l_weight, [], []⟩) rfl; ⟨_, fd, fun_of F, He.glo_ok X G (c1.2.fact 13 (f := .glo "_law_weight") rfl)⟩
  f_l_bent := let ⟨fd, F⟩ := c1.2.def_ 14 (d := ⟨("_law_bent", none), "_law_bent", "_law_bent", defArgs s_l_bent, defBody s_l_bent, defScope s_l_bent, [], []⟩) rfl; ⟨_, fd, fun_of F, He.glo_ok X G (c1.2.fact 14 (f := .glo "_law_bent") rfl)⟩
  f_is_row := let ⟨fd, F⟩ := c1.2.def_ 15 (d := ⟨("is_row", none), "is_row", "is_row", defArgs s_is_row, defBody s_is_row, defScope s_is_row, [], []⟩) rfl; ⟨_, fd, fun_of F, He.glo_ok X G (c1.2.fact 15 (f := .glo "is_row") rfl)⟩
  f_is_heap := let ⟨fd, F⟩ := c1.2.def_ 16 (d := ⟨("is_heap", none), "is_heap", "is_heap", defArgs s_is_heap, defBody s_is_heap, defScope s_is_heap, [], []⟩) rfl; ⟨_, fd, fun_of F, He.glo_ok X G (c1.2.fact 16 (f := .glo "is_heap") rfl)⟩
  f_is_plain := let ⟨fd, F⟩ := c1.2.def_ 17 (d := ⟨("is_plain", none), "is_plain", "is_plain", defArgs s_is_plain, defBody s_is_plain, defScope s_is_plain, [], []⟩) rfl; ⟨_, fd, fun_of F, He.glo_ok X G (c1.2.fact 17 (f := .glo "is_plain") rfl)⟩
  f_l_thing := let ⟨fd, F⟩ := c1.2.def_ 18 (d := ⟨("_law_thing", none), "_law_thing", "_law_thing", defArgs s_l_thing, defBody s_l_thing, defScope s_l_thing, [], []⟩) rfl; ⟨_, fd, fun_of F, He.glo_ok X G (c1.2.fact 18 (f := .glo "_law_thing") rfl)⟩
  f_l_right := let ⟨fd, F⟩ := c1.2.def_ 19 (d := ⟨("_law_right", none), "_law_right", "_law_right", defArgs s_l_right, defBody s_l_right, defScope s_l_right, [], []⟩) rfl; ⟨_, fd, fun_of F, He.glo_ok X G (c1.2.fact 19 (f := .glo "_law_right") rfl)⟩
  f_law := let ⟨fd, F⟩ := c1.2.def_ 20 (d := ⟨("law", none), "law", "law", defArgs s_law, defBody s_law, defScope s_law, [], []⟩) rfl; ⟨_, fd, fun_of F, He.glo_ok X G (c1.2.fact 20 (f := .glo "law") rfl)⟩
  b_abs := He.free_ok X G (c1.2.fact 21 (f := .free "abs") rfl)
  b_all := He.free_ok X G (c1.2.fact 22 (f := .free "all") rfl)
  b_bool := He.free_ok X G (c1.2.fact 23 (f := .free "bool") rfl)
  b_divmod := He.free_ok X G (c1.2.fact 24 (f := .free "divmod") rfl)
  b_enumerate := He.free_ok X G (c1.2.fact 25 (f := .free "enumerate") rfl)
  b_int := He.free_ok X G (c1.2.fact 26 (f := .free "int") rfl)
  b_isinstance := He.free_ok X G (c1.2.fact 27 (f := .free "isinstance") rfl)
  b_len := He.free_ok X G (c1.2.fact 28 (f := .free "len") rfl)
  b_list := He.free_ok X G (c1.2.fact 29 (f := .free "list") rfl)
  b_max := He.free_ok X G (c1.2.fact 30 (f := .free "max") rfl)
  b_min := He.free_ok X G (c1.2.fact 31 (f := .free "min") rfl)
  b_range := He.free_ok X G (c1.2.fact 32 (f := .free "range") rfl)
  b_repr := He.free_ok X G (c1.2.fact 33 (f := .free "repr") rfl)
  b_tuple := He.free_ok X G (c1.2.fact 34 (f := .free "tuple") rfl)
  c_MOST_PAIRS := He.int_ok X G (c1.2.fact 35 (f := .int "MOST_PAIRS" 400) rfl)
theorem facts {P : Program} {w : World} {K : PySem.W.Frag} {h : Heap} {mg : Str → Option Value} {f : Addr} (X : K.In h) (G : h.Ns mainGlobals mg) (hfa : mg ("law" : Str) = some (.ref f)) (c : SaysE ex fa fn K) :
    ∃ fd : FuncData, (∀ (s : Shared) (v : Value), BindsTo s fd ⟨[v], []⟩ [("_law_script", v)]) ∧ ∀ base : Heap, FnG P w K mg base 7 f fd ["_law_script"] (spF K 1 F_law) := by
  obtain ⟨a, fd, hF, hg⟩ := (raw X G c).f_law
  have e := hfa.symm.trans hg
  cases e
  have b : ∀ (s : Shared) (v : Value), BindsTo s fd ⟨[v], []⟩ [("_law_script", v)] := fun s v => by
    obtain ⟨oc, od, kV, doc, pm, an, cdv, ct, osl, rfl, lk, hcd⟩ := hF.ex
    exact .of_eq rfl
  refine ⟨fd, b, fun base => ?_⟩
  obtain ⟨a', fd', hF', hg', G', _⟩ := (cal_law (P := P) (w := w) (base := base) (raw X G c)).ex
  have e := hg.symm.trans hg'
  cases e
  obtain ⟨oc, od, kV, doc, pm, an, cdv, ct, osl, e1, lk, hcd⟩ := hF.ex
  obtain ⟨oc', od', kV', doc', pm', an', cdv', ct', osl', e1', lk', hcd'⟩ := hF'.ex
  rw [lk] at lk'
  cases lk'
  exact G'
end K02
open PySem PySem.W PySem.Calls PyProof.Rows
theorem PySem.Challenge.cw_samegaps_k02_whole_rows_and_heaps_of_any_holds : PySem.Challenge.rw_samegaps_k02_whole_rows_and_heaps_of_any.Holds := by
  w_on; o_law
  refine HandSHeadRun.head_any (r := OpenLaw.row PySem.Challenge.rw_samegaps_k02_whole_rows_and_heaps_of_any) (q := view (OpenLaw.row PySem.Challenge.rw_samegaps_k02_whole_rows_and_heaps_of_any).prog [25]) (H := K02.hk) (ob := K02.ob) (M := 4000) (loose := (["is_whole", "MOST_PAIRS", "is_weighted", "first_wrong", "is_tuple_of_told_size", "makes_row", "is_row", "is_heap", "is_plain", "_law_spring", "_law_draw", "_law_one_of", "_law_number", "_law_weight", "_law_odd", "_law_bent", "_law_is_whole", "_law_is_pair", "_law_fault", "_law_thing"] : List Str) ++ (["_law_right"] : List Str)) (d := HandSHeadRun.topDef (OpenLaw.row PySem.Challenge.rw_samegaps_k02_whole_rows_and_heaps_of_any).prog 25) (kwd := []) K02.ob_eq
    (by kernel_rfl) (fun s => by kernel_rfl) K02.run (by kernel_rfl) (by kernel_rfl) (by kernel_rfl) (by rfl) (by first | assumption | decide +kernel) (by decide +kernel) ⟨rfl, rfl, rfl, rfl, rfl, by decide +kernel⟩ ?hw ?hc
  case hw => w_witness2
  case hc =>
    refine DL.walk_ofG (l := PySem.Challenge.rw_samegaps_k02_whole_rows_and_heaps_of_any) (n := 63) (k := 7) (x := "_law_script") rfl (by decide) (by kernel_rfl) ⟨rfl, by decide, by decide⟩ ?F
    intro w mg fa h Y G hmg0
    obtain ⟨K, KX, c⟩ := Y
    have hmg : mg ("law" : PySem.Str) = some (.ref fa) := by
      have e : (HandSHeadRun.topDef (OpenLaw.row PySem.Challenge.rw_samegaps_k02_whole_rows_and_heaps_of_any).prog 25).name = ("law" : PySem.Str) := by kernel_rfl
      rw [← e]
      exact hmg0
    obtain ⟨fd, hb, hF⟩ := K02.facts (P := (PySem.Challenge.rw_samegaps_k02_whole_rows_and_heaps_of_any).prog) (w := w) KX G hmg c
    refine ⟨K, fd, _, KX, hb, fun H a ns hl hbits hO hS => ?_, fun base _ _ => hF base⟩
    obtain ⟨outs, e⟩ := K02.law_true ns hl hbits
    exact DL.spF_law hO hS e
end
