import PyProof.Rows.All
import Wide.All
import OpenK.AllK
import Wide.FinOn
import Lean
import PyProof.EqAt
import PyProof.EqKinds
import PyProof.TupleCall
import PySem.Challenge.RW_coinrows_k18_which_refusal
set_option Elab.async false
set_option linter.all false
set_option maxRecDepth 100000
namespace L2
open PySem PySem.Spec PyProof.Rows
noncomputable abbrev Key := Sum Int Str
noncomputable def keyIs : Key → Value → Bool
  | .inl k, v => Value.isInt k v
  | .inr x, v => Value.isStrOf x v
noncomputable def keyH (w : World) : Key → Int
  | .inl k => hashInt k
  | .inr x => hashStr w x
theorem keyIs_shape : ∀ {k : Key} {v : Value}, keyIs k v = true → (∃ i t, k = Sum.inl i ∧ v = Value.int i t) ∨ (∃ x t, k = Sum.inr x ∧ v = Value.str x t)
  | .inl i, v, h => by
    obtain ⟨t, e⟩ := Value.isInt_shape (k := i) (v := v) h
    exact .inl ⟨i, t, rfl, e⟩
  | .inr x, v, h => by
    obtain ⟨t, e⟩ := Value.isStrOf_shape (x := x) (v := v) h
    exact .inr ⟨x, t, rfl, e⟩
theorem keyIs_int (i : Int) (t : Tok) : keyIs (.inl i) (.int i t) = true := by simp [keyIs, Value.isInt]
theorem keyIs_str (x : Str) (t : Tok) : keyIs (.inr x) (.str x t) = true := by simp [keyIs, Value.isStrOf]
theorem key_ll (a b : Int) : decide ((Sum.inl a : Key) = Sum.inl b) = (a == b) := by
  by_cases e : a = b
  · subst e; simp
  · have h : ¬ (Sum.inl a : Key) = Sum.inl b := fun q => e (Sum.inl.inj q)
    rw [decide_eq_false h]
    exact (beq_eq_false_iff_ne.mpr e).symm
theorem key_rr (a b : Str) : decide ((Sum.inr a : Key) = Sum.inr b) = decide (a = b) := by
  by_cases e : a = b
  · subst e; simp
  · have h : ¬ (Sum.inr a : Key) = Sum.inr b := fun q => e (Sum.inr.inj q)
    rw [decide_eq_false h, decide_eq_false e]
theorem key_lr (a : Int) (b : Str) : decide ((Sum.inl a : Key) = Sum.inr b) = false := decide_eq_false (fun q => nomatch q)
theorem key_rl (a : Str) (b : Int) : decide ((Sum.inr a : Key) = Sum.inl b) = false := decide_eq_false (fun q => nomatch q)
noncomputable def mixKind (prog : Program) (w : World) : PySem.KeyKind prog w Key where
  is := keyIs
  hash := keyH w
  inj := fun v a b ha hb => by
    rcases keyIs_shape ha with ⟨i, t, rfl, rfl⟩ | ⟨x, t, rfl, rfl⟩
    · rcases keyIs_shape hb with ⟨j, u, rfl, e⟩ | ⟨y, u, rfl, e⟩
      · injection e with e1 _; rw [e1]
      · exact nomatch e
    · rcases keyIs_shape hb with ⟨j, u, rfl, e⟩ | ⟨y, u, rfl, e⟩
      · exact nomatch e
      · injection e with e1 _; rw [e1]
  byValue := fun k v h => by
    rcases keyIs_shape h with ⟨i, t, rfl, rfl⟩ | ⟨x, t, rfl, rfl⟩ <;> rfl
  pyHash := fun hv h => by
    rcases keyIs_shape hv with ⟨i, t, rfl, rfl⟩ | ⟨x, t, rfl, rfl⟩
    · exact wpAny_pyHash_int h
    · exact wpAny_pyHash_str h
  eqBool := fun hu hv h => by
    rcases keyIs_shape hu with ⟨i, t, rfl, rfl⟩ | ⟨x, t, rfl, rfl⟩
    · rcases keyIs_shape hv with ⟨j, u, rfl, rfl⟩ | ⟨y, u, rfl, rfl⟩
      · rw [key_ll] at h; exact wpAny_eqBool_int h
      · rw [key_lr] at h; exact SeqAt.EqAt.int_str i t y u _ _ _ _ h
    · rcases keyIs_shape hv with ⟨j, u, rfl, rfl⟩ | ⟨y, u, rfl, rfl⟩
      · rw [key_rl] at h; exact SeqAt.EqAt.str_int x t j u _ _ _ _ h
      · rw [key_rr] at h; exact wpAny_eqBool_str h
  «strs» := fun k x t v h => by
    rcases keyIs_shape h with ⟨i, u, rfl, e⟩ | ⟨y, u, rfl, e⟩
    · exact nomatch e
    · injection e with e1 _
      subst e1
      cases v <;> rfl
theorem mixKind_int (prog : Program) (w : World) (i : Int) (t : Tok) : (mixKind prog w).is (.inl i) (.int i t) = true := keyIs_int i t
theorem mixKind_str (prog : Program) (w : World) (x : Str) (t : Tok) : (mixKind prog w).is (.inr x) (.str x t) = true := keyIs_str x t
end L2
namespace L2
open PySem PySem.Spec PyProof.Rows
inductive V where
  | non | bl (b : Bool) | int (i : Int) | str (x : Str) | byt (b : Array UInt8) | flt (b : UInt64) | ref (a : Addr) | ty (n : String)
  deriving DecidableEq
noncomputable def RelV : V → Value → Prop
  | .non, u => u = Value.none
  | .bl b, u => u = Value.bool b
  | .int i, u => ∃ t, u = Value.int i t
  | .str x, u => ∃ t, u = Value.str x t
  | .byt b, u => ∃ t, u = Value.bytes b t
  | .flt b, u => ∃ t, u = Value.float b t
  | .ref a, u => u = Value.ref a
  | .ty n, u => u = Value.type n
noncomputable abbrev Vals : List V → List Value → Prop := Paired RelV
theorem Vals.length {xs : List V} {us : List Value} (r : Vals xs us) : xs.length = us.length := Paired.length r
theorem Vals.get : ∀ {xs : List V} {us : List Value} {i : Nat} {x : V}, Vals xs us → xs[i]? = some x → ∃ u, us[i]? = some u ∧ RelV x u
  | _, _, _, _, .nil, e => by simp at e
  | _, _, 0, _, .cons r _, e => by simp at e; subst e; exact ⟨_, rfl, r⟩
  | _, _, i + 1, x, .cons _ t, e => by
    obtain ⟨u, h1, h2⟩ := Vals.get (i := i) (x := x) t (by simpa using e)
    exact ⟨u, by simpa using h1, h2⟩
theorem Vals.set {x : V} {u : Value} (r : RelV x u) : ∀ {xs : List V} {us : List Value} (i : Nat), Vals xs us → Vals (xs.set i x) (us.set i u)
  | _, _, _, .nil => .nil
  | _, _, 0, .cons _ t => .cons r t
  | _, _, i + 1, .cons q t => .cons q (Vals.set r i t)
theorem Vals.append : ∀ {xs ys : List V} {us ws : List Value}, Vals xs us → Vals ys ws → Vals (xs ++ ys) (us ++ ws)
  | _, _, _, _, .nil, s => s
  | _, _, _, _, .cons r t, s => .cons r (Vals.append t s)
theorem Vals.take : ∀ {xs : List V} {us : List Value} (n : Nat), Vals xs us → Vals (xs.take n) (us.take n)
  | _, _, 0, _ => .nil
  | _, _, _ + 1, .nil => .nil
  | _, _, n + 1, .cons r t => .cons r (Vals.take n t)
theorem Vals.drop : ∀ {xs : List V} {us : List Value} (n : Nat), Vals xs us → Vals (xs.drop n) (us.drop n)
  | _, _, 0, r => r
  | _, _, _ + 1, .nil => .nil
  | _, _, n + 1, .cons _ t => Vals.drop n t
theorem Vals.none_of : ∀ {xs : List V} {us : List Value} {i : Nat}, Vals xs us → xs[i]? = none → us[i]? = none := fun {xs us i} r e => by
  have h1 := r.length
  have h2 : xs.length ≤ i := List.getElem?_eq_none_iff.mp e
  exact List.getElem?_eq_none_iff.mpr (by omega)
noncomputable def RelO : Option V → Option Value → Prop
  | some v, some u => RelV v u
  | none, none => True
  | _, _ => False
noncomputable def KV {κ : Type} : List (κ × V) → List (κ × Value) → Prop := Paired fun (p : κ × V) (q : κ × Value) => p.1 = q.1 ∧ RelV p.2 q.2
noncomputable def kV : Key → V
  | .inl i => .int i
  | .inr x => .str x
inductive HO where
    | lst (xs : List V)
    | tup (xs : List V)
    | dK (kvs : List (Key × V)) | dT (kvs : List (List Key × V))
    | set (S : Int → Bool) (n : Nat)
    | ins (C dx : Addr) (fs : List (Str × V))
    | own (x : Addr)
    | xd (fs : List (Str × V))
    | met (f x : Addr)
    | rng (lo hi : Int)
    | frz (o : Obj) (u : HO)
    | tbl (ps : Array Value)
    | ext (φ : Heap → Prop)
noncomputable abbrev Hp := Addr → Option HO
noncomputable def upd (H : Hp) (a : Addr) (o : HO) : Hp := fun b => if b = a then some o else H b
theorem upd_same {H : Hp} {a : Addr} {o : HO} : upd H a o a = some o := by unfold upd; rw [if_pos rfl]
theorem upd_ne {H : Hp} {a b : Addr} {o : HO} (h : b ≠ a) : upd H a o b = H b := by unfold upd; rw [if_neg h]
theorem upd_upd {H : Hp} {a : Addr} {o u : HO} : upd (upd H a o) a u = upd H a u := by
  funext b; unfold upd; split <;> rfl
theorem ne_of {H : Hp} {a b : Addr} {o u : HO} (h : H a = some o) (h' : H b = some u) (d : o ≠ u) : a ≠ b := by
  intro e; subst e; rw [h] at h'; exact d (Option.some.inj h')
theorem ne_of_none {H : Hp} {a b : Addr} {o : HO} (h : H a = some o) (h' : H b = none) : a ≠ b := by
  intro e; subst e; rw [h] at h'; cases h'
section
variable (P : Program) (w : World)
noncomputable def ObjOk (H : Hp) (h : Heap) (a : Addr) : HO → Prop
  | .lst xs => xs.length ≤ sizeLine ∧ ∃ (its : List Value) (n : Nat), Vals xs its ∧ h.get? a = some { cls := .type "list", data := .seq its.toArray n }
  | .tup xs => xs.length ≤ sizeLine ∧ ∃ its : List Value, Vals xs its ∧ IsTup h a its.toArray
  | .dK kvs => kvs.length ≤ sizeLine ∧ (a == sysModules) = false ∧ ∃ vs, KV kvs vs ∧ h.DictOf (mixKind P w) a vs
  | .dT kvs => kvs.length ≤ sizeLine ∧ (a == sysModules) = false ∧ ∃ xs : List (List Key × Addr × Value),
      Paired (fun (p : List Key × V) (q : List Key × Addr × Value) => p.1 = q.1 ∧ H q.2.1 = some (.tup (p.1.map kV)) ∧ RelV p.2 q.2.2) kvs xs ∧
      ∃ o es ep, h.get? a = some o ∧ o.ExactDict ∧ o.data = .dict es ep ∧ es.toList = xs.map (entryOfKey (tupleKind (mixKind P w))) ∧ (xs.map (·.1)).Nodup
  | .set S n => h.SetOf (intKind P w) a S n
  | .ins C dx fs => H dx = some (.own a) ∧ fs.length ≤ 1000 ∧ dx ≠ a ∧ h.get? a = some (PySem.W.instObj C dx) ∧
      ∃ mA, h.Ns1 dx mA ∧ (∀ f, RelO (fs.lookup f) (mA f)) ∧ PySem.Within mA (fs.map (·.1))
  | .own _ => ∃ o, h.get? a = some o
  | .xd fs => ∃ mA, h.Ns1 a mA ∧ ∀ f, RelO (fs.lookup f) (mA f)
  | .rng lo hi => ∃ t u v, h.get? a = some { cls := .type "range", data := .fields #[.int lo t, .int hi u, .int 1 v] }
  | .frz o u => h.get? a = some o ∧ ObjOk H h a u
  | .tbl ps => h.get? a = some { cls := .none, data := .fields ps }
  | .met f x => h.get? a = some (PySem.W.methodObj (.ref f) (.ref x))
  | .ext φ => φ h ∧ (∃ o, h.get? a = some o) ∧ ∀ h1 h2 : Heap, φ h1 → (∀ o, h1.get? a = some o → h2.get? a = some o) → φ h2
noncomputable def HOk (H : Hp) (h : Heap) : Prop := ∀ a o, H a = some o → ObjOk P w H h a o
end
section
variable {P : Program} {w : World} {H H' : Hp} {h h' : Heap} {a : Addr} {o : HO}
theorem ObjOk.lt (x : ObjOk P w H h a o) : a < h.objs.size := by
  cases o with
  | lst xs => obtain ⟨_, _, _, _, e⟩ := x; exact Heap.lt_size e
  | tup xs => obtain ⟨_, _, _, p⟩ := x; exact p.lt
  | dK kvs => obtain ⟨_, _, _, _, o, _, _, e, _⟩ := x; exact Heap.lt_size e
  | dT kvs => obtain ⟨_, _, _, _, o, _, _, e, _⟩ := x; exact Heap.lt_size e
  | set S n => obtain ⟨o, _, _, _, e, _⟩ := x; exact Heap.lt_size e
  | ins C dx fs => obtain ⟨_, _, _, e, _⟩ := x; exact Heap.lt_size e
  | own y => obtain ⟨_, e⟩ := x; exact Heap.lt_size e
  | xd fs => obtain ⟨_, ⟨_, _, _, e, _⟩, _⟩ := x; exact Heap.lt_size e
  | rng lo hi => obtain ⟨_, _, _, e⟩ := x; exact Heap.lt_size e
  | frz ob u => obtain ⟨e, _⟩ := x; exact Heap.lt_size e
  | tbl ps => exact Heap.lt_size (show h.get? a = some _ from x)
  | met f y => exact Heap.lt_size (show h.get? a = some _ from x)
  | ext φ => obtain ⟨_, ⟨_, e⟩, _⟩ := x; exact Heap.lt_size e
theorem Paired.mapP {α β : Type} {F G : α → β → Prop} : ∀ {l₁ : List α} {l₂ : List β}, Paired F l₁ l₂ → (∀ a b, F a b → G a b) → Paired G l₁ l₂
  | _, _, .nil, _ => .nil
  | _, _, .cons r t, f => .cons (f _ _ r) (Paired.mapP t f)
theorem ObjOk.stay (x : ObjOk P w H h a o) (k : ∀ b u, (b = a ∨ H b = some (.own a)) → h.get? b = some u → h'.get? b = some u)
    (ho : ∀ b, H b = some (.own a) → H' b = some (.own a)) (ht : ∀ b xs, H b = some (.tup xs) → H' b = some (.tup xs)) : ObjOk P w H' h' a o := by
  induction o with
  | lst xs => obtain ⟨z, its, n, r, e⟩ := x; exact ⟨z, its, n, r, k _ _ (.inl rfl) e⟩
  | tup xs => obtain ⟨z, its, r, ob, e, c⟩ := x; exact ⟨z, its, r, ob, k _ _ (.inl rfl) e, c⟩
  | dK kvs => obtain ⟨z, y, vs, r, ob, es, ep, e, c⟩ := x; exact ⟨z, y, vs, r, ob, es, ep, k _ _ (.inl rfl) e, c⟩
  | dT kvs =>
    obtain ⟨z, y, xs, r, ob, es, ep, e, c⟩ := x
    exact ⟨z, y, xs, Paired.mapP r fun p q z => ⟨z.1, ht _ _ z.2.1, z.2.2⟩, ob, es, ep, k _ _ (.inl rfl) e, c⟩
  | set S n => obtain ⟨ob, es, ep, t, e, c⟩ := x; exact ⟨ob, es, ep, t, k _ _ (.inl rfl) e, c⟩
  | ins C dx fs =>
    obtain ⟨d, z, ne, e, mA, ⟨od, es, ep, e2, c⟩, r⟩ := x
    exact ⟨ho _ d, z, ne, k _ _ (.inl rfl) e, mA, ⟨od, es, ep, k _ _ (.inr d) e2, c⟩, r⟩
  | own y => obtain ⟨ob, e⟩ := x; exact ⟨ob, k _ _ (.inl rfl) e⟩
  | xd fs => obtain ⟨mA, ⟨od, es, ep, e, c⟩, r⟩ := x; exact ⟨mA, ⟨od, es, ep, k _ _ (.inl rfl) e, c⟩, r⟩
  | rng lo hi => obtain ⟨t, u, v, e⟩ := x; exact ⟨t, u, v, k _ _ (.inl rfl) e⟩
  | frz ob u ih => obtain ⟨e, q⟩ := x; exact ⟨k _ _ (.inl rfl) e, ih q⟩
  | tbl ps =>
    have e : h.get? a = some { cls := .none, data := .fields ps } := x
    show h'.get? a = some { cls := .none, data := .fields ps }
    exact k a _ (.inl rfl) e
  | met f y =>
    have e : h.get? a = some (PySem.W.methodObj (.ref f) (.ref y)) := x
    show h'.get? a = some (PySem.W.methodObj (.ref f) (.ref y))
    exact k a _ (.inl rfl) e
  | ext φ => obtain ⟨p, ⟨o, e⟩, st⟩ := x; exact ⟨st _ _ p fun o q => k _ _ (.inl rfl) q, ⟨o, k _ _ (.inl rfl) e⟩, st⟩
theorem HOk.lt (x : HOk P w H h) (e : H a = some o) : a < h.objs.size := (x a o e).lt
theorem HOk.fresh (x : HOk P w H h) (e : h.objs.size ≤ a) : H a = none := by
  cases q : H a with
  | none => rfl
  | some u => exact absurd (Nat.lt_of_lt_of_le (x.lt q) e) (Nat.lt_irrefl _)
theorem HOk.kept (x : HOk P w H h) (k : ∀ b u, h.get? b = some u → h'.get? b = some u) : HOk P w H h' := fun a o e =>
  (x a o e).stay (fun b u _ q => k b u q) (fun _ q => q) fun _ _ q => q
theorem HOk.laid (x : HOk P w H h) (k : ∀ b u, h.get? b = some u → h'.get? b = some u) (hp : h.objs.size ≤ a) (new : ObjOk P w (upd H a o) h' a o) : HOk P w (upd H a o) h' := fun b u e => by
  have hn := x.fresh hp
  by_cases hb : b = a
  · subst hb; rw [upd_same] at e; cases e; exact new
  · rw [upd_ne hb] at e
    exact (x b u e).stay (fun c v _ q => k c v q) (fun c q => by rw [upd_ne (ne_of_none q hn)]; exact q) fun c xs q => by rw [upd_ne (ne_of_none q hn)]; exact q
end
noncomputable def Rd (H : Hp) (a : Addr) (u : HO) : Prop := H a = some u ∨ ∃ o, H a = some (.frz o u)
theorem Rd.of {H : Hp} {a : Addr} {u : HO} (h : H a = some u) : Rd H a u := .inl h
theorem Rd.ok {P : Program} {w : World} {H : Hp} {h : Heap} {a : Addr} {u : HO} (r : Rd H a u) (x : HOk P w H h) : ObjOk P w H h a u := by
  rcases r with r | ⟨o, r⟩
  · exact x a u r
  · obtain ⟨_, q⟩ := x a _ r
    exact q
noncomputable def Mut : Option HO → Prop
  | some (.lst _) => True
  | some (.dK _) => True
  | some (.dT _) => True
  | some (.set _ _) => True
  | some (.ins _ _ _) => True
  | some (.ext _) => True
  | _ => False
section
variable {P : Program} {w : World} {H : Hp} {h h' : Heap} {x e : Addr} {o' : HO}
theorem HOk.write (ok : HOk P w H h) (mu : Mut (H x)) (he : e = x ∨ H e = some (.own x)) (k : ∀ b u, b ≠ e → h.get? b = some u → h'.get? b = some u) (heo : ∃ u, h'.get? e = some u)
    (new : ObjOk P w (upd H x o') h' x o') : HOk P w (upd H x o') h' := fun b u q => by
  have nown : ∀ c y, H c = some (.own y) → c ≠ x := fun c y r z => by subst z; rw [r] at mu; exact mu
  have ntup : ∀ c xs, H c = some (.tup xs) → c ≠ x := fun c xs r z => by subst z; rw [r] at mu; exact mu
  by_cases hb : b = x
  · subst hb; rw [upd_same] at q; cases q; exact new
  · rw [upd_ne hb] at q
    by_cases hbe : b = e
    · have q' : H b = some (.own x) := by
        rcases he with z | z
        · exact absurd (hbe.trans z) hb
        · rw [hbe]; exact z
      rw [q] at q'; cases q'
      obtain ⟨v, hv⟩ := heo
      exact ⟨v, by rw [hbe]; exact hv⟩
    · refine (ok b u q).stay (fun c v hc r => k c v ?_ r) (fun c r => by rw [upd_ne (nown c b r)]; exact r) fun c xs r => by rw [upd_ne (ntup c xs r)]; exact r
      rcases hc with rfl | hc
      · exact hbe
      · rintro rfl
        rcases he with z | z
        · exact nown c b hc z
        · rw [hc] at z; cases z; exact hb rfl
end
structure Un (fs ex : List Addr) (H H' : Hp) (h h' : Heap) : Prop where
  keep : ∀ b o, h.get? b = some o → H b = none → b ∉ fs → b ∉ ex → h'.get? b = some o
  slot : ∀ b o, h.get? b = some o → H b = none → b ∈ fs → b ∉ ex → ∃ sl, h'.get? b = some { o with slots := sl }
  free : ∀ b o, h.get? b = some o → H b = none → b ∉ ex → H' b = none
  there : ∀ b o, h.get? b = some o → b ∉ ex → ∃ o', h'.get? b = some o'
  tups : ∀ b xs, H b = some (.tup xs) → H' b = some (.tup xs)
  frzs : ∀ b o u, H b = some (.frz o u) → H' b = some (.frz o u)
  tbls : ∀ b ps, H b = some (.tbl ps) → ∃ more, H' b = some (.tbl (ps ++ more))
section
variable {fs fs' ex ex' : List Addr} {H H1 H2 : Hp} {h h1 h2 h' : Heap} {a x e : Addr} {o : HO}
theorem Un.any (u : Un fs ex H H1 h h1) {b : Addr} {ob : Obj} (q : h.get? b = some ob) (n : H b = none) (hx : b ∉ ex) : ∃ sl, h1.get? b = some { ob with slots := sl } := by
  by_cases hb : b ∈ fs
  · exact u.slot b ob q n hb hx
  · exact ⟨ob.slots, u.keep b ob q n hb hx⟩
theorem Un.trans (a : Un fs ex H H1 h h1) (b : Un fs ex H1 H2 h1 h2) : Un fs ex H H2 h h2 where
  keep := fun c ob q n hc hx => b.keep c ob (a.keep c ob q n hc hx) (a.free c ob q n hx) hc hx
  slot := fun c ob q n hc hx => by
    obtain ⟨sl, e1⟩ := a.slot c ob q n hc hx
    obtain ⟨sl', e2⟩ := b.slot c _ e1 (a.free c ob q n hx) hc hx
    exact ⟨sl', e2⟩
  free := fun c ob q n hx => by
    obtain ⟨o', e1⟩ := a.there c ob q hx
    exact b.free c o' e1 (a.free c ob q n hx) hx
  there := fun c ob q hx => by
    obtain ⟨o', e1⟩ := a.there c ob q hx
    exact b.there c o' e1 hx
  tups := fun c xs q => b.tups c xs (a.tups c xs q)
  frzs := fun c ob xs q => b.frzs c ob xs (a.frzs c ob xs q)
  tbls := fun c ps q => by
    obtain ⟨m1, e1⟩ := a.tbls c ps q
    obtain ⟨m2, e2⟩ := b.tbls c _ e1
    exact ⟨m1 ++ m2, by rw [e2, Array.append_assoc]⟩
theorem Un.kept (k : ∀ b u, h.get? b = some u → h'.get? b = some u) : Un fs ex H H h h' :=
  ⟨fun b ob q _ _ _ => k b ob q, fun b ob q _ _ _ => ⟨ob.slots, k b ob q⟩, fun _ _ _ n _ => n, fun b ob q _ => ⟨ob, k b ob q⟩, fun _ _ q => q, fun _ _ _ q => q, fun _ ps q => ⟨#[], by rw [q]; simp⟩⟩
theorem Un.refl : Un fs ex H H h h := Un.kept fun _ _ q => q
theorem Un.laid (k : ∀ b u, h.get? b = some u → h'.get? b = some u) (hp : h.objs.size ≤ a) (hn : H a = none) : Un fs ex H (upd H a o) h h' where
  keep := fun b u q _ _ _ => k b u q
  slot := fun b u q _ _ _ => ⟨u.slots, k b u q⟩
  free := fun b u q n _ => by rw [upd_ne (Nat.ne_of_lt (Nat.lt_of_lt_of_le (Heap.lt_size q) hp))]; exact n
  there := fun b u q _ => ⟨u, k b u q⟩
  tups := fun b xs q => by rw [upd_ne (ne_of_none q hn)]; exact q
  frzs := fun b u xs q => by rw [upd_ne (ne_of_none q hn)]; exact q
  tbls := fun b ps q => ⟨#[], by rw [upd_ne (ne_of_none q hn), q]; simp⟩
theorem Un.write (mu : Mut (H x)) (he : e = x ∨ H e = some (.own x)) (k : ∀ b u, b ≠ e → h.get? b = some u → h'.get? b = some u) (heo : ∃ u, h'.get? e = some u) : Un fs ex H (upd H x o) h h' := by
  have hx : ∀ b, H b = none → b ≠ x := fun b n z => by subst z; rw [n] at mu; exact mu
  have hb : ∀ b, H b = none → b ≠ e := fun b n z => by
    subst z
    rcases he with r | r
    · exact hx b n r
    · rw [n] at r; cases r
  have hm : ∀ b u, H b = some u → ¬ Mut (some u) → b ≠ x := fun b u q nm z => by subst z; rw [q] at mu; exact nm mu
  refine ⟨fun b u q n _ _ => k b u (hb b n) q, fun b u q n _ _ => ⟨u.slots, k b u (hb b n) q⟩, fun b u q n _ => by rw [upd_ne (hx b n)]; exact n, fun b u q _ => ?_,
    fun b xs q => by rw [upd_ne (hm b _ q fun z => z)]; exact q, fun b u xs q => by rw [upd_ne (hm b _ q fun z => z)]; exact q, fun b ps q => ⟨#[], by rw [upd_ne (hm b _ q fun z => z), q]; simp⟩⟩
  by_cases hbe : b = e
  · subst hbe; exact heo
  · exact ⟨u, k b u hbe q⟩
theorem Un.mono (u : Un fs ex H H1 h h1) (hs : ∀ b ∈ fs, b ∈ fs') (hx : ∀ b ∈ ex, b ∈ ex') : Un fs' ex' H H1 h h1 :=
  ⟨fun b ob q n hb he => u.keep b ob q n (fun z => hb (hs b z)) fun z => he (hx b z), fun _ _ q n _ he => u.any q n fun z => he (hx _ z), fun b ob q n he => u.free b ob q n fun z => he (hx b z), fun b ob q he => u.there b ob q fun z => he (hx b z), u.tups, u.frzs, u.tbls⟩
end
noncomputable def trk (h : Heap) (H : Hp) : List Addr := (List.range h.objs.size).filter fun a => (H a).isSome
noncomputable def hidT (h : Heap) (H : Hp) : Heap := PySem.W.hideAll h (trk h H)
theorem hidT_size (h : Heap) (H : Hp) : (hidT h H).objs.size = h.objs.size := PySem.W.hideAll_size _ _
theorem hidT_get {h : Heap} {H : Hp} {b : Addr} {o : Obj} (e : h.get? b = some o) (n : H b = none) : (hidT h H).get? b = some o :=
  PySem.W.hideAll_get _ e fun hm => by
    have q : (H b).isSome = true := (List.mem_filter.mp hm).2
    rw [n] at q; simp at q
theorem of_hidT {h : Heap} {H : Hp} {b : Addr} {o : Obj} (e : (hidT h H).get? b = some o) : h.get? b = some o ∧ H b = none := by
  have e' : h.get? b = some o := PySem.W.of_hideAll (trk h H) e
  refine ⟨e', ?_⟩
  cases q : H b with
  | none => rfl
  | some x =>
    have hm : b ∈ trk h H := List.mem_filter.mpr ⟨List.mem_range.mpr (Heap.lt_size e'), by simp [q]⟩
    have z : (hidT h H).get? b = none := PySem.W.hideAll_none (trk h H) hm
    rw [z] at e; cases e
noncomputable def allNews (g h : Heap) (L : Addr) : List (Addr × Obj) := (List.range h.objs.size).filterMap fun a => if a = L ∨ (g.get? a).isSome = true then none else (h.get? a).map fun o => (a, o)
noncomputable def rest (g h : Heap) (L d : Addr) : List (Addr × Obj) := (allNews g h L).filter fun p => decide (p.1 ≠ d)
end L2
namespace L2
open PySem PySem.Spec PyProof.Rows
structure Mod (K : PySem.W.Frag) (mg : Str → Option Value) (base : Heap) : Prop where
  kin : K.In base
  glob : base.Ns mainGlobals mg
  blt : ∃ mb, base.Ns builtinsNs mb ∧ ∀ x : Str, x ≠ "__name__" → mb x = bootBuiltins x
  nolimit : base.NoLimit
structure Cx where
  prog : Program
  w : World
  K : PySem.W.Frag
  mg : Str → Option Value
  base : Heap
  A : Around
  N : List Str
  s₀ : Shared
  H₀ : Hp
  env : Env
  outer : List Env
  stack : List Env
  ex : List Addr
  fn : Str → Bool
  calm : Bool
  pn : List (Addr × Obj)
  xe : Value → Shared → Prop
noncomputable def frs (l : List Env) : List Addr := l.filterMap (·.frame)
noncomputable abbrev Cx.fs (X : Cx) : List Addr := frs X.outer
noncomputable def Vis (sc : Scope) (x : Str) : Prop := sc.names.lookup x = some .local ∨ sc.names.lookup x = some .cell ∨ sc.names.lookup x = some .free
noncomputable def Loc (sc : Scope) (x : Str) : Prop := sc.names.lookup x = some .local ∨ sc.names.lookup x = some .cell
noncomputable def Look (env : Env) (h : Heap) (m : Str → Option Value) (x : Str) (u : Value) : Prop :=
  (env.kindOf x = some .local ∧ m x = some u) ∨ ((env.kindOf x = some .cell ∨ env.kindOf x = some .free) ∧ ∃ c, env.cells.lookup x = some c ∧ h.IsCell c (some u))
structure Cx.Ok (X : Cx) : Prop where
  mod : Mod X.K X.mg X.base
  kind : X.env.scope.kind = .function
  glob : X.env.globals = mainGlobals
  blt : X.env.builtins = builtinsNs
  above : X.s₀.heap.objs.size ≤ X.env.locals
  inj : ∀ x y c, X.env.cells.lookup x = some c → X.env.cells.lookup y = some c → x = y
  has : ∀ x, (X.env.kindOf x = some .cell ∨ X.env.kindOf x = some .free) → ∃ c, X.env.cells.lookup x = some c
  cab : ∀ x c, X.fn x = true → X.env.cells.lookup x = some c → X.s₀.heap.objs.size ≤ c
  hd : X.calm = true → X.A.handled = none
  frames : X.A.frames = some X.stack
  stk : X.stack = X.outer ∨ (X.stack = X.env :: X.outer ∧ X.env.frame = some X.env.locals)
  exf : ∀ b ∈ X.ex, b ≠ X.env.locals ∧ ∀ x c, X.env.cells.lookup x = some c → c ≠ b
  bs : ∀ b o, X.base.get? b = some o → X.s₀.heap.get? b = some o ∧ X.H₀ b = none
  bsz : X.base.objs.size ≤ X.s₀.heap.objs.size
  noex : ∀ b o, X.base.get? b = some o → b ∉ X.ex
  exfs : ∀ b ∈ X.ex, b ∉ X.fs
  funs : X.s₀.heap.FunFrames X.base X.outer
  frf : ∀ b ∈ X.fs, X.H₀ b = none
structure Inv (X : Cx) (pins : List (Addr × Obj)) (σ : List (Option V)) (H : Hp) (s : Shared) : Prop where
  ok : X.Ok
  os : s.os = X.s₀.os
  bare : AllBare s.gens
  base : Un X.fs X.ex X.H₀ H X.s₀.heap s.heap
  loc : ∃ m, s.heap.Ns X.env.locals m ∧ ∀ (i : Nat) (x : Str) (v : V), X.N[i]? = some x → σ[i]? = some (some v) → Vis X.env.scope x → ∃ u, RelV v u ∧ Look X.env s.heap m x u
  cell : ∀ x c, X.env.cells.lookup x = some c → ∃ v, s.heap.IsCell c v
  free : H X.env.locals = none
  freeC : ∀ x c, X.env.cells.lookup x = some c → H c = none
  pin : ∀ p ∈ X.pn ++ pins, s.heap.get? p.1 = some p.2 ∧ H p.1 = none ∧ p.1 ≠ X.env.locals ∧ p.1 ∉ X.fs ∧ ∀ v, p.2.data ≠ .cell v
  hok : HOk X.prog X.w H s.heap
  len : σ.length = X.N.length
section
variable {X : Cx} {pins : List (Addr × Obj)} {σ : List (Option V)} {H H' : Hp} {s : Shared} {h' : Heap}
theorem Cx.Ok.nofr (ok : X.Ok) {b : Addr} {o : Obj} (e : X.base.get? b = some o) : b ∉ X.fs := fun hb => by
  have := (ok.funs.mem hb).1
  rw [e] at this; cases this
theorem Inv.bs (I : Inv X pins σ H s) : ∀ b o, X.base.get? b = some o → s.heap.get? b = some o ∧ H b = none := fun b o e =>
  ⟨I.base.keep b o (I.ok.bs b o e).1 (I.ok.bs b o e).2 (I.ok.nofr e) (I.ok.noex b o e), I.base.free b o (I.ok.bs b o e).1 (I.ok.bs b o e).2 (I.ok.noex b o e)⟩
theorem Inv.bk (I : Inv X pins σ H s) : ∀ b o, X.base.get? b = some o → s.heap.get? b = some o := fun b o e => (I.bs b o e).1
theorem Inv.mod (I : Inv X pins σ H s) : Mod X.K X.mg X.base := I.ok.mod
theorem Inv.kIn (I : Inv X pins σ H s) : X.K.In s.heap := I.ok.mod.kin.keeps I.bk
theorem Inv.nolimit (I : Inv X pins σ H s) : s.heap.NoLimit := I.ok.mod.nolimit.keeps I.bk
theorem Inv.fr (I : Inv X pins σ H s) : ∃ m, Fr X.base X.env.locals s.heap m :=
  let ⟨m, hn, _⟩ := I.loc
  ⟨m, hn, I.bk, Nat.le_trans I.ok.bsz I.ok.above⟩
theorem Inv.lt (I : Inv X pins σ H s) : X.env.locals < s.heap.objs.size := let ⟨_, hn, _⟩ := I.loc; hn.lt
theorem Inv.sz (I : Inv X pins σ H s) : X.s₀.heap.objs.size ≤ s.heap.objs.size := Nat.le_trans I.ok.above (Nat.le_of_lt I.lt)
theorem Inv.nofs (I : Inv X pins σ H s) {a : Addr} (h : s.heap.objs.size ≤ a) : a ∉ X.fs := fun hb => by
  obtain ⟨_, o, ho, _⟩ := I.ok.funs.mem hb
  exact absurd (Nat.lt_of_lt_of_le (Heap.lt_size ho) (Nat.le_trans I.sz h)) (Nat.lt_irrefl _)
theorem Inv.cne (I : Inv X pins σ H s) : ∀ x c, X.env.cells.lookup x = some c → c ≠ X.env.locals := fun x c e z => by
  obtain ⟨v, o, ho, hd⟩ := I.cell x c e
  obtain ⟨m, ⟨o', es, ep, ho', hd', _⟩, _⟩ := I.loc
  rw [z, ho'] at ho; cases ho; rw [hd'] at hd; cases hd
theorem Inv.funs (I : Inv X pins σ H s) : s.heap.FunFrames X.base X.outer := by
  have all : ∀ (l : List Env), (∀ b ∈ frs l, b ∈ X.fs) → X.s₀.heap.FunFrames X.base l → s.heap.FunFrames X.base l := by
    intro l
    induction l with
    | nil => intro _ _; trivial
    | cons env r ih =>
      intro hs hl
      obtain ⟨hk, ⟨L, o, hf, hn, ho, hd⟩, hr⟩ := hl
      have hL : L ∈ X.fs := hs L (by unfold frs; rw [List.filterMap_cons, hf]; exact List.mem_cons_self)
      obtain ⟨sl, e⟩ := I.base.slot L o ho (I.ok.frf L hL) hL fun z => I.ok.exfs L z hL
      exact ⟨hk, ⟨L, _, hf, hn, e, hd⟩, ih (fun b hb => hs b (by unfold frs; rw [List.filterMap_cons, hf]; exact List.mem_cons_of_mem _ hb)) hr⟩
  exact all X.outer (fun _ hb => hb) I.ok.funs
theorem Inv.stack (I : Inv X pins σ H s) : s.heap.FunFrames X.base X.stack := by
  rcases I.ok.stk with e | ⟨e, hf⟩
  · rw [e]; exact I.funs
  · rw [e]
    obtain ⟨m, hn, _⟩ := I.loc
    refine .cons (by rw [I.ok.kind]; decide) hf hn ?_ I.funs
    exact Heap.get?_none_of_le (Nat.le_trans I.ok.bsz I.ok.above)
theorem Inv.stkSub (I : Inv X pins σ H s) : ∀ b ∈ frs X.stack, b ∈ X.env.locals :: X.fs := fun b hb => by
  rcases I.ok.stk with e | ⟨e, hf⟩
  · rw [e] at hb; exact List.mem_cons_of_mem _ hb
  · rw [e] at hb
    unfold frs at hb
    rw [List.filterMap_cons, hf] at hb
    exact hb
theorem Inv.stkFree (I : Inv X pins σ H s) : ∀ b ∈ frs X.stack, H b = none := fun b hb => by
  rcases List.mem_cons.mp (I.stkSub b hb) with e | hb
  · rw [e]; exact I.free
  · obtain ⟨_, o, ho, _⟩ := I.ok.funs.mem hb
    exact I.base.free b o ho (I.ok.frf b hb) fun z => I.ok.exfs b z hb
theorem Inv.step {g' : Array GenState} {t' : Nat} {d' : Drawn} {ch : List Addr} (I : Inv X pins σ H s)
    (hch : ∀ b ∈ ch, (b ∈ X.ex ∨ X.s₀.heap.objs.size ≤ b) ∧ b ≠ X.env.locals ∧ (∀ x c, X.env.cells.lookup x = some c → c ≠ b) ∧ ∀ p ∈ X.pn ++ pins, p.1 ≠ b)
    (keep : ∀ b o, b ≠ X.env.locals → b ∉ X.fs → b ∉ ch → s.heap.get? b = some o → H b = none → h'.get? b = some o)
    (slot : ∀ b o, b ≠ X.env.locals → b ∈ X.fs → b ∉ ch → s.heap.get? b = some o → H b = none → ∃ sl, h'.get? b = some { o with slots := sl }) (free : ∀ b o, b ∉ ch → s.heap.get? b = some o → H b = none → H' b = none)
    (there : ∀ b o, b ∉ ch → s.heap.get? b = some o → ∃ o', h'.get? b = some o')
    (tups : ∀ b xs, H b = some (.tup xs) → H' b = some (.tup xs)) (frzs : ∀ b o u, H b = some (.frz o u) → H' b = some (.frz o u)) (tbls : ∀ b ps, H b = some (.tbl ps) → ∃ more, H' b = some (.tbl (ps ++ more)))
    (ns : ∀ m, s.heap.Ns X.env.locals m → h'.Ns X.env.locals m) (hok : HOk X.prog X.w H' h') (hg : AllBare g') :
    Inv X pins σ H' { s with heap := h', gens := g', drawn := d', toks := t' } := by
  have neL : ∀ b o, X.s₀.heap.get? b = some o → b ≠ X.env.locals := fun b o e => Nat.ne_of_lt (Nat.lt_of_lt_of_le (Heap.lt_size e) I.ok.above)
  have neC : ∀ b o, X.s₀.heap.get? b = some o → b ∉ X.ex → b ∉ ch := fun b o e hx hb => by
    rcases (hch b hb).1 with z | z
    · exact hx z
    · exact absurd (Nat.lt_of_lt_of_le (Heap.lt_size e) z) (Nat.lt_irrefl _)
  have cellK : ∀ x c, X.env.cells.lookup x = some c → ∀ v, s.heap.IsCell c v → h'.IsCell c v := fun x c e v ⟨o, ho, hd⟩ => by
    have nch : c ∉ ch := fun z => (hch c z).2.2.1 x c e rfl
    by_cases hc : c ∈ X.fs
    · obtain ⟨sl, q⟩ := slot c o (I.cne x c e) hc nch ho (I.freeC x c e)
      exact ⟨_, q, hd⟩
    · exact ⟨o, keep c o (I.cne x c e) hc nch ho (I.freeC x c e), hd⟩
  refine ⟨I.ok, I.os, hg, ⟨fun b o e n hb hx => ?_, fun b o e n hb hx => ?_, fun b o e n hx => ?_, fun b o e hx => ?_, fun b xs e => tups b xs (I.base.tups b xs e), fun b o xs e => frzs b o xs (I.base.frzs b o xs e), fun b ps e => ?_⟩, ?_, fun x c e => ?_, ?_, fun x c e => ?_, fun p hp => ?_, hok, I.len⟩
  · exact keep b o (neL b o e) hb (neC b o e hx) (I.base.keep b o e n hb hx) (I.base.free b o e n hx)
  · obtain ⟨sl, e1⟩ := I.base.slot b o e n hb hx
    obtain ⟨sl', e2⟩ := slot b _ (neL b o e) hb (neC b o e hx) e1 (I.base.free b o e n hx)
    exact ⟨sl', e2⟩
  · obtain ⟨o', e1⟩ := I.base.there b o e hx
    exact free b o' (neC b o e hx) e1 (I.base.free b o e n hx)
  · obtain ⟨o', e1⟩ := I.base.there b o e hx
    exact there b o' (neC b o e hx) e1
  · obtain ⟨m1, e1⟩ := I.base.tbls b ps e
    obtain ⟨m2, e2⟩ := tbls b _ e1
    exact ⟨m1 ++ m2, by rw [e2, Array.append_assoc]⟩
  · obtain ⟨m, hn, hl⟩ := I.loc
    refine ⟨m, ns m hn, fun i x v e1 e2 e3 => ?_⟩
    obtain ⟨u, r, l⟩ := hl i x v e1 e2 e3
    refine ⟨u, r, ?_⟩
    rcases l with l | ⟨k, c, e, z⟩
    · exact .inl l
    · exact .inr ⟨k, c, e, cellK x c e _ z⟩
  · obtain ⟨v, z⟩ := I.cell x c e
    exact ⟨v, cellK x c e v z⟩
  · obtain ⟨m, ⟨o, _, _, ho, _⟩, _⟩ := I.loc
    exact free _ o (fun z => (hch _ z).2.1 rfl) ho I.free
  · obtain ⟨v, o, ho, hd⟩ := I.cell x c e
    exact free c o (fun z => (hch c z).2.2.1 x c e rfl) ho (I.freeC x c e)
  · obtain ⟨e, n, ne, nf, d⟩ := I.pin p hp
    have nch : p.1 ∉ ch := fun z => (hch p.1 z).2.2.2 p hp rfl
    exact ⟨keep p.1 p.2 ne nf nch e n, free p.1 p.2 nch e n, ne, nf, d⟩
theorem Inv.un {t' : Nat} (I : Inv X pins σ H s) (u : Un X.fs [] H H' s.heap h') (hok : HOk X.prog X.w H' h') : Inv X pins σ H' { s with heap := h', toks := t' } := by
  obtain ⟨m, ⟨o, es, ep, ho, r⟩, _⟩ := id I.loc
  obtain ⟨sl, hL⟩ := u.any ho I.free (by simp)
  exact I.step (g' := s.gens) (d' := s.drawn) (ch := []) (fun _ z => nomatch z) (fun b o _ hb _ e n => u.keep b o e n hb (by simp)) (fun b o _ hb _ e n => u.slot b o e n hb (by simp)) (fun b o _ e n => u.free b o e n (by simp)) (fun b o _ e => u.there b o e (by simp)) u.tups u.frzs u.tbls (fun m' hm => by
    obtain ⟨o', es', ep', ho', r'⟩ := hm
    rw [ho] at ho'; cases ho'
    exact ⟨_, es', ep', hL, r'⟩) hok I.bare
theorem Inv.call {g' : Array GenState} {t' : Nat} {d' : Drawn} {ch : List Addr} (I : Inv X pins σ H s) (u : Un (frs X.stack) ch H H' s.heap h') (hok : HOk X.prog X.w H' h') (hg : AllBare g')
    (hch : ∀ b ∈ ch, (b ∈ X.ex ∨ X.s₀.heap.objs.size ≤ b) ∧ b ≠ X.env.locals ∧ (∀ x c, X.env.cells.lookup x = some c → c ≠ b) ∧ ∀ p ∈ X.pn ++ pins, p.1 ≠ b) :
    Inv X pins σ H' { s with heap := h', gens := g', drawn := d', toks := t' } := by
  obtain ⟨m, ⟨o, es, ep, ho, r⟩, _⟩ := id I.loc
  obtain ⟨sl, hL⟩ := u.any ho I.free fun z => (hch _ z).2.1 rfl
  exact I.step (ch := ch) hch (fun b o hL hb hc e n => u.keep b o e n (fun z => (List.mem_cons.mp (I.stkSub b z)).elim hL hb) hc) (fun b o _ _ hc e n => u.any e n hc) (fun b o hc e n => u.free b o e n hc) (fun b o hc e => u.there b o e hc) u.tups u.frzs u.tbls (fun m' hm => by
    obtain ⟨o', es', ep', ho', r'⟩ := hm
    rw [ho] at ho'; cases ho'
    exact ⟨_, es', ep', hL, r'⟩) hok hg
theorem Inv.turned {t' : Nat} {it : Addr} (I : Inv X pins σ H s) (k : ∀ b o, b ≠ it → s.heap.get? b = some o → h'.get? b = some o) (hn : H it = none) (hL : it ≠ X.env.locals)
    (h1 : it ∈ X.ex ∨ X.s₀.heap.objs.size ≤ it) (h2 : ∀ x c, X.env.cells.lookup x = some c → c ≠ it) (h3 : ∀ p ∈ X.pn ++ pins, p.1 ≠ it) : Inv X pins σ H { s with heap := h', toks := t' } := by
  have nit : ∀ b u, H b = some u → b ≠ it := fun b u e z => by rw [z, hn] at e; cases e
  refine I.step (g' := s.gens) (d' := s.drawn) (ch := [it]) (fun b hb => ?_) (fun b o _ _ hc e _ => k b o (fun z => hc (by simp [z])) e) (fun b o _ _ hc e _ => ⟨o.slots, k b o (fun z => hc (by simp [z])) e⟩) (fun _ _ _ _ n => n)
    (fun b o hc e => ⟨o, k b o (fun z => hc (by simp [z])) e⟩) (fun _ _ e => e) (fun _ _ _ e => e) (fun b ps e => ⟨#[], by rw [e]; simp⟩) (fun m hm => ?_) (fun b u e => ?_) I.bare
  · have e : b = it := by simpa using hb
    subst e
    exact ⟨h1, hL, h2, h3⟩
  · obtain ⟨o, es, ep, ho, r⟩ := hm
    exact ⟨o, es, ep, k _ o (Ne.symm hL) ho, r⟩
  · refine (I.hok b u e).stay (fun c v hc q => k c v ?_ q) (fun _ q => q) fun _ _ q => q
    rcases hc with z | z
    · rw [z]; exact nit b u e
    · exact nit c _ z
theorem Inv.tok (I : Inv X pins σ H s) (t : Nat) : Inv X pins σ H { s with toks := t } := I.un (h' := s.heap) (t' := t) Un.refl I.hok
theorem Inv.kept {t' : Nat} (I : Inv X pins σ H s) (k : ∀ b u, s.heap.get? b = some u → h'.get? b = some u) : Inv X pins σ H { s with heap := h', toks := t' } := I.un (Un.kept k) (I.hok.kept k)
theorem Inv.laid {a : Addr} {o : HO} {t' : Nat} (I : Inv X pins σ H s) (k : ∀ b u, s.heap.get? b = some u → h'.get? b = some u) (hp : s.heap.objs.size ≤ a) (new : ObjOk X.prog X.w (upd H a o) h' a o) :
    Inv X pins σ (upd H a o) { s with heap := h', toks := t' } := I.un (Un.laid k hp (I.hok.fresh hp)) (I.hok.laid k hp new)
theorem Inv.write {x e : Addr} {o : HO} {t' : Nat} (I : Inv X pins σ H s) (mu : Mut (H x)) (he : e = x ∨ H e = some (.own x)) (k : ∀ b u, b ≠ e → s.heap.get? b = some u → h'.get? b = some u) (heo : ∃ u, h'.get? e = some u)
    (new : ObjOk X.prog X.w (upd H x o) h' x o) : Inv X pins σ (upd H x o) { s with heap := h', toks := t' } := I.un (Un.write mu he k heo) (I.hok.write mu he k heo new)
theorem Inv.weak {σ' : List (Option V)} (I : Inv X pins σ H s) (hl : σ'.length = σ.length) (w : ∀ (i : Nat) v, σ'[i]? = some (some v) → σ[i]? = some (some v)) : Inv X pins σ' H s :=
  ⟨I.ok, I.os, I.bare, I.base, let ⟨m, hn, hl'⟩ := I.loc; ⟨m, hn, fun i x v e1 e2 e3 => hl' i x v e1 (w i v e2) e3⟩, I.cell, I.free, I.freeC, I.pin, I.hok, hl.trans I.len⟩
theorem Inv.pins_of {pins' : List (Addr × Obj)} (I : Inv X pins σ H s) (h : ∀ p ∈ pins', s.heap.get? p.1 = some p.2 ∧ H p.1 = none ∧ p.1 ≠ X.env.locals ∧ p.1 ∉ X.fs ∧ ∀ v, p.2.data ≠ .cell v) : Inv X pins' σ H s :=
  ⟨I.ok, I.os, I.bare, I.base, I.loc, I.cell, I.free, I.freeC, fun p hp => (List.mem_append.mp hp).elim (fun z => I.pin p (List.mem_append_left _ z)) (h p), I.hok, I.len⟩
theorem nodup_ix {N : List Str} (hN : N.Nodup) {i j : Nat} {x : Str} (a : N[i]? = some x) (b : N[j]? = some x) : i = j := by
  obtain ⟨h1, e1⟩ := List.getElem?_eq_some_iff.mp a
  obtain ⟨h2, e2⟩ := List.getElem?_eq_some_iff.mp b
  exact (List.getElem_inj hN).mp (e1.trans e2.symm)
theorem store_ok2 {M : Model} {A : Around} {E : Value → Shared → Prop} {i : Nat} {x : Str} {v : V} {u : Value} {Q : Unit → Shared → Prop} (I : Inv X pins σ H s) (hN : X.N.Nodup) (hi : X.N[i]? = some x) (hx : Loc X.env.scope x) (r : RelV v u)
    (h : ∀ s', Inv X pins (σ.set i (some v)) H s' → (∃ a, Heap.SameBut a s.heap s'.heap ∧ (a = X.env.locals ∨ X.env.cells.lookup x = some a)) → Q () s') (hf : X.fn x = true ∨ X.env.scope.names.lookup x = some .local := by first | exact .inl rfl | exact .inr rfl | assumption) : wpAny M A (storeName X.env x u) Q E s := by
  obtain ⟨m, hn, hl⟩ := id I.loc
  have hcls : (X.env.scope.kind == .class || (X.env.scope.kind == .module && X.env.locals != X.env.globals)) = false := by rw [I.ok.kind]; rfl
  have hiσ : i < σ.length := by rw [I.len]; exact (List.getElem?_eq_some_iff.mp hi).1
  have cne := I.cne
  have tracked : ∀ {a : Addr} {h' : Heap}, (∃ o, s.heap.get? a = some o ∧ H a = none) → Heap.SameBut a s.heap h' → HOk X.prog X.w H h' := fun {a h'} ha hs b ob e => by
    obtain ⟨_, _, hfree⟩ := ha
    refine (I.hok b ob e).stay (fun c w' hc q => (hs.2 c ?_).trans q) (fun _ q => q) fun _ _ q => q
    rintro rfl
    rcases hc with rfl | hc
    · rw [hfree] at e; cases e
    · rw [hfree] at hc; cases hc
  rcases hx with hk | hk
  · refine wpAny_storeName_local hk hn (fun h' hn' hs => ?_) hcls
    obtain ⟨oL, _, _, hoL, _⟩ := id hn
    refine h _ ⟨I.ok, I.os, I.bare, ⟨fun b o e n hb hx => ?_, fun b o e n hb hx => ?_, I.base.free, fun b o e hx => ?_, I.base.tups, I.base.frzs, I.base.tbls⟩, ⟨_, hn', fun j y v' e1 e2 e3 => ?_⟩, fun y c e => ?_, I.free, I.freeC, fun p hp => ?_, tracked ⟨oL, hoL, I.free⟩ hs, by simpa using I.len⟩ ⟨_, hs, .inl rfl⟩
    · exact (hs.2 b (Nat.ne_of_lt (Nat.lt_of_lt_of_le (Heap.lt_size e) I.ok.above))).trans (I.base.keep b o e n hb hx)
    · obtain ⟨sl, e1⟩ := I.base.slot b o e n hb hx
      exact ⟨sl, (hs.2 b (Nat.ne_of_lt (Nat.lt_of_lt_of_le (Heap.lt_size e) I.ok.above))).trans e1⟩
    · obtain ⟨o', e1⟩ := I.base.there b o e hx
      exact ⟨o', (hs.2 b (Nat.ne_of_lt (Nat.lt_of_lt_of_le (Heap.lt_size e) I.ok.above))).trans e1⟩
    · by_cases hj : j = i
      · subst hj
        rw [hi] at e1; cases e1
        rw [List.getElem?_set_self hiσ] at e2
        cases e2
        exact ⟨u, r, .inl ⟨hk, by simp⟩⟩
      · rw [List.getElem?_set_ne (Ne.symm hj)] at e2
        obtain ⟨u', r', q⟩ := hl j y v' e1 e2 e3
        refine ⟨u', r', ?_⟩
        rcases q with ⟨k, e⟩ | ⟨k, c, e, z⟩
        · refine .inl ⟨k, ?_⟩
          have : y ≠ x := fun e => hj (nodup_ix hN e1 (e ▸ hi))
          simp [this, e]
        · exact .inr ⟨k, c, e, z.sameBut hs (cne y c e)⟩
    · obtain ⟨w', z⟩ := I.cell y c e
      exact ⟨w', z.sameBut hs (cne y c e)⟩
    · obtain ⟨e, n, ne, nf, d⟩ := I.pin p hp
      exact ⟨(hs.2 p.1 ne).trans e, n, ne, nf, d⟩
  · have hfn : X.fn x = true := by
      rcases hf with z | z
      · exact z
      · rw [z] at hk; cases hk
    obtain ⟨c, hc⟩ := I.ok.has x (.inl hk)
    obtain ⟨w', z⟩ := I.cell x c hc
    refine wpAny_storeName_cell I.ok.kind hk hc z (fun h' hc' hs => ?_)
    obtain ⟨oc, hoc, hocd⟩ := id z
    refine h { s with heap := h' } ⟨I.ok, I.os, I.bare, ⟨fun b o e n hb hx => ?_, fun b o e n hb hx => ?_, I.base.free, fun b o e hx => ?_, I.base.tups, I.base.frzs, I.base.tbls⟩, ⟨m, hn.sameBut hs (Ne.symm (cne x c hc)), fun j y v' e1 e2 e3 => ?_⟩, fun y c' e => ?_, I.free, I.freeC, fun p hp => ?_, tracked ⟨oc, hoc, I.freeC x c hc⟩ hs, by simpa using I.len⟩ ⟨c, hs, .inr hc⟩
    · exact (hs.2 b (Nat.ne_of_lt (Nat.lt_of_lt_of_le (Heap.lt_size e) (I.ok.cab x c hfn hc)))).trans (I.base.keep b o e n hb hx)
    · obtain ⟨sl, e1⟩ := I.base.slot b o e n hb hx
      exact ⟨sl, (hs.2 b (Nat.ne_of_lt (Nat.lt_of_lt_of_le (Heap.lt_size e) (I.ok.cab x c hfn hc)))).trans e1⟩
    · obtain ⟨o', e1⟩ := I.base.there b o e hx
      exact ⟨o', (hs.2 b (Nat.ne_of_lt (Nat.lt_of_lt_of_le (Heap.lt_size e) (I.ok.cab x c hfn hc)))).trans e1⟩
    · by_cases hj : j = i
      · subst hj
        rw [hi] at e1; cases e1
        rw [List.getElem?_set_self hiσ] at e2
        cases e2
        exact ⟨u, r, .inr ⟨.inl hk, c, hc, hc'⟩⟩
      · rw [List.getElem?_set_ne (Ne.symm hj)] at e2
        obtain ⟨u', r', q⟩ := hl j y v' e1 e2 e3
        refine ⟨u', r', ?_⟩
        rcases q with q | ⟨k, c', e, z'⟩
        · exact .inl q
        · refine .inr ⟨k, c', e, z'.sameBut hs ?_⟩
          rintro rfl
          exact hj (nodup_ix hN e1 (I.ok.inj _ _ _ e hc ▸ hi))
    · by_cases hcc : c' = c
      · subst hcc; exact ⟨_, hc'⟩
      · obtain ⟨w2, z2⟩ := I.cell y c' e
        exact ⟨w2, z2.sameBut hs hcc⟩
    · obtain ⟨e, n, ne, nf, d⟩ := I.pin p hp
      refine ⟨(hs.2 p.1 ?_).trans e, n, ne, nf, d⟩
      intro q
      rw [q, hoc] at e
      have q' : oc = p.2 := Option.some.inj e
      exact d w' (by rw [← q']; exact hocd)
theorem store_ok {M : Model} {A : Around} {E : Value → Shared → Prop} {i : Nat} {x : Str} {v : V} {u : Value} {Q : Unit → Shared → Prop} (I : Inv X pins σ H s) (hN : X.N.Nodup) (hi : X.N[i]? = some x) (hx : Loc X.env.scope x) (r : RelV v u)
    (h : ∀ s', Inv X pins (σ.set i (some v)) H s' → Q () s') (hf : X.fn x = true ∨ X.env.scope.names.lookup x = some .local := by first | exact .inl rfl | exact .inr rfl | assumption) : wpAny M A (storeName X.env x u) Q E s :=
  store_ok2 I hN hi hx r (fun s' I' _ => h s' I') hf
theorem Inv.call' {s' : Shared} {ch : List Addr} (I : Inv X pins σ H s) (ho : s'.os = s.os) (u : Un (frs X.stack) ch H H' s.heap s'.heap) (hok : HOk X.prog X.w H' s'.heap) (hg : AllBare s'.gens)
    (hch : ∀ b ∈ ch, (b ∈ X.ex ∨ X.s₀.heap.objs.size ≤ b) ∧ b ≠ X.env.locals ∧ (∀ x c, X.env.cells.lookup x = some c → c ≠ b) ∧ ∀ p ∈ X.pn ++ pins, p.1 ≠ b) : Inv X pins σ H' s' := by
  obtain ⟨h', g', d', t', o'⟩ := s'
  have e : o' = s.os := ho
  subst e
  exact I.call (g' := g') (t' := t') (d' := d') u hok hg hch
end
noncomputable abbrev XK := Value → Option Addr → Hp → Prop
noncomputable abbrev St := List (Option V)
noncomputable abbrev VK := V → Hp → Prop
noncomputable abbrev TE := St → Hp → VK → Prop
noncomputable abbrev TT := St → Hp → (Bool → Hp → Prop) → Prop
noncomputable abbrev TA := St → Hp → (List V → Hp → Prop) → Prop
structure Ends where
  nx : St → Hp → Prop
  rt : VK
  bk : St → Hp → Prop := fun _ _ => False
  ct : St → Hp → Prop := fun _ _ => False
noncomputable abbrev TS := Ends → St → Hp → Prop
noncomputable def EP (X : Cx) (pins : List (Addr × Obj)) (σ : St) (Q : VK) (u : Value) (s' : Shared) : Prop := ∃ v H', Inv X pins σ H' s' ∧ RelV v u ∧ Q v H'
noncomputable def TP (X : Cx) (pins : List (Addr × Obj)) (σ : St) (Q : Bool → Hp → Prop) (b : Bool) (s' : Shared) : Prop := ∃ H', Inv X pins σ H' s' ∧ Q b H'
noncomputable def AP (X : Cx) (pins : List (Addr × Obj)) (σ : St) (Q : List V → Hp → Prop) (us : List Value) (s' : Shared) : Prop := ∃ vs H', Inv X pins σ H' s' ∧ Vals vs us ∧ Q vs H'
noncomputable def SP (X : Cx) (pins : List (Addr × Obj)) (D : Ends) (f : Flow) (s' : Shared) : Prop :=
  match f with
  | .next => ∃ σ' H', Inv X pins σ' H' s' ∧ D.nx σ' H'
  | .brk => ∃ σ' H', Inv X pins σ' H' s' ∧ D.bk σ' H'
  | .cont => ∃ σ' H', Inv X pins σ' H' s' ∧ D.ct σ' H'
  | .ret u => ∃ v σ' H', Inv X pins σ' H' s' ∧ RelV v u ∧ D.rt v H'
noncomputable def PE (X : Cx) (e : Expr) (t : TE) : Prop :=
  ∀ (pins : List (Addr × Obj)) (s : Shared) (σ : St) (H : Hp) (Q : VK), Inv X pins σ H s → t σ H Q → wpAny (model X.prog X.w) X.A (eval e X.env) (EP X pins σ Q) X.xe s
noncomputable def PT (X : Cx) (e : Expr) (t : TT) : Prop :=
  ∀ (pins : List (Addr × Obj)) (s : Shared) (σ : St) (H : Hp) (Q : Bool → Hp → Prop), Inv X pins σ H s → t σ H Q → wpAny (model X.prog X.w) X.A (isTrue e X.env (eval e X.env)) (TP X pins σ Q) X.xe s
noncomputable def PW (X : Cx) (e : Expr) (t : TT) : Prop :=
  ∀ (whole : Sem Value) (pins : List (Addr × Obj)) (s : Shared) (σ : St) (H : Hp) (Q : Bool → Hp → Prop), Inv X pins σ H s → t σ H Q → wpAny (model X.prog X.w) X.A (isTrue e X.env whole) (TP X pins σ Q) X.xe s
theorem PW.pt {X : Cx} {e : Expr} {t : TT} (h : PW X e t) : PT X e t := h _
noncomputable def PA (X : Cx) (es : List Expr) (t : TA) : Prop :=
  ∀ (pos : Pos) (pins : List (Addr × Obj)) (s : Shared) (σ : St) (H : Hp) (Q : List V → Hp → Prop), Inv X pins σ H s → t σ H Q → wpAny (model X.prog X.w) X.A (spliced (backTo pos (starEach es X.env))) (AP X pins σ Q) X.xe s
noncomputable def PS (X : Cx) (st : Stmt) (t : TS) : Prop :=
  ∀ (pins : List (Addr × Obj)) (s : Shared) (σ : St) (H : Hp) (D : Ends), Inv X pins σ H s → t D σ H → wpAny (model X.prog X.w) X.A (exec st X.env) (SP X pins D) X.xe s
noncomputable def PSs (X : Cx) (st : List Stmt) (t : TS) : Prop :=
  ∀ (pins : List (Addr × Obj)) (s : Shared) (σ : St) (H : Hp) (D : Ends), Inv X pins σ H s → t D σ H → wpAny (model X.prog X.w) X.A (execs st X.env) (SP X pins D) X.xe s
theorem thn {α : Type} {t : Sem α} {Q Q' : α → Shared → Prop} {M : Model} {A : Around} {E : Value → Shared → Prop} {s : Shared} (h : wpAny M A t Q E s) (hQ : ∀ a s, Q a s → Q' a s) : wpAny M A t Q' E s := wpAny_mono h hQ fun _ _ x => x
end L2
namespace L2
open PySem PySem.Spec PyProof.Rows
section
variable {X : Cx}
noncomputable def tVar (i : Nat) : TE := fun σ H Q => ∃ v, σ[i]? = some (some v) ∧ Q v H
noncomputable def tC (v : V) : TE := fun _ H Q => Q v H
theorem pe_var {i : Nat} {x : Str} {pos : Pos} (hN : X.N[i]? = some x) (hv : Vis X.env.scope x) (hd : (x == ("__debug__" : Str)) = false := by decide) (hcd : (x == ("__classdict__" : Str)) = false := by decide) : PE X (.Name x pos) (tVar i) := by
  intro pins s σ H Q I h
  obtain ⟨v, e, h⟩ := h
  obtain ⟨m, hn, hl⟩ := I.loc
  obtain ⟨u, r, l⟩ := hl i x v hN e hv
  have fin : EP X pins σ Q u s := ⟨v, H, I, r, h⟩
  rcases l with ⟨hk, hm⟩ | ⟨hk, c, hc, hcell⟩
  · exact wpAny_Name (wpAny_loadName_local I.ok.kind hk hn hm fin) hd
  · rcases hk with hk | hk
    · exact wpAny_Name (wpAny_loadName_cell I.ok.kind hk hc hcell fin) hd
    · exact wpAny_Name (wpAny_loadName_free I.ok.kind hk hc hcell fin hcd) hd
theorem pe_int {i j pos} : PE X (.Constant (.int i) j pos) (tC (.int i)) := fun _ _ _ H _ I h => wpAny_Constant_int ⟨.int i, H, I.tok _, ⟨_, rfl⟩, h⟩
theorem pe_bl {b j pos} : PE X (.Constant (.bool b) j pos) (tC (.bl b)) := fun _ _ _ H _ I h => Constant_bool ⟨.bl b, H, I, rfl, h⟩
theorem pe_non {j pos} : PE X (.Constant .none j pos) (tC .non) := fun _ _ _ H _ I h => Constant_none ⟨.non, H, I, rfl, h⟩
theorem pe_str {x j pos} : PE X (.Constant (.str x) j pos) (tC (.str x)) := fun _ _ _ H _ I h => Calls.Constant_str ⟨.str x, H, I.tok _, ⟨_, rfl⟩, h⟩
noncomputable def Gl (X : Cx) (x : Str) : Prop := X.env.kindOf x = some .globalImplicit
theorem ld_glob {E : Value → Shared → Prop} {pins : List (Addr × Obj)} {s : Shared} {σ : St} {H : Hp} {x : Str} {u : Value} {pos : Pos} {Q : Value → Shared → Prop} (I : Inv X pins σ H s) (hg : Gl X x) (hm : X.mg x = some u) (h : Q u s)
    (hd : (x == ("__debug__" : Str)) = false := by decide) : wpAny (model X.prog X.w) X.A (eval (.Name x pos) X.env) Q E s :=
  Calls.Name_function_global I.ok.kind hg (Calls.loadGlobal_global (by rw [I.ok.glob]; exact I.mod.glob.keeps I.bk) hm h) hd
theorem ld_blt {E : Value → Shared → Prop} {pins : List (Addr × Obj)} {s : Shared} {σ : St} {H : Hp} {x : Str} {u : Value} {pos : Pos} {Q : Value → Shared → Prop} (I : Inv X pins σ H s) (hg : Gl X x) (hm : X.mg x = none) (hv : bootBuiltins x = some u) (h : Q u s)
    (hn : x ≠ "__name__" := by decide) (hd : (x == ("__debug__" : Str)) = false := by decide) : wpAny (model X.prog X.w) X.A (eval (.Name x pos) X.env) Q E s := by
  obtain ⟨mb, h1, h2⟩ := I.mod.blt
  exact Calls.Name_function_global I.ok.kind hg (Calls.loadGlobal_builtin (by rw [I.ok.glob]; exact I.mod.glob.keeps I.bk) hm (by rw [I.ok.blt]; exact h1.keeps I.bk) ((h2 x hn).trans hv) h) hd
theorem pe_glob {x : Str} {v : V} {u : Value} {pos : Pos} (hg : Gl X x) (hm : X.mg x = some u) (r : RelV v u) (hd : (x == ("__debug__" : Str)) = false := by decide) : PE X (.Name x pos) (tC v) :=
  fun _ _ _ H _ I h => ld_glob I hg hm ⟨v, H, I, r, h⟩ hd
theorem pe_bltn {x : Str} {v : V} {u : Value} {pos : Pos} (hg : Gl X x) (hm : X.mg x = none) (hv : bootBuiltins x = some u) (r : RelV v u) (hn : x ≠ "__name__" := by decide) (hd : (x == ("__debug__" : Str)) = false := by decide) : PE X (.Name x pos) (tC v) :=
  fun _ _ _ H _ I h => ld_blt I hg hm hv ⟨v, H, I, r, h⟩ hn hd
noncomputable def t2I (ta tb : TE) (k : Int → Int → Hp → Prop) : St → Hp → Prop := fun σ H => ta σ H fun x H1 => tb σ H1 fun y H2 => ∃ i j, x = .int i ∧ y = .int j ∧ k i j H2
noncomputable def tAdd (ta tb : TE) : TE := fun σ H Q => t2I ta tb (fun i j H2 => Q (.int (i + j)) H2) σ H
noncomputable def tSub (ta tb : TE) : TE := fun σ H Q => t2I ta tb (fun i j H2 => Q (.int (i - j)) H2) σ H
noncomputable def tMul (ta tb : TE) : TE := fun σ H Q => t2I ta tb (fun i j H2 => (-(2 ^ 64) < i ∧ i < 2 ^ 64) ∧ Q (.int (i * j)) H2) σ H
variable {a b : Expr} {ta tb : TE} {pos : Pos}
noncomputable def PC (X : Cx) (op : CmpOp) (a b : Expr) (t : TE) : Prop :=
  ∀ (pins : List (Addr × Obj)) (s : Shared) (σ : St) (H : Hp) (Q : VK), Inv X pins σ H s → t σ H Q →
    wpAny (model X.prog X.w) X.A (eval a X.env) (fun v s₁ => wpAny (model X.prog X.w) X.A (eval b X.env) (fun u s₂ => wpAny (model X.prog X.w) X.A (compareOp op v u) (EP X pins σ Q) X.xe s₂) X.xe s₁) X.xe s
theorem nobehind (b : Expr) {op : CmpOp} (h : op ≠ .In) (h2 : op ≠ .NotIn) : behindInMarks op b = false := by
  have e1 : (op == CmpOp.In) = false := by cases op <;> first | rfl | exact absurd rfl h
  have e2 : (op == CmpOp.NotIn) = false := by cases op <;> first | rfl | exact absurd rfl h2
  cases b <;> simp [behindInMarks, e1, e2]
noncomputable def tCmp (p : Int → Int → Bool) (ta tb : TE) : TE := fun σ H Q => t2I ta tb (fun i j H2 => Q (.bl (p i j)) H2) σ H
noncomputable abbrev tLt : TE → TE → TE := tCmp fun i j => decide (i < j)
noncomputable abbrev tLe : TE → TE → TE := tCmp fun i j => decide (i ≤ j)
noncomputable abbrev tGt : TE → TE → TE := tCmp fun i j => decide (j < i)
noncomputable abbrev tGe : TE → TE → TE := tCmp fun i j => decide (j ≤ i)
noncomputable abbrev tEqI : TE → TE → TE := tCmp fun i j => decide (i = j)
noncomputable abbrev tNeI : TE → TE → TE := tCmp fun i j => !decide (i = j)
noncomputable def tIsN (ta : TE) : TE := fun σ H Q => ta σ H fun x H1 => Q (.bl (decide (x = .non))) H1
noncomputable def tNotN (ta : TE) : TE := fun σ H Q => ta σ H fun x H1 => Q (.bl (!decide (x = .non))) H1
noncomputable def tB (t : TE) : TT := fun σ H Q => t σ H fun x H1 => ∃ c, x = .bl c ∧ Q c H1
theorem pt_cmp {op : CmpOp} {t : TE} (h : PC X op a b t) (h1 : behindInMarks op b = false := by first | exact nobehind _ (by decide) (by decide) | rfl) : PT X (.Compare a [op] [b] pos) (tB t) := by
  intro pins s σ H Q I hw
  refine wpAny_isTrue_Compare1 (thn (h pins s σ H _ I hw) fun v s1 h1 => thn h1 fun u s2 h2 => thn h2 fun c s3 ⟨x, H1, I1, r1, q1⟩ => ?_) h1
  obtain ⟨d, rfl, q⟩ := q1
  cases r1
  exact wpAny_truthy_bool ⟨H1, I1, q⟩
theorem pt_val {e : Expr} {t : TE} (h : PE X e t) (he : ∀ whole, isTrue e X.env whole = (do let v ← whole; standAt e.pos; holding [v] (truthy v)) := by intro _; rfl) : PT X e (tB t) := by
  intro pins s σ H Q I hw
  refine isTrue_plain (thn (h pins s σ H _ I hw) fun v s1 ⟨x, H1, I1, r1, q1⟩ => ?_) (he _)
  obtain ⟨d, rfl, q⟩ := q1
  cases r1
  exact wpAny_truthy_bool ⟨H1, I1, q⟩
variable {tA tB' : TT} {rest : List Expr}
noncomputable def tAnd (t u : TT) : TT := fun σ H Q => t σ H fun c H1 => if c = true then u σ H1 Q else Q false H1
noncomputable def tOr (t u : TT) : TT := fun σ H Q => t σ H fun c H1 => if c = true then Q true H1 else u σ H1 Q
noncomputable def tNot (t : TT) : TT := fun σ H Q => t σ H fun c H1 => Q (!c) H1
theorem pw_and1 (ha : PT X a tA) : PW X (.BoolOp .And [a] pos) tA := by
  intro wh pins s σ H Q I h
  refine isTrue_and (thn (ha pins s σ H Q I h) fun c s1 e => ?_)
  cases c with
  | true => exact isTrue_and_nil e
  | false => exact e
theorem pw_or1 (ha : PT X a tA) : PW X (.BoolOp .Or [a] pos) tA := by
  intro wh pins s σ H Q I h
  refine isTrue_or (thn (ha pins s σ H Q I h) fun c s1 e => ?_)
  cases c with
  | false => exact isTrue_or_nil e
  | true => exact e
theorem pw_and (ha : PT X a tA) (hb : PW X (.BoolOp .And (b :: rest) pos) tB') : PW X (.BoolOp .And (a :: b :: rest) pos) (tAnd tA tB') := by
  intro wh pins s σ H Q I h
  refine isTrue_and (thn (ha pins s σ H _ I h) fun c s1 ⟨H1, I1, q1⟩ => ?_)
  cases c with
  | true => exact hb wh pins s1 σ H1 Q I1 q1
  | false => exact ⟨H1, I1, q1⟩
theorem pw_or (ha : PT X a tA) (hb : PW X (.BoolOp .Or (b :: rest) pos) tB') : PW X (.BoolOp .Or (a :: b :: rest) pos) (tOr tA tB') := by
  intro wh pins s σ H Q I h
  refine isTrue_or (thn (ha pins s σ H _ I h) fun c s1 ⟨H1, I1, q1⟩ => ?_)
  cases c with
  | true => exact ⟨H1, I1, q1⟩
  | false => exact hb wh pins s1 σ H1 Q I1 q1
theorem pt_not (ha : PT X a tA) : PT X (.UnaryOp .Not a pos) (tNot tA) := by
  intro pins s σ H Q I h
  exact isTrue_not (ha pins s σ H (fun c H1 => Q (!c) H1) I h)
noncomputable def tAndV (ta tb : TE) : TE := fun σ H Q => ta σ H fun x H1 => ∃ c, x = .bl c ∧ if c = true then tb σ H1 Q else Q (.bl false) H1
noncomputable def tOrV (ta tb : TE) : TE := fun σ H Q => ta σ H fun x H1 => ∃ c, x = .bl c ∧ if c = true then Q (.bl true) H1 else tb σ H1 Q
noncomputable def tNotV (ta : TE) : TE := fun σ H Q => ta σ H fun x H1 => ∃ c, x = .bl c ∧ Q (.bl (!c)) H1
theorem pe_one {op} {t : TE} (h : PE X a t) : PE X (.BoolOp op [a] pos) t := fun pins s σ H Q I hw => BoolOp_one (h pins s σ H Q I hw)
theorem pe_and (ha : PE X a ta) (hb : PE X (.BoolOp .And (b :: rest) pos) tb) : PE X (.BoolOp .And (a :: b :: rest) pos) (tAndV ta tb) := by
  intro pins s σ H Q I h
  refine BoolOp_and (thn (ha pins s σ H _ I h) fun v s1 ⟨x, H1, I1, r1, q1⟩ => ?_)
  obtain ⟨c, rfl, q1⟩ := q1
  cases r1
  refine wpAny_truthy_bool ?_
  cases c with
  | true => exact hb pins s1 σ H1 Q I1 q1
  | false => exact ⟨.bl false, H1, I1, rfl, q1⟩
theorem pe_or (ha : PE X a ta) (hb : PE X (.BoolOp .Or (b :: rest) pos) tb) : PE X (.BoolOp .Or (a :: b :: rest) pos) (tOrV ta tb) := by
  intro pins s σ H Q I h
  refine BoolOp_or (thn (ha pins s σ H _ I h) fun v s1 ⟨x, H1, I1, r1, q1⟩ => ?_)
  obtain ⟨c, rfl, q1⟩ := q1
  cases r1
  refine wpAny_truthy_bool ?_
  cases c with
  | false => exact hb pins s1 σ H1 Q I1 q1
  | true => exact ⟨.bl true, H1, I1, rfl, q1⟩
theorem pe_not (ha : PE X a ta) : PE X (.UnaryOp .Not a pos) (tNotV ta) := by
  intro pins s σ H Q I h
  refine UnaryOp_ (thn (ha pins s σ H _ I h) fun v s1 ⟨x, H1, I1, r1, q1⟩ => ?_)
  obtain ⟨c, rfl, q1⟩ := q1
  cases r1
  exact not_of (wpAny_truthy_bool ⟨.bl (!c), H1, I1, rfl, q1⟩)
noncomputable def tIf (t : TT) (ta tb : TE) : TE := fun σ H Q => t σ H fun c H1 => if c = true then ta σ H1 Q else tb σ H1 Q
theorem pe_ifExp {c : Expr} (hc : PT X c tA) (ha : PE X a ta) (hb : PE X b tb) : PE X (.IfExp c a b pos) (tIf tA ta tb) := by
  intro pins s σ H Q I h
  refine wpAny_IfExp (thn (hc pins s σ H _ I h) fun d s1 ⟨H1, I1, q1⟩ => ?_)
  cases d with
  | true => exact ha pins s1 σ H1 Q I1 q1
  | false => exact hb pins s1 σ H1 Q I1 q1
end
end L2
namespace L2
open PySem PySem.Spec PyProof.Rows
noncomputable def SqL (K : PySem.W.Frag) (H : Hp) (a : Addr) (xs : List V) : Prop :=
  Rd H a (.lst xs) ∨
    ∃ (o : Obj) (its : Array Value) (n : Nat), K.lookup a = some o ∧ o.cls = .type "list" ∧ o.dict = none ∧ o.data = .seq its n ∧ its.size ≤ sizeLine ∧ Vals xs its.toList
noncomputable def SqT (K : PySem.W.Frag) (H : Hp) (a : Addr) (xs : List V) : Prop :=
  Rd H a (.tup xs) ∨
    ∃ (o : Obj) (its : Array Value) (n : Nat), K.lookup a = some o ∧ o.cls = .type "tuple" ∧ o.data = .seq its n ∧ its.size ≤ sizeLine ∧ Vals xs its.toList
noncomputable def absV : Value → Option V
  | .none => some .non
  | .bool b => some (.bl b)
  | .int i _ => some (.int i)
  | .str x _ => some (.str x)
  | .bytes b _ => some (.byt b)
  | .float b _ => some (.flt b)
  | .ref a => some (.ref a)
  | .type n => some (.ty n)
  | _ => none
theorem RelV.abs {x : V} {u : Value} (r : RelV x u) : absV u = some x := by
  cases x with
  | non => cases r; rfl
  | bl _ => cases r; rfl
  | int _ => obtain ⟨t, rfl⟩ := r; rfl
  | str _ => obtain ⟨t, rfl⟩ := r; rfl
  | byt _ => obtain ⟨t, rfl⟩ := r; rfl
  | flt _ => obtain ⟨t, rfl⟩ := r; rfl
  | ref _ => cases r; rfl
  | ty _ => cases r; rfl
theorem RelV.inj {x y : V} {u : Value} (r : RelV x u) (q : RelV y u) : x = y := Option.some.inj (r.abs.symm.trans q.abs)
theorem Vals.inj : ∀ {xs ys : List V} {us : List Value}, Vals xs us → Vals ys us → xs = ys
  | _, _, _, .nil, .nil => rfl
  | _, _, _, .cons r t, .cons r' t' => by rw [r.inj r', Vals.inj t t']
section
variable {X : Cx} {pins : List (Addr × Obj)} {σ : St} {H : Hp} {s : Shared} {a : Addr} {xs ys : List V}
theorem SqL.of {K : PySem.W.Frag} (h : H a = some (.lst xs)) : SqL K H a xs := .inl (.inl h)
theorem SqT.of {K : PySem.W.Frag} (h : H a = some (.tup xs)) : SqT K H a xs := .inl (.inl h)
theorem Inv.list (I : Inv X pins σ H s) (h : SqL X.K H a xs) : ∃ its : List Value, Vals xs its ∧ PlainL s.heap a its.toArray ∧ xs.length ≤ sizeLine := by
  rcases h with h | ⟨o, its, n, hk, hc, hd, hs, hz, r⟩
  · obtain ⟨z, its, n, r, e⟩ := h.ok I.hok
    exact ⟨its, r, ⟨_, n, e, rfl, rfl, rfl⟩, z⟩
  · refine ⟨its.toList, r, ⟨o, n, I.kIn a o hk, hc, hd, by simpa using hs⟩, ?_⟩
    have e := r.length
    simp only [Array.length_toList] at e
    omega
theorem Inv.tuple (I : Inv X pins σ H s) (h : SqT X.K H a xs) : ∃ its : List Value, Vals xs its ∧ IsTup s.heap a its.toArray ∧ xs.length ≤ sizeLine := by
  rcases h with h | ⟨o, its, n, hk, hc, hs, hz, r⟩
  · obtain ⟨z, its, r, p⟩ := h.ok I.hok
    exact ⟨its, r, p, z⟩
  · refine ⟨its.toList, r, ⟨o, I.kIn a o hk, hc, n, by simpa using hs⟩, ?_⟩
    have e := r.length
    simp only [Array.length_toList] at e
    omega
theorem Inv.list_inj (I : Inv X pins σ H s) (h : SqL X.K H a xs) (h' : SqL X.K H a ys) : xs = ys := by
  obtain ⟨its, r, ⟨o, n, e, _, _, d⟩, _⟩ := I.list h
  obtain ⟨its', r', ⟨o', n', e', _, _, d'⟩, _⟩ := I.list h'
  rw [e] at e'; cases e'
  rw [d] at d'
  injection d' with d1 _
  have : its = its' := by simpa using congrArg Array.toList d1
  subst this
  exact r.inj r'
theorem Inv.tuple_inj (I : Inv X pins σ H s) (h : SqT X.K H a xs) (h' : SqT X.K H a ys) : xs = ys := by
  obtain ⟨its, r, ⟨o, e, _, n, d⟩, _⟩ := I.tuple h
  obtain ⟨its', r', ⟨o', e', _, n', d'⟩, _⟩ := I.tuple h'
  rw [e] at e'; cases e'
  rw [d] at d'
  injection d' with d1 _
  have : its = its' := by simpa using congrArg Array.toList d1
  subst this
  exact r.inj r'
end
noncomputable abbrev Cx.wish (X : Cx) (E : Value → Shared → Prop) : Cx := { X with xe := E }
noncomputable abbrev Cx.nox (X : Cx) : Cx := X.wish fun _ _ => False
theorem Cx.Ok.wish {X : Cx} (ok : X.Ok) (E : Value → Shared → Prop) : (X.wish E).Ok :=
  ⟨ok.mod, ok.kind, ok.glob, ok.blt, ok.above, ok.inj, ok.has, ok.cab, ok.hd, ok.frames, ok.stk, ok.exf, ok.bs, ok.bsz, ok.noex, ok.exfs, ok.funs, ok.frf⟩
theorem Cx.Ok.unwish {X : Cx} {E : Value → Shared → Prop} (ok : (X.wish E).Ok) : X.Ok :=
  ⟨ok.mod, ok.kind, ok.glob, ok.blt, ok.above, ok.inj, ok.has, ok.cab, ok.hd, ok.frames, ok.stk, ok.exf, ok.bs, ok.bsz, ok.noex, ok.exfs, ok.funs, ok.frf⟩
section
variable {X : Cx} {pins : List (Addr × Obj)} {σ : St} {H : Hp} {s : Shared} {E : Value → Shared → Prop}
theorem Inv.wish (I : Inv X pins σ H s) (E : Value → Shared → Prop) : Inv (X.wish E) pins σ H s := ⟨I.ok.wish E, I.os, I.bare, I.base, I.loc, I.cell, I.free, I.freeC, I.pin, I.hok, I.len⟩
theorem Inv.unwish (I : Inv (X.wish E) pins σ H s) : Inv X pins σ H s := ⟨I.ok.unwish, I.os, I.bare, I.base, I.loc, I.cell, I.free, I.freeC, I.pin, I.hok, I.len⟩
theorem SP.unwish {D : Ends} {f : Flow} {s' : Shared} (h : SP (X.wish E) pins D f s') : SP X pins D f s' := by
  cases f with
  | next => obtain ⟨σ', H', I, q⟩ := h; exact ⟨σ', H', I.unwish, q⟩
  | brk => obtain ⟨σ', H', I, q⟩ := h; exact ⟨σ', H', I.unwish, q⟩
  | cont => obtain ⟨σ', H', I, q⟩ := h; exact ⟨σ', H', I.unwish, q⟩
  | ret u => obtain ⟨v, σ', H', I, r, q⟩ := h; exact ⟨v, σ', H', I.unwish, r, q⟩
theorem PE.nox {e : Expr} {t : TE} (h : PE X.nox e t) : PE X e t := fun pins s σ H Q I hw =>
  wpAny_mono (h pins s σ H Q (I.wish _) hw) (fun _ _ ⟨v, H', I', r, q⟩ => ⟨v, H', I'.unwish, r, q⟩) fun _ _ z => False.elim z
theorem PT.nox {e : Expr} {t : TT} (h : PT X.nox e t) : PT X e t := fun pins s σ H Q I hw =>
  wpAny_mono (h pins s σ H Q (I.wish _) hw) (fun _ _ ⟨H', I', q⟩ => ⟨H', I'.unwish, q⟩) fun _ _ z => False.elim z
theorem PSs.nox {st : List Stmt} {t : TS} (h : PSs X.nox st t) : PSs X st t := fun pins s σ H D I hw =>
  wpAny_mono (h pins s σ H D (I.wish _) hw) (fun _ _ q => q.unwish) fun _ _ z => False.elim z
end
section
variable {X : Cx} {st : Stmt} {rest : List Stmt} {t u : TS} {e : Expr} {te : TE} {pos : Pos}
noncomputable def tNext : TS := fun D σ H => D.nx σ H
noncomputable def tSeq (t u : TS) : TS := fun D σ H => t { D with nx := u D } σ H
theorem pss_nil : PSs X [] tNext := fun _ _ σ H _ I h => wpAny_execs_nil ⟨σ, H, I, h⟩
theorem pss_cons (h1 : PS X st t) (h2 : PSs X rest u) : PSs X (st :: rest) (tSeq t u) := by
  intro pins s σ H D I h
  refine wpAny_execs_cons (thn (h1 pins s σ H { D with nx := u D } I h) fun f s1 q => ?_)
  cases f with
  | next =>
    obtain ⟨σ', H', I', q⟩ := q
    exact h2 pins s1 σ' H' D I' q
  | ret v => exact q
  | brk => exact q
  | cont => exact q
theorem pss_one (h1 : PS X st t) : PSs X [st] t := by
  intro pins s σ H D I h
  refine wpAny_execs_cons (thn (h1 pins s σ H D I h) fun f s1 q => ?_)
  cases f with
  | next => exact wpAny_execs_nil q
  | ret v => exact q
  | brk => exact q
  | cont => exact q
noncomputable def tBreak : TS := fun D σ H => D.bk σ H
noncomputable def tCont : TS := fun D σ H => D.ct σ H
theorem Inv.quiet {pins : List (Addr × Obj)} {σ : St} {H : Hp} {s : Shared} (I : Inv X pins σ H s) : interactive X.env = false := by simp [interactive, I.ok.kind]
noncomputable def tDrop (te : TE) : TS := fun D σ H => te σ H fun _ H1 => D.nx σ H1
theorem ps_expr (he : PE X e te) (hs : swapsWith e none pos.line X.env = pure false := by rfl) : PS X (.Expr e pos) (tDrop te) := by
  intro pins s σ H D I h
  exact wpAny_Expr_any (thn (he pins s σ H _ I h) fun v s1 ⟨x, H1, I1, r1, q1⟩ => ⟨σ, H1, I1, q1⟩) I.quiet hs
noncomputable def tRet (te : TE) : TS := fun D σ H => te σ H D.rt
theorem ps_ret (he : PE X e te) : PS X (.Return (some e) pos) (tRet te) := by
  intro pins s σ H D I h
  exact wpAny_Return_some (thn (he pins s σ H _ I h) fun v s1 ⟨x, H1, I1, r1, q1⟩ => ⟨x, σ, H1, I1, r1, q1⟩)
noncomputable def tRetN : TS := fun D _ H => D.rt .non H
noncomputable def tIfS (c : TT) (t u : TS) : TS := fun D σ H => c σ H fun b H1 => if b = true then t D σ H1 else u D σ H1
theorem ps_if {c : Expr} {a b : List Stmt} {tc : TT} (hc : PT X c tc) (ha : PSs X a t) (hb : PSs X b u) : PS X (.If c a b pos) (tIfS tc t u) := by
  intro pins s σ H D I h
  refine wpAny_If (thn (hc pins s σ H _ I h) fun d s1 ⟨H1, I1, q1⟩ => ?_)
  cases d with
  | true => exact ha pins s1 σ H1 D I1 q1
  | false => exact hb pins s1 σ H1 D I1 q1
noncomputable def tNever : TS := fun _ _ _ => False
theorem ps_never : PS X st tNever := fun _ _ _ _ _ _ h => h.elim
theorem pss_never {sts : List Stmt} : PSs X sts tNever := fun _ _ _ _ _ _ h => h.elim
end
noncomputable abbrev TG := V → St → Hp → (St → Hp → Prop) → Prop
noncomputable abbrev TGs := List V → St → Hp → (St → Hp → Prop) → Prop
noncomputable def PG (X : Cx) (target : Expr) (t : TG) : Prop :=
  ∀ (pins : List (Addr × Obj)) (s : Shared) (σ : St) (H : Hp) (v : V) (u : Value) (Q : St → Hp → Prop), Inv X pins σ H s → RelV v u → t v σ H Q →
    wpAny (model X.prog X.w) X.A (assign target X.env u) (fun _ s' => ∃ σ' H', Inv X pins σ' H' s' ∧ Q σ' H') X.xe s
noncomputable def PGs (X : Cx) (ts : List Expr) (t : TGs) : Prop :=
  ∀ (pins : List (Addr × Obj)) (s : Shared) (σ : St) (H : Hp) (vs : List V) (us : List Value) (Q : St → Hp → Prop), Inv X pins σ H s → Vals vs us → t vs σ H Q →
    wpAny (model X.prog X.w) X.A (assignInOrder ((assignEach ts X.env).map (·.2)) us) (fun _ s' => ∃ σ' H', Inv X pins σ' H' s' ∧ Q σ' H') X.xe s
noncomputable abbrev TSet := V → V → V → Hp → (Hp → Prop) → Prop
noncomputable def PSet (X : Cx) (t : TSet) : Prop :=
  ∀ (pins : List (Addr × Obj)) (s : Shared) (σ : St) (H : Hp) (o i v : V) (ov iv u : Value) (Q : Hp → Prop), Inv X pins σ H s → RelV o ov → RelV i iv → RelV v u → t o i v H Q →
    wpAny (model X.prog X.w) X.A (setItem ov iv u) (fun _ s' => ∃ H', Inv X pins σ H' s' ∧ Q H') X.xe s
noncomputable abbrev TIp := V → V → Hp → VK → Prop
noncomputable def PIp (X : Cx) (op : Operator) (t : TIp) : Prop :=
  ∀ (pins : List (Addr × Obj)) (s : Shared) (σ : St) (H : Hp) (x y : V) (v u : Value) (Q : VK), Inv X pins σ H s → RelV x v → RelV y u → t x y H Q →
    wpAny (model X.prog X.w) X.A (inplaceOp op v u) (EP X pins σ Q) X.xe s
section
variable {X : Cx} {pos : Pos}
noncomputable def gName (i : Nat) : TG := fun v σ H Q => Q (σ.set i (some v)) H
theorem pg_name {i : Nat} {x : Str} (hN : X.N.Nodup) (hi : X.N[i]? = some x) (hx : Loc X.env.scope x) (hf : X.fn x = true ∨ X.env.scope.names.lookup x = some .local := by first | exact .inl rfl | exact .inr rfl | assumption) : PG X (.Name x pos) (gName i) := by
  intro pins s σ H v u Q I r h
  exact wpAny_assign_Name (store_ok I hN hi hx r (fun s' I' => ⟨_, H, I', h⟩) hf)
noncomputable def gNil : TGs := fun vs σ H Q => vs = [] ∧ Q σ H
noncomputable def gCons (t : TG) (u : TGs) : TGs := fun vs σ H Q => ∃ v r, vs = v :: r ∧ t v σ H fun σ' H' => u r σ' H' Q
theorem pgs_nil : PGs X [] gNil := by
  intro pins s σ H vs us Q I r h
  obtain ⟨e, h⟩ := h
  subst e
  cases r
  exact assignInOrder_nil ⟨σ, H, I, h⟩
theorem pgs_cons {e : Expr} {es : List Expr} {t : TG} {u : TGs} (h1 : PG X e t) (h2 : PGs X es u)
    (hs : (assignEach (e :: es) X.env).map (·.2) = assign e X.env :: (assignEach es X.env).map (·.2) := by rfl) : PGs X (e :: es) (gCons t u) := by
  intro pins s σ H vs us Q I r h
  obtain ⟨v, vr, e1, h⟩ := h
  subst e1
  cases r with
  | cons r rr =>
    rw [hs]
    refine assignInOrder_cons (thn (h1 pins s σ H _ _ _ I r h) fun _ s1 ⟨σ1, H1, I1, q1⟩ => ?_)
    exact h2 pins s1 σ1 H1 _ _ Q I1 rr q1
noncomputable def gTup (K : PySem.W.Frag) (n : Nat) (t : TGs) : TG := fun v σ H Q => ∃ a xs, v = .ref a ∧ SqT K H a xs ∧ xs.length = n ∧ t xs σ H Q
theorem pg_tup {es : List Expr} {k : Nat} {t : TGs} {n : Nat} (hc : X.calm = true) (h : PGs X es t)
    (hn : (assignEach es X.env).length = n := by rfl) (hst : (assignEach es X.env).findIdx? (·.1) = none := by rfl) : PG X (.Tuple es k pos) (gTup X.K n t) := by
  intro pins s σ H v u Q I r hw
  obtain ⟨a, xs, e1, hq, hl, hw⟩ := hw
  subst e1
  cases r
  obtain ⟨its, rv, ht, hz⟩ := I.tuple hq
  refine assign_Tuple_tuple (I.ok.hd hc) ht (by simp [hn, ← hl, rv.length]) hst fun h' hx => ?_
  have I1 : Inv X pins σ H { s with heap := h' } := I.kept (t' := s.toks) fun b o e => hx b o (Nat.ne_of_lt (Heap.lt_size e)) e
  exact h pins _ σ H xs _ Q I1 (by simpa using rv) hw
noncomputable def gSub (to ti : TE) (t : TSet) : TG := fun v σ H Q => to σ H fun o H1 => ti σ H1 fun i H2 => t o i v H2 fun H3 => Q σ H3
theorem pg_sub {o i : Expr} {to ti : TE} {t : TSet} (ho : PE X o to) (hi : PE X i ti) (hs : PSet X t)
    (ha : ∀ v, assign (.Subscript o i pos) X.env v = (do
      let ov ← holding [v] (eval o X.env)
      let iv ← holding [v, ov] (eval i X.env)
      standAt pos
      holding [v, ov, iv] (setItem ov iv v)
      release [v, ov, iv] []) := by intro _; rfl) : PG X (.Subscript o i pos) (gSub to ti t) := by
  intro pins s σ H v u Q I r h
  rw [ha]
  refine wpAny_bind (wpAny_holding (thn (ho pins s σ H _ I h) fun ov s1 ⟨x, H1, I1, r1, q1⟩ => ?_))
  refine wpAny_bind (wpAny_holding (thn (hi pins s1 σ H1 _ I1 q1) fun iv s2 ⟨y, H2, I2, r2, q2⟩ => ?_))
  refine wpAny_bind (wpAny_standAt (wpAny_bind (wpAny_holding (thn (hs pins s2 σ H2 x y v ov iv u _ I2 r1 r2 r q2) fun _ s3 ⟨H3, I3, q3⟩ => ?_))))
  exact wpAny_release ⟨σ, H3, I3, q3⟩
noncomputable def tAsg (te : TE) (g : TG) : TS := fun D σ H => te σ H fun x H1 => g x σ H1 D.nx
theorem ps_asg {tg e : Expr} {te : TE} {g : TG} (he : PE X e te) (hg : PG X tg g) (hs : swapsWithSole [tg] e pos.line X.env = pure false := by rfl) (hw : swappedStores [tg] e X.env = pure none := by rfl)
    (h1 : (assignEach [tg] X.env).map (·.2) = [assign tg X.env] := by rfl) : PS X (.Assign [tg] e pos) (tAsg te g) := by
  intro pins s σ H D I h
  refine wpAny_Assign_stores (thn (he pins s σ H _ I h) fun v s1 ⟨x, H1, I1, r1, q1⟩ => ?_) hs hw
  rw [h1]
  exact thn (hg pins s1 σ H1 x v _ I1 r1 q1) fun _ s2 q => q
theorem ps_set {i : Nat} {x : Str} {e : Expr} {te : TE} {pos' : Pos} (hN : X.N.Nodup) (hi : X.N[i]? = some x) (hx : Loc X.env.scope x) (he : PE X e te) (hs : swapsWith e (some (.Name x pos')) pos.line X.env = pure false := by rfl) (hf : X.fn x = true ∨ X.env.scope.names.lookup x = some .local := by first | exact .inl rfl | exact .inr rfl | assumption) :
    PS X (.Assign [.Name x pos'] e pos) (tAsg te (gName i)) := by
  intro pins s σ H D I h
  refine wpAny_Assign_Name (thn (he pins s σ H _ I h) fun v s1 ⟨y, H1, I1, r1, q1⟩ => ?_) hs
  exact store_ok I1 hN hi hx r1 (fun s2 I2 => ⟨_, H1, I2, q1⟩) hf
noncomputable def tPar (i j : Nat) (ta : TA) : TS := fun D σ H => ta σ H fun vs H1 => ∃ v w, vs = [v, w] ∧ D.nx ((σ.set i (some v)).set j (some w)) H1
noncomputable def tAug (i : Nat) (te : TE) (ti : TIp) : TS := fun D σ H => ∃ x, σ[i]? = some (some x) ∧ te σ H fun y H1 => ti x y H1 fun z H2 => D.nx (σ.set i (some z)) H2
noncomputable def tAugS (to ti te : TE) (tget : V → V → Hp → VK → Prop) (tip : TIp) (tset : TSet) : TS := fun D σ H => to σ H fun o H1 => ti σ H1 fun i H2 => tget o i H2 fun x H3 => te σ H3 fun y H4 => tip x y H4 fun z H5 => tset o i z H5 fun H6 => D.nx σ H6
noncomputable def PGet (X : Cx) (t : V → V → Hp → VK → Prop) : Prop :=
  ∀ (pins : List (Addr × Obj)) (s : Shared) (σ : St) (H : Hp) (o i : V) (ov iv : Value) (Q : VK), Inv X pins σ H s → RelV o ov → RelV i iv → t o i H Q →
    wpAny (model X.prog X.w) X.A (getItem ov iv) (EP X pins σ Q) X.xe s
noncomputable def ipI (f : Int → Int → Int) : TIp := fun x y H Q => ∃ i j, x = .int i ∧ y = .int j ∧ Q (.int (f i j)) H
end
section
variable {X : Cx} {pos : Pos}
noncomputable def tWhile (c : TT) (tb : TS) : TS := fun D σ H => ∃ W : Nat → St → Hp → Prop, (∃ m, W m σ H) ∧ ∀ m σ H, W m σ H →
  c σ H fun b H1 => if b = true then ∃ N : St → Hp → Prop, (∀ σ' H', N σ' H' → ∃ m', m' < m ∧ W m' σ' H') ∧ tb { D with nx := N, ct := N, bk := D.nx } σ H1 else D.nx σ H1
theorem ps_while {c : Expr} {body : List Stmt} {tc : TT} {tb : TS} (hp : PassesOwn (model X.prog X.w) X.A X.env X.xe) (hc : PT X c tc) (hb : PSs X body tb) : PS X (.While c body [] pos) (tWhile tc tb) := by
  intro pins s σ H D I h
  obtain ⟨W, ⟨m0, w0⟩, turn⟩ := h
  refine wpAny_While (codeAny_whileLoop (fun n s' => ∃ σ' H', Inv X pins σ' H' s' ∧ W n σ' H') ?_ m0 ⟨σ, H, I, w0⟩)
  rintro n s1 ⟨σ1, H1, I1, w1⟩
  refine wpAny_passesOwn hp (thn (hc pins s1 σ1 H1 _ I1 (turn n σ1 H1 w1)) fun b s2 ⟨H2, I2, q2⟩ => ?_)
  cases b with
  | true =>
    obtain ⟨N, hN, q2⟩ := q2
    rw [if_pos rfl]
    refine wpAny_passesOwn hp (thn (hb pins s2 σ1 H2 _ I2 q2) fun f s3 q3 => ?_)
    cases f with
    | next =>
      obtain ⟨σ3, H3, I3, n3⟩ := q3
      obtain ⟨m', hm, w3⟩ := hN σ3 H3 n3
      exact ⟨m', hm, σ3, H3, I3, w3⟩
    | cont =>
      obtain ⟨σ3, H3, I3, n3⟩ := q3
      obtain ⟨m', hm, w3⟩ := hN σ3 H3 n3
      exact ⟨m', hm, σ3, H3, I3, w3⟩
    | brk => exact q3
    | ret v => exact q3
  | false =>
    rw [if_neg Bool.false_ne_true]
    exact wpAny_execs_nil ⟨σ1, H2, I2, q2⟩
end
structure It where
  go : Nat → Hp → Prop
  yld : Nat → Hp → V → Hp → Prop
  stop : Nat → Hp → Prop
noncomputable def FpOk (X : Cx) (pins : List (Addr × Obj)) (H : Hp) (b : Addr) : Prop :=
  H b = none ∧ b ≠ X.env.locals ∧ b ∉ X.fs ∧ (b ∈ X.ex ∨ X.s₀.heap.objs.size ≤ b) ∧ (∀ x c, X.env.cells.lookup x = some c → c ≠ b) ∧ ∀ p ∈ X.pn ++ pins, p.1 ≠ b
theorem Inv.fpOk {X : Cx} {pins : List (Addr × Obj)} {σ : St} {H H' : Hp} {s : Shared} {b : Addr} (I : Inv X pins σ H s) (hb : s.heap.objs.size ≤ b) (hn : H' b = none) : FpOk X pins H' b := by
  refine ⟨hn, Nat.ne_of_gt (Nat.lt_of_lt_of_le I.lt hb), I.nofs hb, .inr (Nat.le_trans I.sz hb), fun x c e z => ?_, fun p hp z => ?_⟩
  · obtain ⟨v, q⟩ := I.cell x c e
    exact absurd (Nat.lt_of_lt_of_le q.lt (by rw [z]; exact hb)) (Nat.lt_irrefl _)
  · exact absurd (Nat.lt_of_lt_of_le (Heap.lt_size (I.pin p hp).1) (by rw [z]; exact hb)) (Nat.lt_irrefl _)
structure Turn (P : Program) (w : World) (K : PySem.W.Frag) (tg : Expr) (J : It) (fp : List Addr) (it : Addr) (tn : Nat → Heap → Prop) : Prop where
  mem : it ∈ fp
  obj : ∀ i h, tn i h → ∀ b ∈ fp, ∃ o, h.get? b = some o ∧ ∀ v, o.data ≠ .cell v
  keep : ∀ i h h', tn i h → (∀ b ∈ fp, ∀ o, h.get? b = some o → h'.get? b = some o) → tn i h'
  item : ∀ (X : Cx), X.prog = P → X.w = w → X.K = K → X.calm = true → ∀ (i : Nat) (pins : List (Addr × Obj)) (s : Shared) (σ : St) (H : Hp) (E : Value → Shared → Prop), Inv X pins σ H s → (∀ b ∈ fp, FpOk X pins H b) → tn i s.heap → J.go i H →
    wpAny (model P w) X.A (pyNext (.ref it)) (fun r s1 => ∃ u, r = some u ∧
      wpAny (model P w) X.A (letOwnedTupleGo tg (.ref it) u) (fun _ s2 => ∃ x H', Inv X pins σ H' s2 ∧ RelV x u ∧ J.yld i H x H' ∧ tn (i + 1) s2.heap ∧ ∀ b ∈ fp, H' b = none) E s1) E s
  done : ∀ (X : Cx), X.prog = P → X.w = w → X.K = K → X.calm = true → ∀ (i : Nat) (pins : List (Addr × Obj)) (s : Shared) (σ : St) (H : Hp) (E : Value → Shared → Prop), Inv X pins σ H s → (∀ b ∈ fp, FpOk X pins H b) → tn i s.heap → J.stop i H →
    wpAny (model P w) X.A (pyNext (.ref it)) (fun r s1 => r = none ∧ Inv X pins σ H s1) E s
  self : ∀ (A : Around) (i : Nat) (s : Shared) (Q : Value → Shared → Prop) (E : Value → Shared → Prop), tn i s.heap → Q (.ref it) s → wpAny (model P w) A (pyIter (.ref it)) Q E s
noncomputable abbrev TI := St → Hp → (It → Hp → Prop) → Prop
noncomputable def PIE (X : Cx) (pins : List (Addr × Obj)) (σ : St) (tg : Expr) (R : It → Hp → Prop) (itv : Value) (s2 : Shared) : Prop :=
  ∃ (it : Addr) (fp : List Addr) (tn : Nat → Heap → Prop) (J : It) (H' : Hp), itv = .ref it ∧ Inv X pins σ H' s2 ∧ Turn X.prog X.w X.K tg J fp it tn ∧ tn 0 s2.heap ∧ (∀ b ∈ fp, FpOk X pins H' b) ∧ R J H'
noncomputable def PI (X : Cx) (tg iter : Expr) (wi : TI) : Prop :=
  ∀ (pins : List (Addr × Obj)) (s : Shared) (σ : St) (H : Hp) (R : It → Hp → Prop), Inv X pins σ H s → wi σ H R →
    wpAny (model X.prog X.w) X.A (eval iter X.env) (fun v s1 => wpAny (model X.prog X.w) X.A (pyIter v) (PIE X pins σ tg R) X.xe s1) X.xe s
theorem go_of {M : Model} {A : Around} {E : Value → Shared → Prop} {s : Shared} {tg : Expr} {it : Addr} {u : Value} {o : Obj} {n : String} {vs : Array Value} {Q : Unit → Shared → Prop} (ho : s.heap.get? it = some o) (hc : o.cls = .type n) (hd : o.data = .fields vs)
    (hn : ["enumerate", "zip", "dict_itemiterator", "dict_reverseitemiterator", "odict_iterator", "itertools.zip_longest", "itertools.pairwise"].contains n = false) (hQ : Q () s) : wpAny M A (letOwnedTupleGo tg (.ref it) u) Q E s := by
  unfold letOwnedTupleGo
  cases tg <;> first
    | exact wpAny_pure hQ
    | (cases u <;> first
        | exact wpAny_pure hQ
        | (refine wpAny_bind (wpAny_load ho ?_)
           rw [hc, hd]
           show wpAny M A (if (["enumerate", "zip", "dict_itemiterator", "dict_reverseitemiterator", "odict_iterator", "itertools.zip_longest", "itertools.pairwise"].contains n && vs[0]? == some (rawInt _)) = true then _ else _) Q E s
           rw [if_neg (by intro h; rw [hn, Bool.false_and] at h; cases h)]
           exact wpAny_pure hQ))
noncomputable def Itl (K : PySem.W.Frag) (a : Addr) : It :=
  ⟨fun i H => ∃ xs x, SqL K H a xs ∧ xs[i]? = some x, fun i H x H' => H' = H ∧ ∀ xs, SqL K H a xs → xs[i]? = some x, fun i H => ∃ xs, SqL K H a xs ∧ xs.length ≤ i⟩
noncomputable def Itt (K : PySem.W.Frag) (a : Addr) : It :=
  ⟨fun i H => ∃ xs x, SqT K H a xs ∧ xs[i]? = some x, fun i H x H' => H' = H ∧ ∀ xs, SqT K H a xs → xs[i]? = some x, fun i H => ∃ xs, SqT K H a xs ∧ xs.length ≤ i⟩
noncomputable def Itr (lo : Int) (n : Nat) : It := ⟨fun i _ => i < n, fun i H x H' => H' = H ∧ x = .int (lo + i), fun i _ => n ≤ i⟩
theorem turn_list {P : Program} {w : World} {K : PySem.W.Frag} {tg : Expr} (a it : Addr) : Turn P w K tg (Itl K a) [it] it (fun i h => h.IsListIter it a i) where
  mem := by simp
  obj := fun i h st b hb => by
    have e : b = it := by simpa using hb
    subst e
    obtain ⟨o, e, c, d⟩ := st
    exact ⟨o, e, fun v z => by rw [d] at z; cases z⟩
  keep := fun i h h' st k => st.at fun o e => k it (by simp) o e
  item := by
    intro X hP hw hK hc i pins s σ H E I hf st hg
    subst hP hw hK
    obtain ⟨xs, x, hq, hx⟩ := hg
    obtain ⟨its, rv, p, hz⟩ := I.list hq
    obtain ⟨u, hu, ru⟩ := rv.get hx
    obtain ⟨f0, f1, f2, f3, f4, f5⟩ := hf it (by simp)
    refine wpAny_pyNext_list_item st p.isList (x := u) (by simpa using hu) fun h' st' sb => ?_
    have I1 : Inv X pins σ H { s with heap := h' } := I.turned (t' := s.toks) (fun b o hb e => (sb.2 b hb).trans e) f0 f1 f3 f4 f5
    obtain ⟨o, e, c, d⟩ := id st'
    exact ⟨u, rfl, go_of (s := { s with heap := h' }) e c d (by decide) ⟨x, H, I1, ru, ⟨rfl, fun ys hy => by rw [I.list_inj hy hq]; exact hx⟩, st', fun b hb => (hf b hb).1⟩⟩
  done := by
    intro X hP hw hK hc i pins s σ H E I hf st hg
    subst hP hw hK
    obtain ⟨xs, hq, hx⟩ := hg
    obtain ⟨its, rv, p, hz⟩ := I.list hq
    obtain ⟨f0, f1, f2, f3, f4, f5⟩ := hf it (by simp)
    have hl := rv.length
    exact wpAny_pyNext_list_end (I.ok.hd hc) st p.isList (by simp; omega) fun h' eb => ⟨rfl, I.turned (t' := s.toks) (fun b o hb e => eb b o hb e) f0 f1 f3 f4 f5⟩
  self := fun _ _ _ _ _ st h => wpAny_pyIter_listiter st h
theorem turn_range {P : Program} {w : World} {K : PySem.W.Frag} {tg : Expr} (it : Addr) (lo : Int) (n : Nat) : Turn P w K tg (Itr lo n) [it] it (fun i h => IsRangeIter h it (lo + (i : Nat) * 1) ((n : Int) - (i : Nat)) 1) where
  mem := by simp
  obj := fun i h st b hb => by
    have e : b = it := by simpa using hb
    subst e
    exact ⟨_, st, fun v z => by
      have z' : Data.fields _ = Data.cell v := z
      cases z'⟩
  keep := fun i h h' st k => k it (by simp) _ st
  item := by
    intro X hP hw hK hc i pins s σ H E I hf st hg
    subst hP hw hK
    obtain ⟨f0, f1, f2, f3, f4, f5⟩ := hf it (by simp)
    have W := Walks.range (prog := X.prog) (w := X.w) (I.ok.hd hc) it lo 1 n
    refine W.item i s _ _ hg st fun v h' tk hv st' kk => ?_
    obtain ⟨t, rfl⟩ := hv
    have I1 : Inv X pins σ H { s with heap := h', toks := tk } := I.turned (fun b o hb e => kk b o (by simpa using hb) e) f0 f1 f3 f4 f5
    refine ⟨_, rfl, go_of (s := { s with heap := h', toks := tk }) (n := "range_iterator") st' rfl rfl (by decide) ⟨.int (lo + i), H, I1, ⟨t, ?_⟩, ⟨rfl, rfl⟩, st', fun b hb => (hf b hb).1⟩⟩
    rw [Int.mul_one]
  done := by
    intro X hP hw hK hc i pins s σ H E I hf st hg
    subst hP hw hK
    obtain ⟨f0, f1, f2, f3, f4, f5⟩ := hf it (by simp)
    exact wpAny_pyNext_range_end (I.ok.hd hc) st (by have : n ≤ i := hg; omega) fun h' eb => ⟨rfl, I.turned (t' := s.toks) (fun b o hb e => eb b o hb e) f0 f1 f3 f4 f5⟩
  self := fun _ _ _ _ _ st h => wpAny_pyIter_rangeiter st h
end L2
namespace L2
open PySem PySem.Spec PyProof.Rows
section
variable {X : Cx} {tg : Expr}
noncomputable def iList (K : PySem.W.Frag) (tl : TE) : TI := fun σ H R => tl σ H fun x H1 => ∃ a, x = .ref a ∧ (∃ xs, SqL K H1 a xs) ∧ R (Itl K a) H1
noncomputable def iTup (K : PySem.W.Frag) (tl : TE) : TI := fun σ H R => tl σ H fun x H1 => ∃ a, x = .ref a ∧ (∃ xs, SqT K H1 a xs) ∧ R (Itt K a) H1
theorem pi_list {l : Expr} {tl : TE} (hl : PE X l tl) : PI X tg l (iList X.K tl) := by
  intro pins s σ H R I h
  refine thn (hl pins s σ H _ I h) fun v s1 ⟨x, H1, I1, r1, q1⟩ => ?_
  obtain ⟨a, e, ⟨xs, hq⟩, q⟩ := q1
  subst e
  cases r1
  obtain ⟨its, rv, p, hz⟩ := I1.list hq
  refine wpAny_pyIter_list p.isList ?_
  refine ⟨s1.heap.objs.size, [s1.heap.objs.size], _, _, H1, rfl, I1.kept (t' := s1.toks) fun b o e => Heap.get?_push_of_some _ e, turn_list a _, ⟨_, Heap.get?_push_size _ rfl, rfl, rfl⟩, fun b hb => ?_, q⟩
  have e : b = s1.heap.objs.size := by simpa using hb
  subst e
  exact I1.fpOk (Nat.le_refl _) (I1.hok.fresh (Nat.le_refl _))
theorem range_it {pins : List (Addr × Obj)} {σ : St} {H : Hp} {s : Shared} {R : It → Hp → Prop} {E : Value → Shared → Prop} {lo hi : Int} {t u v : Tok} {tk : Nat} (I : Inv X pins σ H s) (h1 : -(2 ^ 62) ≤ lo) (h2 : lo < 2 ^ 62) (h3 : -(2 ^ 62) ≤ hi) (h4 : hi < 2 ^ 62)
    (q : R (Itr lo (hi - lo).toNat) H) : wpAny (model X.prog X.w) X.A (pyIter (.ref s.heap.objs.size)) (PIE X pins σ tg R) E { s with heap := s.heap.push { cls := .type "range", data := .fields #[.int lo t, .int hi u, .int 1 v] }, toks := tk } := by
  refine wpAny_pyIter_range (IsRange.new ..) (small_one h1 h2 h3 h4) ?_
  have I1 : Inv X pins σ H { s with heap := s.heap.push { cls := .type "range", data := .fields #[.int lo t, .int hi u, .int 1 v] }, toks := tk } := I.kept fun b o e => Heap.get?_push_of_some _ e
  refine ⟨(s.heap.push { cls := .type "range", data := .fields #[.int lo t, .int hi u, .int 1 v] }).objs.size, [(s.heap.push { cls := .type "range", data := .fields #[.int lo t, .int hi u, .int 1 v] }).objs.size], _, _, H, rfl,
    I1.kept (t' := tk) fun b o e => Heap.get?_push_of_some _ e, turn_range _ lo (hi - lo).toNat, ?_, fun b hb => ?_, q⟩
  · have e1 : lo + ((0 : Nat) : Int) * 1 = lo := by simp
    have e2 : (((hi - lo).toNat : Nat) : Int) - ((0 : Nat) : Int) = Builtin.Range.rangeSize lo hi 1 := by rw [rangeSize_one]; split <;> omega
    show IsRangeIter _ _ (lo + ((0 : Nat) : Int) * 1) ((((hi - lo).toNat : Nat) : Int) - ((0 : Nat) : Int)) 1
    rw [e1, e2]
    exact Heap.get?_push_size _ rfl
  · have e : b = (s.heap.push { cls := .type "range", data := .fields #[.int lo t, .int hi u, .int 1 v] }).objs.size := by simpa using hb
    subst e
    exact I1.fpOk (Nat.le_refl _) (I1.hok.fresh (Nat.le_refl _))
noncomputable def iRng1 (ta : TA) : TI := fun σ H R => ta σ H fun vs H1 => ∃ j : Int, vs = [.int j] ∧ -(2 ^ 62) ≤ j ∧ j < 2 ^ 62 ∧ R (Itr 0 j.toNat) H1
noncomputable def iRng2 (ta : TA) : TI := fun σ H R => ta σ H fun vs H1 => ∃ i j : Int, vs = [.int i, .int j] ∧ (-(2 ^ 62) ≤ i ∧ i < 2 ^ 62 ∧ -(2 ^ 62) ≤ j ∧ j < 2 ^ 62) ∧ R (Itr i (j - i).toNat) H1
theorem pi_range1 {a : Expr} {ta : TA} {p pos : Pos} (hg : Gl X "range") (hm : X.mg "range" = none) (ha : PA X [a] ta) (hs : starEach [a] X.env = [(false, eval a X.env)] := by rfl) : PI X tg (.Call (.Name "range" p) [a] [] pos) (iRng1 ta) := by
  intro pins s σ H R I h
  refine Call_ (ld_blt I hg hm boot_range (PyProof.Rows.callWith_type1 (thn (ha pos pins s σ H _ I h) fun us s1 ⟨vs, H1, I1, r1, q1⟩ => ?_) hs rfl))
  obtain ⟨j, e, q1, q2, q⟩ := q1
  subst e
  cases r1 with
  | cons r rr =>
    cases rr
    obtain ⟨t, rfl⟩ := r
    exact call_range_1 (range_it I1 (by omega) (by omega) q1 q2 (by simpa using q))
theorem pi_range2 {a b : Expr} {ta : TA} {p pos : Pos} (hg : Gl X "range") (hm : X.mg "range" = none) (ha : PA X [a, b] ta) (hs : starEach [a, b] X.env = [(false, eval a X.env), (false, eval b X.env)] := by rfl) (hs2 : starEach [b] X.env = [(false, eval b X.env)] := by rfl) :
    PI X tg (.Call (.Name "range" p) [a, b] [] pos) (iRng2 ta) := by
  intro pins s σ H R I h
  refine Call_ (ld_blt I hg hm boot_range (PyProof.Rows.callWith_type1 (thn (ha pos pins s σ H _ I h) fun us s1 ⟨vs, H1, I1, r1, q1⟩ => ?_) (by rw [hs, hs2]) (by rw [hs2]; rfl)))
  obtain ⟨i, j, e, ⟨q1, q2, q3, q4⟩, q⟩ := q1
  subst e
  cases r1 with
  | cons r rr =>
    cases rr with
    | cons r' rr =>
      cases rr
      obtain ⟨t, rfl⟩ := r
      obtain ⟨t', rfl⟩ := r'
      exact call_range_2 (range_it I1 q1 q2 q3 q4 q)
noncomputable def tFor (wi : TI) (g : TG) (tb : TS) : TS := fun D σ H => wi σ H fun J H1 => ∃ W : Nat → Nat → St → Hp → Prop, (∃ m, W 0 m σ H1) ∧ ∀ i m σ H, W i m σ H →
  (J.stop i H ∧ D.nx σ H) ∨ (J.go i H ∧ ∃ N : St → Hp → Prop, (∀ σ' H', N σ' H' → ∃ m', m' < m ∧ W (i + 1) m' σ' H') ∧ ∀ x H', J.yld i H x H' → g x σ H' fun σ2 H2 => tb { D with nx := N, ct := N, bk := D.nx } σ2 H2)
noncomputable def pinsAt (fp : List Addr) (h : Heap) : List (Addr × Obj) := fp.filterMap fun b => (h.get? b).map fun o => (b, o)
theorem mem_pinsAt {fp : List Addr} {h : Heap} {b : Addr} {o : Obj} (hb : b ∈ fp) (e : h.get? b = some o) : (b, o) ∈ pinsAt fp h := List.mem_filterMap.mpr ⟨b, hb, by rw [e]; rfl⟩
theorem of_pinsAt {fp : List Addr} {h : Heap} {p : Addr × Obj} (hp : p ∈ pinsAt fp h) : p.1 ∈ fp ∧ h.get? p.1 = some p.2 := by
  obtain ⟨b, hb, e⟩ := List.mem_filterMap.mp hp
  cases q : h.get? b with
  | none => rw [q] at e; cases e
  | some o =>
    rw [q] at e
    have e' : (b, o) = p := Option.some.inj e
    subst e'
    exact ⟨hb, q⟩
theorem Inv.pinned {pins : List (Addr × Obj)} {σ : St} {H : Hp} {s : Shared} {fp : List Addr} (I : Inv X pins σ H s) (hf : ∀ b ∈ fp, FpOk X pins H b) (ho : ∀ b ∈ fp, ∃ o, s.heap.get? b = some o ∧ ∀ v, o.data ≠ .cell v) : Inv X (pins ++ pinsAt fp s.heap) σ H s :=
  I.pins_of fun p hp => (List.mem_append.mp hp).elim (fun z => I.pin p (List.mem_append_right _ z)) fun z => by
    obtain ⟨hb, e⟩ := of_pinsAt z
    obtain ⟨f0, f1, f2, _⟩ := hf p.1 hb
    obtain ⟨o, e', d⟩ := ho p.1 hb
    rw [e] at e'; cases e'
    exact ⟨e, f0, f1, f2, d⟩
theorem Inv.unpinned {pins pl : List (Addr × Obj)} {σ : St} {H : Hp} {s : Shared} (I : Inv X (pins ++ pl) σ H s) : Inv X pins σ H s := I.pins_of fun p hp => I.pin p (List.mem_append_right _ (List.mem_append_left _ hp))
theorem ps_for {iter : Expr} {body : List Stmt} {wi : TI} {g : TG} {tb : TS} {pos : Pos} (hp : PassesOwn (model X.prog X.w) X.A X.env X.xe) (hc : X.calm = true) (hi : PI X tg iter wi) (hg : PG X tg g) (hb : PSs X body tb)
    (hs : ∀ x, foldedSetIterable iter X.env x = pure x := by intro _; rfl) : PS X (.For tg iter body [] pos) (tFor wi g tb) := by
  intro pins s σ H D I h
  refine wpAny_For (thn (hi pins s σ H _ I h) fun v s1 h1 => thn h1 fun itv s2 h2 => ?_) hs
  obtain ⟨it, fp, tn, J, H2, e, I2, T, st2, f2, W, ⟨m0, w0⟩, turn⟩ := h2
  subst e
  have stat : ∀ {H' : Hp}, (∀ b ∈ fp, H' b = none) → ∀ b ∈ fp, FpOk X pins H' b := fun hn b hb => ⟨hn b hb, (f2 b hb).2⟩
  refine codeAny_forLoop_any (fun n s' => ∃ i σ' H', Inv X pins σ' H' s' ∧ tn i s'.heap ∧ (∀ b ∈ fp, H' b = none) ∧ W i n σ' H') ?_ m0 ⟨0, σ, H2, I2, st2, fun b hb => (f2 b hb).1, w0⟩
  rintro n s3 ⟨i, σ3, H3, I3, st3, fr3, w3⟩
  rcases turn i n σ3 H3 w3 with ⟨stop, qn⟩ | ⟨go, N, hN, step⟩
  · refine wpAny_passesOwn hp (thn (T.done X rfl rfl rfl hc i pins s3 σ3 H3 X.xe I3 (stat fr3) st3 stop) fun r s4 ⟨hr, I4⟩ => ?_)
    subst hr
    exact wpAny_execs_nil ⟨σ3, H3, I4, qn⟩
  · refine wpAny_passesOwn hp (thn (T.item X rfl rfl rfl hc i pins s3 σ3 H3 X.xe I3 (stat fr3) st3 go) fun r s4 ⟨u, hr, h4⟩ => ?_)
    subst hr
    refine wpAny_passesOwn hp (thn h4 fun _ s5 ⟨x, H5, I5, r5, y5, st5, fr5⟩ => ?_)
    have I5' := I5.pinned (stat fr5) (T.obj _ _ st5)
    refine wpAny_passesOwn hp (thn (hg _ s5 σ3 H5 x u _ I5' r5 (step x H5 y5)) fun _ s6 ⟨σ6, H6, I6, q6⟩ => ?_)
    refine wpAny_passesOwn hp (thn (hb _ s6 σ6 H6 _ I6 q6) fun f s7 q7 => ?_)
    have again : ∀ {σ7 : St} {H7 : Hp}, Inv X (pins ++ pinsAt fp s5.heap) σ7 H7 s7 → N σ7 H7 → ∃ m, m < n ∧ ∃ i σ' H', Inv X pins σ' H' s7 ∧ tn i s7.heap ∧ (∀ b ∈ fp, H' b = none) ∧ W i m σ' H' := fun {σ7 H7} I7 n7 => by
      obtain ⟨m', hm, w7⟩ := hN σ7 H7 n7
      refine ⟨m', hm, i + 1, σ7, H7, I7.unpinned, T.keep _ _ _ st5 fun b hb o e => (I7.pin (b, o) (List.mem_append_right _ (List.mem_append_right _ (mem_pinsAt hb e)))).1, fun b hb => ?_, w7⟩
      obtain ⟨o, e, d⟩ := T.obj _ _ st5 b hb
      exact (I7.pin (b, o) (List.mem_append_right _ (List.mem_append_right _ (mem_pinsAt hb e)))).2.1
    cases f with
    | next => obtain ⟨σ7, H7, I7, n7⟩ := q7; exact again I7 n7
    | cont => obtain ⟨σ7, H7, I7, n7⟩ := q7; exact again I7 n7
    | brk => obtain ⟨σ7, H7, I7, q7⟩ := q7; exact ⟨σ7, H7, I7.unpinned, q7⟩
    | ret v => obtain ⟨x7, σ7, H7, I7, r7, q7⟩ := q7; exact ⟨x7, σ7, H7, I7.unpinned, r7, q7⟩
end
theorem for_list {K : PySem.W.Frag} {a : Addr} {xs : List V} {g : TG} {tb : TS} {D : Ends} {σ : St} {H : Hp} (Pv : Nat → St → Hp → Prop) (h0 : Pv 0 σ H) (hl : ∀ i σ H, i ≤ xs.length → Pv i σ H → SqL K H a xs)
    (hs : ∀ i x σ H, xs[i]? = some x → Pv i σ H → g x σ H fun σ2 H2 => tb { D with nx := Pv (i + 1), ct := Pv (i + 1), bk := D.nx } σ2 H2) (hd : ∀ σ H, Pv xs.length σ H → D.nx σ H) :
    ∃ W : Nat → Nat → St → Hp → Prop, (∃ m, W 0 m σ H) ∧ ∀ i m σ H, W i m σ H →
      ((Itl K a).stop i H ∧ D.nx σ H) ∨ ((Itl K a).go i H ∧ ∃ N : St → Hp → Prop, (∀ σ' H', N σ' H' → ∃ m', m' < m ∧ W (i + 1) m' σ' H') ∧ ∀ x H', (Itl K a).yld i H x H' → g x σ H' fun σ2 H2 => tb { D with nx := N, ct := N, bk := D.nx } σ2 H2) := by
  refine ⟨fun i m σ H => m = xs.length - i ∧ i ≤ xs.length ∧ Pv i σ H, ⟨xs.length, by simp, Nat.zero_le _, h0⟩, ?_⟩
  rintro i m σ H ⟨rfl, hi, p⟩
  have q := hl i σ H hi p
  by_cases hlt : i < xs.length
  · refine .inr ⟨⟨xs, xs[i], q, by simp [hlt]⟩, Pv (i + 1), fun σ' H' p' => ⟨xs.length - (i + 1), by omega, rfl, hlt, p'⟩, fun x H' y => ?_⟩
    obtain ⟨e, y⟩ := y
    subst e
    exact hs i x σ _ (y xs q) p
  · have e : i = xs.length := by omega
    subst e
    exact .inl ⟨⟨xs, q, Nat.le_refl _⟩, hd σ H p⟩
theorem for_range {lo : Int} {n : Nat} {g : TG} {tb : TS} {D : Ends} {σ : St} {H : Hp} (Pv : Nat → St → Hp → Prop) (h0 : Pv 0 σ H)
    (hs : ∀ i σ H, i < n → Pv i σ H → g (.int (lo + i)) σ H fun σ2 H2 => tb { D with nx := Pv (i + 1), ct := Pv (i + 1), bk := D.nx } σ2 H2) (hd : ∀ σ H, Pv n σ H → D.nx σ H) :
    ∃ W : Nat → Nat → St → Hp → Prop, (∃ m, W 0 m σ H) ∧ ∀ i m σ H, W i m σ H →
      ((Itr lo n).stop i H ∧ D.nx σ H) ∨ ((Itr lo n).go i H ∧ ∃ N : St → Hp → Prop, (∀ σ' H', N σ' H' → ∃ m', m' < m ∧ W (i + 1) m' σ' H') ∧ ∀ x H', (Itr lo n).yld i H x H' → g x σ H' fun σ2 H2 => tb { D with nx := N, ct := N, bk := D.nx } σ2 H2) := by
  refine ⟨fun i m σ H => m = n - i ∧ i ≤ n ∧ Pv i σ H, ⟨n, by simp, Nat.zero_le _, h0⟩, ?_⟩
  rintro i m σ H ⟨rfl, hi, p⟩
  by_cases hlt : i < n
  · refine .inr ⟨hlt, Pv (i + 1), fun σ' H' p' => ⟨n - (i + 1), by omega, rfl, hlt, p'⟩, fun x H' y => ?_⟩
    obtain ⟨e, y⟩ := y
    subst e y
    exact hs i σ _ hlt p
  · have e : i = n := by omega
    subst e
    exact .inl ⟨Nat.le_refl _, hd σ H p⟩
end L2
namespace L2
open PySem PySem.Spec PyProof.Rows
noncomputable abbrev R2 := V → V → Hp → VK → Prop
noncomputable def OpR (X : Cx) (f : Value → Value → Sem Value) (r : R2) : Prop :=
  ∀ (pins : List (Addr × Obj)) (s : Shared) (σ : St) (H : Hp) (x y : V) (v u : Value) (Q : VK), Inv X pins σ H s → RelV x v → RelV y u → r x y H Q →
    wpAny (model X.prog X.w) X.A (f v u) (EP X pins σ Q) X.xe s
noncomputable def UnR (X : Cx) (f : Value → Sem Value) (r : V → Hp → VK → Prop) : Prop :=
  ∀ (pins : List (Addr × Obj)) (s : Shared) (σ : St) (H : Hp) (x : V) (v : Value) (Q : VK), Inv X pins σ H s → RelV x v → r x H Q →
    wpAny (model X.prog X.w) X.A (f v) (EP X pins σ Q) X.xe s
noncomputable def CallR (X : Cx) (f : Value) (r : List V → Hp → VK → Prop) : Prop :=
  ∀ (pins : List (Addr × Obj)) (s : Shared) (σ : St) (H : Hp) (xs : List V) (us : List Value) (Q : VK), Inv X pins σ H s → Vals xs us → r xs H Q →
    wpAny (model X.prog X.w) X.A (call f us) (EP X pins σ Q) X.xe s
noncomputable def TruR (X : Cx) (r : V → Hp → (Bool → Hp → Prop) → Prop) : Prop :=
  ∀ (pins : List (Addr × Obj)) (s : Shared) (σ : St) (H : Hp) (x : V) (v : Value) (Q : Bool → Hp → Prop), Inv X pins σ H s → RelV x v → r x H Q →
    wpAny (model X.prog X.w) X.A (truthy v) (TP X pins σ Q) X.xe s
noncomputable def tOp (r : R2) (ta tb : TE) : TE := fun σ H Q => ta σ H fun x H1 => tb σ H1 fun y H2 => r x y H2 Q
noncomputable def tUn (r : V → Hp → VK → Prop) (ta : TE) : TE := fun σ H Q => ta σ H fun x H1 => r x H1 Q
noncomputable def rI (C : Int → Int → Prop) (g : Int → Int → V) : R2 := fun x y H Q => ∃ i j, x = .int i ∧ y = .int j ∧ C i j ∧ Q (g i j) H
noncomputable def rI0 (g : Int → Int → V) : R2 := fun x y H Q => ∃ i j, x = .int i ∧ y = .int j ∧ Q (g i j) H
noncomputable def rU (g : Int → V) : V → Hp → VK → Prop := fun x H Q => ∃ i, x = .int i ∧ Q (g i) H
section
variable {X : Cx} {a b c : Expr} {ta tb tc : TE} {pos : Pos}
theorem binT (ha : PE X a ta) (hb : PE X b tb) {pins : List (Addr × Obj)} {s : Shared} {σ : St} {H : Hp} {R : V → V → Hp → Prop} (I : Inv X pins σ H s)
    (h : ta σ H fun x H1 => tb σ H1 fun y H2 => R x y H2) {Q : Value → Shared → Prop} {f : Value → Value → Sem Value}
    (hf : ∀ v u s2 x y H2, Inv X pins σ H2 s2 → RelV x v → RelV y u → R x y H2 → wpAny (model X.prog X.w) X.A (f v u) Q X.xe s2) :
    wpAny (model X.prog X.w) X.A (eval a X.env) (fun v s₁ => wpAny (model X.prog X.w) X.A (eval b X.env) (fun u s₂ => wpAny (model X.prog X.w) X.A (f v u) Q X.xe s₂) X.xe s₁) X.xe s := by
  refine thn (ha pins s σ H _ I h) fun v s1 ⟨x, H1, I1, r1, q1⟩ => ?_
  refine thn (hb pins s1 σ H1 _ I1 q1) fun u s2 ⟨y, H2, I2, r2, q2⟩ => ?_
  exact hf v u s2 x y H2 I2 r1 r2 q2
theorem pe_op {op : Operator} {r : R2} (ho : OpR X (binaryOp op) r) (ha : PE X a ta) (hb : PE X b tb) : PE X (.BinOp a op b pos) (tOp r ta tb) := by
  intro pins s σ H Q I h
  exact wpAny_BinOp (binT ha hb I h fun v u s2 x y H2 I2 rx ry q => ho pins s2 σ H2 x y v u Q I2 rx ry q)
theorem pe_un {op : UnaryOp} {r : V → Hp → VK → Prop} (ho : UnR X (unaryOp op) r) (ha : PE X a ta) : PE X (.UnaryOp op a pos) (tUn r ta) := by
  intro pins s σ H Q I h
  exact UnaryOp_ (thn (ha pins s σ H _ I h) fun v s1 ⟨x, H1, I1, r1, q1⟩ => ho pins s1 σ H1 x v Q I1 r1 q1)
theorem opI {f : Value → Value → Sem Value} {C : Int → Int → Prop} {g : Int → Int → Int}
    (rule : ∀ (i j : Int) (t u : Tok) (s : Shared) (Q : Value → Shared → Prop) (E : Value → Shared → Prop), C i j → Q (.int (g i j) s.toks) { s with toks := s.toks + 1 } → wpAny (model X.prog X.w) X.A (f (.int i t) (.int j u)) Q E s) :
    OpR X f (rI C fun i j => .int (g i j)) := by
  intro pins s σ H x y v u Q I rx ry h
  obtain ⟨i, j, rfl, rfl, hc, q⟩ := h
  obtain ⟨t, rfl⟩ := rx
  obtain ⟨t', rfl⟩ := ry
  exact rule i j t t' s _ _ hc ⟨.int (g i j), H, I.tok _, ⟨_, rfl⟩, q⟩
theorem opI0 {f : Value → Value → Sem Value} {g : Int → Int → Int}
    (rule : ∀ (i j : Int) (t u : Tok) (s : Shared) (Q : Value → Shared → Prop) (E : Value → Shared → Prop), Q (.int (g i j) s.toks) { s with toks := s.toks + 1 } → wpAny (model X.prog X.w) X.A (f (.int i t) (.int j u)) Q E s) :
    OpR X f (rI0 fun i j => .int (g i j)) := by
  intro pins s σ H x y v u Q I rx ry h
  obtain ⟨i, j, rfl, rfl, q⟩ := h
  obtain ⟨t, rfl⟩ := rx
  obtain ⟨t', rfl⟩ := ry
  exact rule i j t t' s _ _ ⟨.int (g i j), H, I.tok _, ⟨_, rfl⟩, q⟩
theorem opB0 {f : Value → Value → Sem Value} {g : Int → Int → Bool}
    (rule : ∀ (i j : Int) (t u : Tok) (s : Shared) (Q : Value → Shared → Prop) (E : Value → Shared → Prop), Q (.bool (g i j)) s → wpAny (model X.prog X.w) X.A (f (.int i t) (.int j u)) Q E s) :
    OpR X f (rI0 fun i j => .bl (g i j)) := by
  intro pins s σ H x y v u Q I rx ry h
  obtain ⟨i, j, rfl, rfl, q⟩ := h
  obtain ⟨t, rfl⟩ := rx
  obtain ⟨t', rfl⟩ := ry
  exact rule i j t t' s _ _ ⟨.bl (g i j), H, I, rfl, q⟩
noncomputable def CDiv (i j : Int) : Prop := 0 < j ∧ j < 1073741824
noncomputable def CDivN (i j : Int) : Prop := j ≠ 0 ∧ j.natAbs < 1073741824
noncomputable def CPow (i j : Int) : Prop := 0 ≤ j ∧ j ≤ 1000000 ∧ i.natAbs < 2 ^ 64
noncomputable def CMul (i j : Int) : Prop := (-(2 ^ 64) < i ∧ i < 2 ^ 64) ∨ (-(2 ^ 64) < j ∧ j < 2 ^ 64)
theorem CMul.ok {i j : Int} (h : CMul i j) : IntMulOk i j := by
  rcases h with ⟨h1, h2⟩ | ⟨h1, h2⟩
  · exact .of_left (intBits_le_64 h1 h2)
  · exact .of_right (intBits_le_64 h1 h2)
theorem op_add : OpR X (binaryOp .Add) (rI0 fun i j => .int (i + j)) := opI0 fun _ _ _ _ _ _ _ q => add_int q
theorem op_sub : OpR X (binaryOp .Sub) (rI0 fun i j => .int (i - j)) := opI0 fun _ _ _ _ _ _ _ q => sub_int q
theorem op_mul : OpR X (binaryOp .Mult) (rI CMul fun i j => .int (i * j)) := opI fun _ _ _ _ _ _ _ hc q => mul_int q hc.ok
theorem op_fdiv : OpR X (binaryOp .FloorDiv) (rI CDiv fun i j => .int (i / j)) := opI fun i j _ _ _ _ _ hc q => by
  have h1 : (0 : Int) < j := hc.1
  have h2 : j < 1073741824 := hc.2
  exact floordiv_int (by omega) (by rw [Int.fdiv_eq_ediv_of_nonneg i (by omega)]; exact q) (.inl (PyProof.noPylong_small (by omega)))
theorem op_mod : OpR X (binaryOp .Mod) (rI (fun _ j => 0 < j) fun i j => .int (i % j)) := opI fun i j _ _ _ _ _ hc q => by
  have h1 : (0 : Int) < j := hc
  exact mod_int' (by omega) (by rw [Int.fmod_eq_emod_of_nonneg i (by omega)]; exact q)
theorem op_pow : OpR X (binaryOp .Pow) (rI CPow fun i j => .int (i ^ j.toNat)) := opI fun _ _ _ _ _ _ _ hc q => pow_int_small hc.1 hc.2.1 hc.2.2 q
theorem op_xor : OpR X (binaryOp .BitXor) (rI0 fun i j => .int (Builtin.bitXor i j)) := opI0 fun _ _ _ _ _ _ _ q => xor_int q
theorem unI {f : Value → Sem Value} {g : Int → Int}
    (rule : ∀ (i : Int) (t : Tok) (s : Shared) (Q : Value → Shared → Prop) (E : Value → Shared → Prop), Q (.int (g i) s.toks) { s with toks := s.toks + 1 } → wpAny (model X.prog X.w) X.A (f (.int i t)) Q E s) :
    UnR X f (rU fun i => .int (g i)) := by
  intro pins s σ H x v Q I rx h
  obtain ⟨i, rfl, q⟩ := h
  obtain ⟨t, rfl⟩ := rx
  exact rule i t s _ _ ⟨.int (g i), H, I.tok _, ⟨_, rfl⟩, q⟩
theorem un_neg : UnR X (unaryOp .USub) (rU fun i => .int (-i)) := unI fun _ _ _ _ _ q => neg_int q
end
noncomputable def scal : V → V → Bool
  | .non, .non => true | .non, .int _ => true | .int _, .non => true | .non, .bl _ => true | .bl _, .non => true | .non, .str _ => true | .str _, .non => true
  | .int _, .int _ => true | .bl _, .bl _ => true | .str _, .str _ => true | .byt _, .byt _ => true
  | .int _, .str _ => true | .str _, .int _ => true | .bl _, .str _ => true | .str _, .bl _ => true
  | _, _ => false
noncomputable def rEq : R2 := fun x y H Q => scal x y = true ∧ Q (.bl (decide (x = y))) H
noncomputable def rNe : R2 := fun x y H Q => scal x y = true ∧ Q (.bl (!decide (x = y))) H
theorem dec_int {i j : Int} : decide (V.int i = V.int j) = (i == j) := by
  rw [Bool.eq_iff_iff]
  simp
theorem dec_bl {i j : Bool} : decide (V.bl i = V.bl j) = (i == j) := by
  rw [Bool.eq_iff_iff]
  simp
theorem dec_str {i j : Str} : decide (V.str i = V.str j) = (i == j) := by
  rw [Bool.eq_iff_iff]
  simp
theorem dec_byt {i j : Array UInt8} : decide (V.byt i = V.byt j) = (i.toList == j.toList) := by
  rw [Bool.eq_iff_iff]
  cases i
  cases j
  simp
section
variable {X : Cx} {a b c : Expr} {ta tb tc : TE} {pos : Pos}
theorem fin_bl {pins : List (Addr × Obj)} {σ : St} {H : Hp} {s : Shared} {Q : VK} {k k' : Bool} (I : Inv X pins σ H s) (q : Q (.bl k) H) (e : k = k') : EP X pins σ Q (.bool k') s := by
  subst e
  exact ⟨.bl k, H, I, rfl, q⟩
theorem op_eq : OpR X (compareOp .Eq) rEq := by
  intro pins s σ H x y v u Q I rx ry h
  obtain ⟨hs, q⟩ := h
  cases x with
  | non =>
    cases rx
    cases y with
    | non => cases ry; exact PySem.EqNone.eq_none_none (fin_bl I q (by simp))
    | bl j => cases ry; exact PySem.EqNone.eq_none_bool (fin_bl I q (by simp))
    | int j => obtain ⟨t', rfl⟩ := ry; exact PySem.EqNone.eq_none_int (fin_bl I q (by simp))
    | str j => obtain ⟨t', rfl⟩ := ry; exact PySem.EqNone.eq_none_str (fin_bl I q (by simp))
    | _ => exact absurd (show false = true from hs) Bool.false_ne_true
  | bl i =>
    cases rx
    cases y with
    | non => cases ry; exact PySem.EqNone.eq_bool_none (fin_bl I q (by simp))
    | bl j => cases ry; exact eq_bool (fin_bl I q dec_bl)
    | str j => obtain ⟨t', rfl⟩ := ry; exact PySem.EqMixed.eq_bool_str (fin_bl I q (by simp))
    | _ => exact absurd (show false = true from hs) Bool.false_ne_true
  | int i =>
    obtain ⟨t, rfl⟩ := rx
    cases y with
    | non => cases ry; exact PySem.EqNone.eq_int_none (fin_bl I q (by simp))
    | int j => obtain ⟨t', rfl⟩ := ry; exact eq_int (fin_bl I q dec_int)
    | str j => obtain ⟨t', rfl⟩ := ry; exact PySem.EqMixed.eq_int_str (fin_bl I q (by simp))
    | _ => exact absurd (show false = true from hs) Bool.false_ne_true
  | str i =>
    obtain ⟨t, rfl⟩ := rx
    cases y with
    | non => cases ry; exact PySem.EqNone.eq_str_none (fin_bl I q (by simp))
    | bl j => cases ry; exact PySem.EqMixed.eq_str_bool (fin_bl I q (by simp))
    | int j => obtain ⟨t', rfl⟩ := ry; exact PySem.EqMixed.eq_str_int (fin_bl I q (by simp))
    | str j => obtain ⟨t', rfl⟩ := ry; exact eq_str (fin_bl I q dec_str)
    | _ => exact absurd (show false = true from hs) Bool.false_ne_true
  | byt i =>
    obtain ⟨t, rfl⟩ := rx
    cases y with
    | byt j => obtain ⟨t', rfl⟩ := ry; exact PySem.W.eq_bytes (fin_bl I q dec_byt)
    | _ => exact absurd (show false = true from hs) Bool.false_ne_true
  | _ => cases y <;> exact absurd (show false = true from hs) Bool.false_ne_true
theorem op_lt : OpR X (compareOp .Lt) (rI0 fun i j => .bl (decide (i < j))) := opB0 fun _ _ _ _ _ _ _ q => lt_int q
theorem op_le : OpR X (compareOp .LtE) (rI0 fun i j => .bl (decide (i ≤ j))) := opB0 fun _ _ _ _ _ _ _ q => le_int q
theorem op_gt : OpR X (compareOp .Gt) (rI0 fun i j => .bl (decide (j < i))) := opB0 fun _ _ _ _ _ _ _ q => gt_int q
theorem op_notN : OpR X (compareOp .IsNot) (fun x y H Q => y = .non ∧ Q (.bl (!decide (x = .non))) H) := by
  intro pins s σ H x y v u Q I rx ry h
  obtain ⟨rfl, q⟩ := h
  cases ry
  refine isnot_none_gen (fin_bl I q ?_)
  cases x <;> first
    | (cases rx; rfl)
    | (obtain ⟨t, rfl⟩ := rx; rfl)
noncomputable def isObj : HO → Bool
  | .lst _ => true
  | .ins _ _ _ => true
  | _ => false
theorem OpR.or {f : Value → Value → Sem Value} {r r' : R2} (h : OpR X f r) (h' : OpR X f r') : OpR X f (fun x y H Q => r x y H Q ∨ r' x y H Q) := by
  intro pins s σ H x y v u Q I rx ry q
  rcases q with q | q
  · exact h pins s σ H x y v u Q I rx ry q
  · exact h' pins s σ H x y v u Q I rx ry q
theorem nomark (b : Expr) {op : CmpOp} (h : op ≠ .In := by decide) (h2 : op ≠ .NotIn := by decide) : behindInMarks op b = false := by
  have e1 : (op == CmpOp.In) = false := by cases op <;> first | rfl | exact absurd rfl h
  have e2 : (op == CmpOp.NotIn) = false := by cases op <;> first | rfl | exact absurd rfl h2
  cases b <;> simp [behindInMarks, e1, e2]
theorem pe_cmpR {op : CmpOp} {r : R2} (ho : OpR X (compareOp op) r) (ha : PE X a ta) (hb : PE X b tb) (hm : behindInMarks op b = false) : PE X (.Compare a [op] [b] pos) (tOp r ta tb) := by
  intro pins s σ H Q I h
  exact wpAny_Compare1 (binT ha hb I h fun v u s2 x y H2 I2 rx ry q => ho pins s2 σ H2 x y v u Q I2 rx ry q) hm
noncomputable def tTest (t : TE) : TT := fun σ H Q => t σ H fun x H' => ∃ k, x = .bl k ∧ Q k H'
theorem pt_cmpR {op : CmpOp} {r : R2} (ho : OpR X (compareOp op) r) (ha : PE X a ta) (hb : PE X b tb) (hm : behindInMarks op b = false) : PT X (.Compare a [op] [b] pos) (tTest (tOp r ta tb)) := by
  intro pins s σ H Q I h
  refine wpAny_isTrue_Compare1 (thn (ha pins s σ H _ I h) fun v s1 ⟨x, H1, I1, r1, q1⟩ => thn (hb pins s1 σ H1 _ I1 q1) fun u s2 ⟨y, H2, I2, r2, q2⟩ =>
    thn (ho pins s2 σ H2 x y v u _ I2 r1 r2 q2) fun c s3 ⟨z, H3, I3, r3, k, e, q3⟩ => ?_) hm
  subst e
  cases r3
  exact wpAny_truthy_bool ⟨H3, I3, q3⟩
noncomputable def tChain (r r' : R2) (ta tb tc : TE) : TE := fun σ H Q => ta σ H fun x H1 => tb σ H1 fun y H2 => r x y H2 fun z H3 => ∃ k, z = .bl k ∧
  (if k = true then tc σ H3 fun w' H4 => r' y w' H4 Q else Q (.bl false) H3)
noncomputable def TruV (K : PySem.W.Frag) (x : V) (H : Hp) (k : Bool) : Prop :=
  match x with
  | .non => k = false
  | .bl b => k = b
  | .int i => k = (i != 0)
  | .str y => y.length ≤ sizeLine ∧ k = ((y.length : Int) != 0)
  | .byt y => y.size ≤ sizeLine ∧ k = ((y.size : Int) != 0)
  | .ref p => (∃ xs, SqL K H p xs ∧ k = !xs.isEmpty) ∨ (∃ xs, SqT K H p xs ∧ k = !xs.isEmpty) ∨ ∃ kvs, H p = some (.dK kvs) ∧ k = !kvs.isEmpty
  | _ => False
theorem line63 : (sizeLine : Nat) < 2 ^ 63 := by rw [sizeLine_eq]; decide
theorem op_add_str : OpR X (binaryOp .Add) (fun x y H Q => ∃ i j, x = .str i ∧ y = .str j ∧ i.length + j.length ≤ sizeLine ∧ Q (.str (i ++ j)) H) := by
  intro pins s σ H x y v u Q I rx ry h
  obtain ⟨i, j, rfl, rfl, hz, q⟩ := h
  obtain ⟨t, rfl⟩ := rx
  obtain ⟨t', rfl⟩ := ry
  exact add_str (fun t' tk => ⟨.str (i ++ j), H, I.tok _, ⟨_, rfl⟩, q⟩) hz
noncomputable def PlainIxT (b : Expr) : Prop := ∀ o i, subscripted b false o i = operate [o, i] (getItem o i)
theorem vals1 {x : V} {us : List Value} (r : Vals [x] us) : ∃ u, us = [u] ∧ RelV x u := by
  cases r with
  | cons r1 r2 => cases r2; exact ⟨_, rfl, r1⟩
theorem vals2 {x y : V} {us : List Value} (r : Vals [x, y] us) : ∃ u w', us = [u, w'] ∧ RelV x u ∧ RelV y w' := by
  cases r with
  | cons r1 r2 =>
    cases r2 with
    | cons r3 r4 => cases r4; exact ⟨_, _, rfl, r1, r3⟩
theorem call_min2 (hc : X.calm = true) : CallR X (.builtin "min") (fun xs H Q => ∃ i j, xs = [.int i, .int j] ∧ Q (.int (if j < i then j else i)) H) := by
  intro pins s σ H xs us Q I r h
  obtain ⟨i, j, rfl, q⟩ := h
  obtain ⟨u, w', rfl, ⟨t, rfl⟩, ⟨t', rfl⟩⟩ := vals2 r
  refine min_two_ints (I.ok.hd hc) fun h' tk k => ⟨_, H, I.kept k, ?_, q⟩
  by_cases hj : j < i
  · rw [if_pos hj, if_pos hj]; exact ⟨_, rfl⟩
  · rw [if_neg hj, if_neg hj]; exact ⟨_, rfl⟩
theorem call_int1 : CallR X (.type "int") (fun xs H Q => (∃ i, xs = [.int i] ∧ Q (.int i) H) ∨ ∃ k, xs = [.bl k] ∧ Q (.int (if k then 1 else 0)) H) := by
  intro pins s σ H xs us Q I r h
  rcases h with ⟨i, rfl, q⟩ | ⟨k, rfl, q⟩
  · obtain ⟨u, rfl, t, rfl⟩ := vals1 r
    exact call_int_int ⟨.int i, H, I, ⟨_, rfl⟩, q⟩
  · obtain ⟨u, rfl, r1⟩ := vals1 r
    cases r1
    exact call_int_bool ⟨.int (if k then 1 else 0), H, I.tok _, ⟨_, rfl⟩, q⟩
noncomputable def LenV (K : PySem.W.Frag) (x : V) (H : Hp) (n : Nat) : Prop :=
  match x with
  | .str y => y.length ≤ sizeLine ∧ n = y.length
  | .byt y => y.size ≤ sizeLine ∧ n = y.size
  | .ref p => (∃ xs, SqL K H p xs ∧ n = xs.length) ∨ ∃ xs, SqT K H p xs ∧ n = xs.length
  | _ => False
end
end L2
namespace L2
open PySem PySem.Spec PyProof.Rows
structure ObjM (h : Heap) (x dx C : Addr) (mA : Str → Option Value) : Prop where
  obj : h.get? x = some (PySem.W.instObj C dx)
  ns : h.Ns1 dx mA
  ne : dx ≠ x
theorem lookIn_ns {h : Heap} {dx : Addr} {mA : Str → Option Value} (n : h.Ns1 dx mA) : ∃ od, h.get? dx = some od ∧ ∀ name, PySem.W.lookIn name od = some (mA name) := by
  obtain ⟨o, es, ep, ho, hd, hk, _, hm⟩ := n
  refine ⟨o, ho, fun name => ?_⟩
  have e := hm name
  unfold nsFind findBy at e
  rw [← Array.find?_toList] at e
  unfold PySem.W.lookIn
  rw [hd]
  dsimp only
  split
  · rename_i y q
    rw [q] at e
    exact congrArg some e
  · rename_i q
    rw [q] at e
    have a : es.toList.any (·.refKey) = false := by
      rw [List.any_eq_false]
      intro y hy
      obtain ⟨z, t, hkey⟩ := hk y (Array.mem_toList_iff.mp hy)
      simp [DictEntry.refKey, hkey]
    have a' : ¬ es.toList.any (·.refKey) = true := by rw [a]; exact Bool.false_ne_true
    rw [if_neg a']
    exact congrArg some e
theorem ObjM.look {h : Heap} {x dx C : Addr} {mA : Str → Option Value} (I : ObjM h x dx C mA) : ∃ od, PySem.W.InstAt h x (PySem.W.instObj C dx) C (some od) ∧ ∀ name, PySem.W.lookIn name od = some (mA name) :=
  let ⟨od, ho, hl⟩ := lookIn_ns I.ns
  ⟨od, ⟨I.obj, rfl, rfl, ho⟩, hl⟩
section
variable {prog : Program} {w : World} {A : Around} {E : Value → Shared → Prop} {s : Shared} {K : PySem.W.Frag} {x dx C f : Addr} {mA : Str → Option Value} {name : Str} {v : Value}
end
noncomputable def putF (f : Str) (v : V) : List (Str × V) → List (Str × V)
  | [] => [(f, v)]
  | (g, x) :: r => if g = f then (g, v) :: r else (g, x) :: putF f v r
theorem RelO.some_of {v : V} {o : Option Value} (r : RelO (some v) o) : ∃ u, o = some u ∧ RelV v u := by
  cases o with
  | none => exact (show False from r).elim
  | some u => exact ⟨u, rfl, r⟩
theorem RelO.none_of {o : Option Value} (r : RelO none o) : o = none := by
  cases o with
  | none => rfl
  | some u => exact (show False from r).elim
section
variable {P : Program} {w : World} {H H' : Hp} {h h' : Heap} {a C dx : Addr} {fs fs' : List (Str × V)}
end
structure Cls (K : PySem.W.Frag) (C : Addr) : Prop where
  pg : PySem.W.plainGet K C Str.empty = true
  hd : PySem.W.hasDictIn K C = true
  po : PySem.W.plainOver K C = true
  sa : PySem.W.findIn K (.ref C) "__setattr__" = some (some (.builtin "object.__setattr__"))
theorem Cls.get {K : PySem.W.Frag} {C : Addr} (c : Cls K C) (f : Str) : PySem.W.plainGet K C f = true := c.pg
noncomputable def NoAttr (K : PySem.W.Frag) (C : Addr) (f : Str) : Prop := PySem.W.findIn K (.ref C) f = some none
structure Con (K : PySem.W.Frag) (C : Addr) (f : Str) (v : V) (u : Value) : Prop where
  at_ : PySem.W.findIn K (.ref C) f = some (some u)
  rel : RelV v u
  get : PySem.W.specialIn K u "__get__" = some none
  cp : PySem.W.copiedNames.contains f = false
structure Meth (K : PySem.W.Frag) (C : Addr) (m : Str) (f : Addr) : Prop where
  at_ : PySem.W.findIn K (.ref C) m = some (some (.ref f))
  fn : PySem.W.isFn K (.ref f) = true
  kp : PySem.W.keepIn K (.ref f) = true
section
variable {X : Cx} {pins : List (Addr × Obj)} {σ : St} {H : Hp} {s : Shared} {a C dx : Addr} {fs : List (Str × V)} {f : Str} {v : V} {A : Around} {E : Value → Shared → Prop}
end
noncomputable def tFld (K : PySem.W.Frag) (ta : TE) (f : Str) : TE := fun σ H Q => ta σ H fun x H1 => ∃ a C dx fs v, x = .ref a ∧ H1 a = some (.ins C dx fs) ∧ Cls K C ∧ NoAttr K C f ∧ fs.lookup f = some v ∧ Q v H1
noncomputable def tCon (K : PySem.W.Frag) (ta : TE) (f : Str) : TE := fun σ H Q => ta σ H fun x H1 => ∃ a C dx fs v u, x = .ref a ∧ H1 a = some (.ins C dx fs) ∧ Cls K C ∧ Con K C f v u ∧ fs.lookup f = none ∧ Q v H1
noncomputable def sFld (K : PySem.W.Frag) (ta tv : TE) (f : Str) : TS := fun D σ H => tv σ H fun y H1 => ta σ H1 fun x H2 => ∃ a C dx fs, x = .ref a ∧ H2 a = some (.ins C dx fs) ∧ Cls K C ∧ NoAttr K C f ∧ fs.length < 1000 ∧
  D.nx σ (upd H2 a (.ins C dx (putF f y fs)))
noncomputable def InOp (X : Cx) (op : Operator) (rd : V → V → Hp → VK → Prop) : Prop :=
  ∀ (pins : List (Addr × Obj)) (s : Shared) (σ : St) (H : Hp) (x y : V) (u v : Value) (Q : VK), Inv X pins σ H s → RelV x u → RelV y v → rd x y H Q → wpAny (model X.prog X.w) X.A (inplaceOp op u v) (EP X pins σ Q) X.xe s
noncomputable def sFldAug (K : PySem.W.Frag) (ta tv : TE) (rd : V → V → Hp → VK → Prop) (f : Str) : TS := fun D σ H => ta σ H fun x H1 => ∃ a C dx fs v, x = .ref a ∧ H1 a = some (.ins C dx fs) ∧ Cls K C ∧ NoAttr K C f ∧ fs.lookup f = some v ∧
  tv σ H1 fun y H2 => rd v y H2 fun z H3 => ∃ dx' fs', H3 a = some (.ins C dx' fs') ∧ fs'.length < 1000 ∧ D.nx σ (upd H3 a (.ins C dx' (putF f z fs')))
section
variable {X : Cx} {o e value : Expr} {f : Str} {pos pos' tpos : Pos} {ta tv : TE}
noncomputable def rAdd : V → V → Hp → VK → Prop := fun x y H Q => ∃ i j, x = .int i ∧ y = .int j ∧ Q (.int (i + j)) H
noncomputable def rSub : V → V → Hp → VK → Prop := fun x y H Q => ∃ i j, x = .int i ∧ y = .int j ∧ Q (.int (i - j)) H
end
section
variable {X : Cx} {pins : List (Addr × Obj)} {σ : St} {H : Hp} {s : Shared} {A : Around} {E : Value → Shared → Prop} {Q : Value → Shared → Prop} {c : Value} {b : Bool}
inductive TyOf (K : PySem.W.Frag) (H : Hp) : V → Value → Prop where
  | non : TyOf K H .non (.type "NoneType")
  | bl (x : Bool) : TyOf K H (.bl x) (.type "bool")
  | int (i : Int) : TyOf K H (.int i) (.type "int")
  | str (x : Str) : TyOf K H (.str x) (.type "str")
  | flt (x : UInt64) : TyOf K H (.flt x) (.type "float")
  | lst {a : Addr} {xs : List V} (e : H a = some (.lst xs)) : TyOf K H (.ref a) (.type "list")
  | frz {a : Addr} {o : Obj} {xs : List V} (e : H a = some (.frz o (.lst xs))) : TyOf K H (.ref a) (.type "list")
  | tup {a : Addr} {xs : List V} (e : H a = some (.tup xs)) : TyOf K H (.ref a) (.type "tuple")
  | dK {a : Addr} {kvs : List (Key × V)} (e : H a = some (.dK kvs)) : TyOf K H (.ref a) (.type "dict")
  | dT {a : Addr} {kvs : List (List Key × V)} (e : H a = some (.dT kvs)) : TyOf K H (.ref a) (.type "dict")
  | ins {a C dx : Addr} {fs : List (Str × V)} (e : H a = some (.ins C dx fs)) (cl : Cls K C) (ha : PySem.W.findIn K (.ref C) "__class__" = some (some (.builtin "object.__class__")))
      (hn : PySem.W.specialIn K (.builtin "object.__class__") "__get__" = some (some (.builtin "getset_descriptor.__get__"))) (htk : PySem.W.takesIn K (.builtin "object.__class__") = some true)
      (hm : PySem.W.mroIn K C (.type "object") = some true) : TyOf K H (.ref a) (.ref C)
end
end L2
namespace L2
open PySem PySem.Spec PyProof.Rows
structure Room (k : Nat) (A : Around) : Prop where
  hd : A.handled = none
  dp : A.depth + 3 * k + 5 < recursionLimit
  un : A.units + 16 * k + 200 < cLine
theorem Room.mono {j k : Nat} {A : Around} (r : Room k A) (h : j ≤ k) : Room j A := ⟨r.hd, by have := r.dp; omega, by have := r.un; omega⟩
theorem Room.deeper {k : Nat} {A : Around} (r : Room (k + 1) A) (env : Env) : Room k (A.deeper env) :=
  ⟨r.hd, by have := r.dp; show A.depth + 1 + 3 * k + 5 < _; omega, by have := r.un; show A.units + 3 + 16 * k + 200 < _; omega⟩
theorem Room.in1 {k : Nat} {A : Around} (r : Room (k + 1) A) : Room k A.in1 :=
  ⟨r.hd, by have := r.dp; show A.depth + 3 * k + 5 < _; omega, by have := r.un; show A.units + 1 + 16 * k + 200 < _; omega⟩
theorem make_depth {A : Around} {C : Addr} {us : List Value} {kw : List (Str × Value)} : (A.under (.builtin "type.__call__" ⟨.ref C :: us, kw⟩)).depth = A.depth + 1 := by
  first | rfl | simp [Around.under, Code.weight, Code.isCreation, Code.isGuard, Code.isCaller, Code.frames, Code.isFrame, guardIds]
theorem make_units {A : Around} {C : Addr} {us : List Value} {kw : List (Str × Value)} : (A.under (.builtin "type.__call__" ⟨.ref C :: us, kw⟩)).units = A.units + 1 := by
  first | rfl | simp [Around.under, Code.cUnits, Code.frames, Code.isFrame]
theorem Room.make {k : Nat} {A : Around} (r : Room (k + 1) A) (C : Addr) (us : List Value) (kw : List (Str × Value)) : Room k (A.under (.builtin "type.__call__" ⟨.ref C :: us, kw⟩)) :=
  ⟨r.hd, by have := r.dp; rw [make_depth]; omega, by have := r.un; rw [make_units]; omega⟩
theorem Room.depth {k : Nat} {A : Around} (r : Room k A) : A.depth < recursionLimit := by have := r.dp; omega
theorem Room.units {k : Nat} {A : Around} (r : Room k A) : A.units + 64 < cLine := by have := r.un; omega
noncomputable def tNil : TA := fun _ H Q => Q [] H
noncomputable def tCons (ta : TE) (tr : TA) : TA := fun σ H Q => ta σ H fun x H1 => tr σ H1 fun xs H2 => Q (x :: xs) H2
section
variable {X : Cx} {e : Expr} {es : List Expr} {te : TE} {t : TA} {pos : Pos}
theorem pa_nil : PA X [] tNil := fun _ _ _ _ H Q I h => Calls.spliced_nil ⟨[], H, I, .nil, h⟩
theorem pa_cons (ha : PE X e te) (hr : PA X es t) (hs : starEach (e :: es) X.env = (false, eval e X.env) :: starEach es X.env := by rfl) : PA X (e :: es) (tCons te t) := by
  intro pos pins s σ H Q I h
  rw [hs]
  show wpAny _ _ (spliced ((false, eval e X.env) :: backTo pos (starEach es X.env))) _ _ s
  refine Calls.spliced_cons (thn (ha pins s σ H _ I h) fun u s1 ⟨x, H1, I1, r1, q1⟩ => ?_)
  exact thn (hr pos pins s1 σ H1 _ I1 q1) fun us s2 ⟨xs, H2, I2, r2, q2⟩ => ⟨x :: xs, H2, I2, .cons r1 r2, q2⟩
noncomputable def tTup (t : TA) : TE := fun σ H Q => t σ H fun xs H1 => xs.length ≤ sizeLine ∧ ∀ p, H1 p = none → Q (.ref p) (upd H1 p (.tup xs))
noncomputable def tLst (t : TA) : TE := fun σ H Q => t σ H fun xs H1 => xs.length ≤ sizeLine ∧ ∀ p, H1 p = none → Q (.ref p) (upd H1 p (.lst xs))
theorem pe_tup {x1} (h : PA X es t) : PE X (.Tuple es x1 pos) (tTup t) := by
  intro pins s σ H Q I hq
  refine wpAny_Tuple_spliced (thn (h pos pins s σ H _ I hq) fun us s1 ⟨xs, H1, I1, r, z, q⟩ => ⟨by rw [← r.length]; exact z, ?_⟩)
  have hf : H1 s1.heap.objs.size = none := I1.hok.fresh (Nat.le_refl _)
  refine ⟨.ref s1.heap.objs.size, upd H1 s1.heap.objs.size (.tup xs), I1.laid (t' := s1.toks) (fun b u e => Heap.get?_push_of_some _ e) (Nat.le_refl _) ?_, rfl, q _ hf⟩
  exact ⟨z, us, r, ⟨_, Heap.get?_push_size _ rfl, rfl, _, rfl⟩⟩
theorem pe_lst (h : PA X es t) : PE X (.List es pos) (tLst t) := by
  intro pins s σ H Q I hq
  refine wpAny_List_spliced (thn (h pos pins s σ H _ I hq) fun us s1 ⟨xs, H1, I1, r, z, q⟩ => ⟨by rw [← r.length]; exact z, ?_⟩)
  have hf : H1 s1.heap.objs.size = none := I1.hok.fresh (Nat.le_refl _)
  refine ⟨.ref s1.heap.objs.size, upd H1 s1.heap.objs.size (.lst xs), I1.laid (t' := s1.toks) (fun b u e => Heap.get?_push_of_some _ e) (Nat.le_refl _) ?_, rfl, q _ hf⟩
  exact ⟨z, us, 0, r, Heap.get?_push_size _ rfl⟩
end
noncomputable abbrev Sp := List V → Hp → VK → XK → Prop
noncomputable abbrev CXT := List Env → Hp → Shared → XK → Value → Shared → Prop
structure Env0 (P : Program) (w : World) (K : PySem.W.Frag) (mg : Str → Option Value) (base : Heap) (A : Around) (outer : List Env) (s : Shared) (H : Hp) : Prop where
  frames : A.frames = some outer
  mod : Mod K mg base
  bs : ∀ b o, base.get? b = some o → s.heap.get? b = some o ∧ H b = none
  bsz : base.objs.size ≤ s.heap.objs.size
  funs : s.heap.FunFrames base outer
  frf : ∀ b ∈ frs outer, H b = none
  hok : HOk P w H s.heap
  bare : AllBare s.gens
noncomputable def CE (outer : List Env) (P : Program) (w : World) (H : Hp) (s : Shared) (Q : VK) (u : Value) (s' : Shared) : Prop :=
  ∃ v H', s'.os = s.os ∧ AllBare s'.gens ∧ Un (frs outer) [] H H' s.heap s'.heap ∧ HOk P w H' s'.heap ∧ RelV v u ∧ Q v H'
noncomputable def CR (CX : CXT) (outer : List Env) (P : Program) (w : World) (H : Hp) (s : Shared) (Q : VK) (E : XK) (r : Result) (s' : Shared) : Prop :=
  match r with
  | .ok (.ret u) => CE outer P w H s Q u s'
  | .ok _ => False
  | .error e => CX outer H s E e s'
structure FnOk (P : Program) (w : World) (K : PySem.W.Frag) (mg : Str → Option Value) (base : Heap) (CX : CXT) (k : Nat) (f : Addr) (fd : FuncData) (ps : List Str) (sp : Sp) : Prop where
  len : ∀ vs H Q E, sp vs H Q E → vs.length = ps.length
  run : ∀ (A : Around) (outer : List Env) (s : Shared) (H : Hp) (args : Args) (us : List Value) (vs : List V) (Q : VK) (E : XK), Room k A → Env0 P w K mg base A outer s H → BindsTo s fd args (ps.zip us) → Vals vs us → sp vs H Q E →
    codeAny (model P w) A (.call (.ref f) args) (CR CX outer P w H s Q E) s
theorem FnOk.mono {P : Program} {w : World} {K : PySem.W.Frag} {mg : Str → Option Value} {base : Heap} {CX : CXT} {j k : Nat} {f : Addr} {fd : FuncData} {ps : List Str} {sp : Sp} (F : FnOk P w K mg base CX j f fd ps sp) (h : j ≤ k) :
    FnOk P w K mg base CX k f fd ps sp := ⟨F.len, fun A outer s H args us vs Q E hr => F.run A outer s H args us vs Q E (hr.mono h)⟩
theorem FnOk.imp {P : Program} {w : World} {K : PySem.W.Frag} {mg : Str → Option Value} {base : Heap} {CX : CXT} {k : Nat} {f : Addr} {fd : FuncData} {ps : List Str} {sp sp' : Sp} (F : FnOk P w K mg base CX k f fd ps sp)
    (h : ∀ vs H Q E, sp' vs H Q E → sp vs H Q E) : FnOk P w K mg base CX k f fd ps sp' :=
  ⟨fun vs H Q E q => F.len vs H Q E (h _ _ _ _ q), fun A outer s H args us vs Q E hr he hb hv hs => F.run A outer s H args us vs Q E hr he hb hv (h _ _ _ _ hs)⟩
theorem Env0.make {P : Program} {w : World} {K : PySem.W.Frag} {mg : Str → Option Value} {base : Heap} {A : Around} {outer : List Env} {s : Shared} {H : Hp} (e : Env0 P w K mg base A outer s H) (C : Addr) (us : List Value) (kw : List (Str × Value)) :
    Env0 P w K mg base (A.under (.builtin "type.__call__" ⟨.ref C :: us, kw⟩)) outer s H := ⟨by first | exact e.frames | (simpa [Around.under, Code.envs, Code.isFrame, pushEnvs] using e.frames), e.mod, e.bs, e.bsz, e.funs, e.frf, e.hok, e.bare⟩
theorem Env0.in1 {P : Program} {w : World} {K : PySem.W.Frag} {mg : Str → Option Value} {base : Heap} {A : Around} {outer : List Env} {s : Shared} {H : Hp} (e : Env0 P w K mg base A outer s H) :
    Env0 P w K mg base A.in1 outer s H := ⟨e.frames, e.mod, e.bs, e.bsz, e.funs, e.frf, e.hok, e.bare⟩
section
variable {X : Cx} {pins : List (Addr × Obj)} {σ : St} {H : Hp} {s s' : Shared}
theorem Inv.env0 (I : Inv X pins σ H s) : Env0 X.prog X.w X.K X.mg X.base X.A X.stack s H :=
  ⟨I.ok.frames, I.ok.mod, I.bs, Nat.le_trans I.ok.bsz I.sz, I.stack, I.stkFree, I.hok, I.bare⟩
theorem Inv.after {Q : VK} {u : Value} (I : Inv X pins σ H s) (h : CE X.stack X.prog X.w H s Q u s') : EP X pins σ Q u s' := by
  obtain ⟨v, H', os, bare, un, hok, r, q⟩ := h
  obtain ⟨hh, g, d, t, os'⟩ := s'
  obtain rfl : os' = s.os := os
  exact ⟨v, H', I.call (h' := hh) (g' := g) (d' := d) (t' := t) (ch := []) un hok bare (fun b z => absurd z (by simp)), r, q⟩
end
noncomputable def tCall (sp : Sp) (dvs : List V) (E : XK) (t : TA) : TE := fun σ H Q => t σ H fun vs H1 => sp (vs ++ dvs) H1 Q E
noncomputable def tMeth (C : Addr) (m : Str) (sp : Sp) (dvs : List V) (E : XK) (ta : TE) (t : TA) : TE := fun σ H Q => ta σ H fun x H1 => ∃ a dx fs, x = .ref a ∧ H1 a = some (.ins C dx fs) ∧ fs.lookup m = none ∧
  t σ H1 fun vs H2 => sp (x :: (vs ++ dvs)) H2 Q E
noncomputable def tMake (C : Addr) (sp : Sp) (dvs : List V) (E : XK) (t : TA) : TE := fun σ H Q => t σ H fun vs H1 => ∀ x dx, H1 x = none → H1 dx = none → dx ≠ x →
  sp (.ref x :: (vs ++ dvs)) (upd (upd H1 dx (.own x)) x (.ins C dx [])) (fun v H2 => v = .non ∧ Q (.ref x) H2) E
noncomputable def Binds (K : PySem.W.Frag) (fd : FuncData) (ps : List Str) (ds : List Value) : Prop :=
  ∀ (s : Shared) (us : List Value), K.In s.heap → (us ++ ds).length = ps.length → BindsTo s fd ⟨us, []⟩ (ps.zip (us ++ ds))
theorem Binds.all {K : PySem.W.Frag} {fd : FuncData} {ps : List Str} (h : ∀ us : List Value, us.length = ps.length → bindArgs fd ⟨us, []⟩ = pure (ps.zip us)) : Binds K fd ps [] := fun s us _ hl => by
  rw [List.append_nil] at hl ⊢
  exact .of_eq (h us hl)
noncomputable def Passes (CX : CXT) (X : Cx) (E : XK) : Prop := ∀ (pins : List (Addr × Obj)) (σ : St) (H : Hp) (s : Shared) (e : Value) (s' : Shared), Inv X pins σ H s → CX X.stack H s E e s' → X.xe e s'
section
variable {X : Cx} {CX : CXT} {k : Nat} {f C : Addr} {fd : FuncData} {ps : List Str} {sp : Sp} {dvs : List V} {ds : List Value} {E : XK} {x m : Str} {p pos apos : Pos} {e o : Expr} {es : List Expr} {ta : TE} {t : TA}
theorem run_fn {pins : List (Addr × Obj)} {σ : St} {H : Hp} {s : Shared} {Q : VK} {us : List Value} {vs : List V} (F : FnOk X.prog X.w X.K X.mg X.base CX k f fd ps sp) (hr : Room k X.A) (hb : Binds X.K fd ps ds) (hd : Vals dvs ds) (hx : Passes CX X E)
    (I : Inv X pins σ H s) (r : Vals vs us) (h : sp (vs ++ dvs) H Q E) : wpAny (model X.prog X.w) X.A (call (.ref f) us) (EP X pins σ Q) X.xe s := by
  have r2 : Vals (vs ++ dvs) (us ++ ds) := r.append hd
  have hl : (us ++ ds).length = ps.length := by rw [← r2.length]; exact F.len _ _ _ _ h
  refine wpAny_call (codeAny_mono (F.run X.A X.stack s H ⟨us, []⟩ (us ++ ds) (vs ++ dvs) Q E hr I.env0 (hb s us I.kIn hl) r2 h) fun r s' hq => ?_)
  cases r with
  | error e => exact hx pins σ H s e s' I hq
  | ok fl =>
    cases fl with
    | ret u => exact I.after hq
    | next => exact False.elim hq
    | brk => exact False.elim hq
    | cont => exact False.elim hq
theorem pe_call (F : FnOk X.prog X.w X.K X.mg X.base CX k f fd ps sp) (hr : Room k X.A) (hg : Gl X x) (hm : X.mg x = some (.ref f)) (hk : PySem.W.keepIn X.K (.ref f) = true) (hb : Binds X.K fd ps ds) (hd : Vals dvs ds) (hx : Passes CX X E)
    (ha : PA X (e :: es) t) (hdb : (x == ("__debug__" : Str)) = false := by decide) (he : starEach (e :: es) X.env = (false, eval e X.env) :: starEach es X.env := by rfl) (hpl : (backTo pos (starEach es X.env)).any (·.1) = false := by rfl) :
    PE X (.Call (.Name x p) (e :: es) [] pos) (tCall sp dvs E t) := by
  intro pins s σ H Q I h
  refine wpAny_Call_Name_kw (ld_glob I hg hm ?_ hdb)
  refine PySem.W.callWith_K (h₀ := X.base) I.ok.mod.kin hk (thn (ha pos pins s σ H _ I h) fun us s1 ⟨vs, H1, I1, r, q⟩ => ⟨I1.kIn, ?_⟩) he hpl
  exact run_fn F hr hb hd hx I1 r q
structure Mk (K : PySem.W.Frag) (C f : Addr) : Prop where
  makes : PySem.W.makesIn K C = true
  init : PySem.W.findIn K (.ref C) "__init__" = some (some (.ref f))
  fn : PySem.W.isFn K (.ref f) = true
  kp : PySem.W.keepIn K (.ref C) = true
end
noncomputable def PK (X : Cx) (kws : List Keyword) (t : TA) : Prop :=
  ∀ (pos : Pos) (pins : List (Addr × Obj)) (s : Shared) (σ : St) (H : Hp) (Q : List V → Hp → Prop), Inv X pins σ H s → t σ H Q → wpAny (model X.prog X.w) X.A (evalAll ((backToKw pos (keywordEach kws X.env)).map (·.2))) (AP X pins σ Q) X.xe s
section
variable {X : Cx} {CX : CXT} {k : Nat} {f C : Addr} {fd : FuncData} {ps ks : List Str} {sp : Sp} {E : XK} {x m : Str} {p pos apos kpos : Pos} {e o : Expr} {es : List Expr} {kws : List Keyword} {te ta : TE} {t tk : TA} {nm : Option Str}
structure KBinds (K : PySem.W.Frag) (fd : FuncData) (ps ks : List Str) (g : List Value → List Value → List Value) (gV : List V → List V → List V) : Prop where
  to : ∀ (s : Shared) (us ws : List Value), K.In s.heap → (g us ws).length = ps.length → BindsTo s fd ⟨us, ks.zip ws⟩ (ps.zip (g us ws))
  rel : ∀ {vs : List V} {us : List Value} {zs : List V} {ws : List Value}, Vals vs us → Vals zs ws → Vals (gV vs zs) (g us ws)
noncomputable def tCallK (sp : Sp) (gV : List V → List V → List V) (E : XK) (t tk : TA) : TE := fun σ H Q => t σ H fun vs H1 => tk σ H1 fun zs H2 => sp (gV vs zs) H2 Q E
variable {g : List Value → List Value → List Value} {gV : List V → List V → List V}
end
structure FnScope (N P : List Str) (sc : Scope) : Prop where
  kind : sc.kind = .function
  co : sc.isCoroutine = false
  gen : sc.isGenerator = false
  nd : N.Nodup
  pre : N.take P.length = P
  par : ∀ x ∈ P, sc.names.lookup x = some .local ∨ sc.names.lookup x = some .cell
  nofree : ∀ y ∈ sc.names, y.2 ≠ .free
theorem bindL_out {kindOf : Str → Option NameKind} {x : Str} : ∀ {binds : List (Str × Value)} {m : Str → Option Value}, (∀ v, (x, v) ∉ binds) → bindL kindOf binds m x = m x
  | [], _, _ => rfl
  | (n, v) :: r, m, h => by
    unfold bindL
    rw [bindL_out fun w hw => h w (List.mem_cons_of_mem _ hw)]
    split
    · have : x ≠ n := by rintro rfl; exact h v List.mem_cons_self
      simp [this]
    · rfl
theorem bindC_out {kindOf : Str → Option NameKind} {x : Str} : ∀ {binds : List (Str × Value)} {m : Str → Option Value}, (∀ v, (x, v) ∉ binds) → bindC kindOf binds m x = m x
  | [], _, _ => rfl
  | (n, v) :: r, m, h => by
    unfold bindC
    rw [bindC_out fun w hw => h w (List.mem_cons_of_mem _ hw)]
    split
    · rfl
    · have : x ≠ n := by rintro rfl; exact h v List.mem_cons_self
      simp [this]
theorem bindL_get {kindOf : Str → Option NameKind} {x : Str} {v : Value} : ∀ {P : List Str} {vs : List Value} {i : Nat} {m : Str → Option Value}, P.Nodup → P[i]? = some x → vs[i]? = some v → kindOf x = some .local →
    bindL kindOf (P.zip vs) m x = some v
  | [], _, _, _, _, h, _, _ => by simp at h
  | _ :: _, [], _, _, _, _, h, _ => by simp at h
  | p :: P, w :: vs, 0, m, nd, h1, h2, hk => by
    simp at h1 h2; subst h1; subst h2
    show bindL kindOf ((p, w) :: P.zip vs) m p = _
    unfold bindL
    rw [bindL_out fun v hv => (List.nodup_cons.mp nd).1 (List.of_mem_zip hv).1, if_pos hk]
    simp
  | p :: P, w :: vs, i + 1, m, nd, h1, h2, hk => by
    show bindL kindOf ((p, w) :: P.zip vs) m x = _
    unfold bindL
    exact bindL_get (i := i) (List.nodup_cons.mp nd).2 (by simpa using h1) (by simpa using h2) hk
theorem bindC_get {kindOf : Str → Option NameKind} {x : Str} {v : Value} : ∀ {P : List Str} {vs : List Value} {i : Nat} {m : Str → Option Value}, P.Nodup → P[i]? = some x → vs[i]? = some v → kindOf x ≠ some .local →
    bindC kindOf (P.zip vs) m x = some v
  | [], _, _, _, _, h, _, _ => by simp at h
  | _ :: _, [], _, _, _, _, h, _ => by simp at h
  | p :: P, w :: vs, 0, m, nd, h1, h2, hk => by
    simp at h1 h2; subst h1; subst h2
    show bindC kindOf ((p, w) :: P.zip vs) m p = _
    unfold bindC
    rw [bindC_out fun v hv => (List.nodup_cons.mp nd).1 (List.of_mem_zip hv).1, if_neg hk]
    simp
  | p :: P, w :: vs, i + 1, m, nd, h1, h2, hk => by
    show bindC kindOf ((p, w) :: P.zip vs) m x = _
    unfold bindC
    exact bindC_get (i := i) (List.nodup_cons.mp nd).2 (by simpa using h1) (by simpa using h2) hk
noncomputable def start (N : List Str) (vs : List V) : St := vs.map some ++ List.replicate (N.length - vs.length) none
noncomputable def cxOf (CX : CXT) (P : Program) (w : World) (K : PySem.W.Frag) (mg : Str → Option Value) (base : Heap) (N : List Str) (qual : Str) (scope : Scope) (f : Addr) (cd : Value) (A : Around) (outer : List Env) (s : Shared) (H : Hp) (E : XK) : Cx where
  prog := P
  w := w
  K := K
  mg := mg
  base := base
  A := A.deeper (envOfC qual scope s.heap.objs.size f cd)
  N := N
  s₀ := s
  H₀ := H
  env := envOfC qual scope s.heap.objs.size f cd
  outer := outer
  stack := envOfC qual scope s.heap.objs.size f cd :: outer
  ex := []
  calm := true
  fn := fun _ => true
  pn := []
  xe := fun e s' => wpAny (model P w) (A.deeper (envOfC qual scope s.heap.objs.size f cd)) (leaving (envOfC qual scope s.heap.objs.size f cd) e) (fun _ s'' => CX outer H s E e s'') (fun e' s'' => CX outer H s E e' s'') s'
theorem cell_has {sc : Scope} {n : Nat} {x : Str} (h : sc.names.lookup x = some .cell) : ∃ c, (cellsFrom n sc.names []).lookup x = some c := by
  have q := PySem.W.cellsFrom_some sc.names n [] (.inl h)
  exact Option.isSome_iff_exists.mp q
theorem inv_start {CX : CXT} {P : Program} {w : World} {K : PySem.W.Frag} {mg : Str → Option Value} {base : Heap} {N ps : List Str} {qual : Str} {scope : Scope} {f : Addr} {cd : Value} {A : Around} {outer : List Env} {s s1 : Shared} {H : Hp} {E : XK} {us : List Value} {vs : List V}
    (S : FnScope N ps scope) (hd : A.handled = none) (e0 : Env0 P w K mg base A outer s H) (hl : vs.length = ps.length) (r : Vals vs us)
    (x : InCallC s s.heap.objs.size (bindL (envOfC qual scope s.heap.objs.size f cd).kindOf (ps.zip us) fun _ => none) (cellsFrom (s.heap.objs.size + 1) scope.names []) (bindC (envOfC qual scope s.heap.objs.size f cd).kindOf (ps.zip us) fun _ => none) s1) :
    Inv (cxOf CX P w K mg base N qual scope f cd A outer s H E) [] (start N vs) H s1 := by
  have hpl : ps.length ≤ N.length := by have := congrArg List.length S.pre; rw [List.length_take] at this; omega
  obtain ⟨h1, tk, rfl, hk⟩ := x.done
  have noA : ∀ b : Addr, b ∉ (cxOf CX P w K mg base N qual scope f cd A outer s H E).ex := fun b z => absurd (show b ∈ ([] : List Addr) from z) (by simp)
  refine ⟨⟨e0.mod, S.kind, rfl, rfl, Nat.le_refl _, fun y z c h1 h2 => ?_, fun y hy => ?_, fun y c _ h => ?_, fun _ => hd, Around.frames_deeper e0.frames, .inr ⟨rfl, rfl⟩, fun b z => absurd z (noA b), e0.bs, e0.bsz, fun b _ _ => noA b, fun b z => absurd z (noA b), e0.funs, e0.frf⟩,
    rfl, e0.bare, Un.kept hk, ⟨_, x.toInCall.ns, fun i y v h1 h2 h3 => ?_⟩, fun y c h => ⟨_, x.cell y c h⟩, e0.hok.fresh (Nat.le_refl _), fun y c h => ?_, fun p hp => absurd (show p ∈ ([] : List (Addr × Obj)) from hp) (by simp), e0.hok.kept hk, ?_⟩
  · exact name_of_addr x.apart (PySem.mem_of_lookup h1) (PySem.mem_of_lookup h2)
  · have hy : scope.names.lookup y = some .cell ∨ scope.names.lookup y = some .free := hy
    rcases hy with hy | hy
    · exact cell_has hy
    · exact absurd rfl (S.nofree _ (PySem.mem_of_lookup hy))
  · exact Nat.le_of_lt (x.above y c (PySem.mem_of_lookup h))
  · have hi : i < vs.length := by
      unfold start at h2
      by_cases hi : i < vs.length
      · exact hi
      · rw [List.getElem?_append_right (by simpa using hi)] at h2
        rw [List.getElem?_replicate] at h2
        split at h2 <;> cases h2
    have ha : vs[i]? = some v := by
      unfold start at h2
      rw [List.getElem?_append_left (by simpa using hi), List.getElem?_map] at h2
      cases e : vs[i]? with
      | none => rw [e] at h2; cases h2
      | some a => rw [e] at h2; cases h2; rfl
    obtain ⟨u, hu, rv⟩ := r.get ha
    have hp : ps[i]? = some y := by
      rw [← S.pre, List.getElem?_take_of_lt (by omega)]; exact h1
    have ndP : ps.Nodup := by rw [← S.pre]; exact S.nd.sublist (List.take_sublist _ _)
    refine ⟨u, rv, ?_⟩
    rcases S.par y (List.mem_of_getElem? hp) with k | k
    · exact .inl ⟨k, bindL_get ndP hp hu k⟩
    · obtain ⟨c, e⟩ := cell_has (n := s.heap.objs.size + 1) k
      refine .inr ⟨.inl k, c, e, ?_⟩
      have q := x.cell y c e
      rw [bindC_get ndP hp hu (by show scope.names.lookup y ≠ _; rw [k]; decide)] at q
      exact q
  · exact e0.hok.fresh (Nat.le_of_lt (x.above y c (PySem.mem_of_lookup h)))
  · unfold start
    show _ = N.length
    rw [List.length_append, List.length_map, List.length_replicate]
    omega
theorem fn_of {CX : CXT} {P : Program} {w : World} {K : PySem.W.Frag} {mg : Str → Option Value} {base : Heap} {k : Nat} {f : Addr} {name qual : Str} {params : Arguments} {body : List Stmt} {scope : Scope} {dV kV doc pm cdv ct oc : Value} {an od : Option Addr}
    {osl : Array (Option Value)} {N ps : List Str} {sp : Sp} (lk : K.lookup f = some ⟨oc, od, .func (PySem.W.fnOf name qual params body scope dV kV doc pm an cdv ct), osl⟩) (hcd : PySem.W.codeIn K cdv qual = true) (S : FnScope N ps scope)
    (len : ∀ vs H Q E, sp vs H Q E → vs.length = ps.length)
    (hbody : ∀ (A : Around) (outer : List Env) (s : Shared) (H : Hp) (vs : List V) (Q : VK) (E : XK), Room k (A.deeper (envOfC qual scope s.heap.objs.size f cdv)) → sp vs H Q E →
      ∃ t, PSs (cxOf CX P w K mg base N qual scope f cdv A outer s H E) body t ∧ t { nx := fun _ H' => Q .non H', rt := Q } (start N vs) H) :
    FnOk P w K mg base CX (k + 1) f (PySem.W.fnOf name qual params body scope dV kV doc pm an cdv ct) ps sp := by
  refine ⟨len, fun A outer s H args us vs Q E hr e0 hb r hsp => ?_⟩
  have hl := len _ _ _ _ hsp
  have KX : K.In s.heap := e0.mod.kin.keeps fun b o e => (e0.bs b o e).1
  have lim : s.heap.NoLimit := e0.mod.nolimit.keeps fun b o e => (e0.bs b o e).1
  have hkind : ∀ y ∈ ps.zip us, scope.names.lookup y.1 = some .local ∨ (scope.names.lookup y.1 = some .cell ∧ ((cellsFrom (s.heap.objs.size + 1) scope.names []).lookup y.1).isSome = true) := fun ⟨n, v⟩ hy => by
    rcases S.par n (List.of_mem_zip hy).1 with q | q
    · exact .inl q
    · exact .inr ⟨q, PySem.W.cellsFrom_some _ _ _ (.inl q)⟩
  refine codeAny_call_function hr.depth (KX _ _ lk) rfl S.co S.gen rfl (PySem.W.codeRec_of KX hcd) (hb _ _ _ _ ?_)
  refine wpAny_newFunctionEnv_cells S.kind hkind fun env he s1 x => ?_
  subst he
  refine ⟨lim.keeps x.toInCall.keep, codeAny_func ?_⟩
  obtain ⟨t, ht, hq⟩ := hbody A outer s H vs Q E (hr.deeper _) hsp
  have I : Inv (cxOf CX P w K mg base N qual scope f cdv A outer s H E) [] (start N vs) H s1 := inv_start S hr.hd e0 hl r x
  refine wpAny_mono (ht [] s1 (start N vs) H _ I hq) (fun fl s' hs => ?_) fun e s' hs => hs
  have fin : ∀ {σ' : St} {H' : Hp} {v : V} {u : Value}, Inv (cxOf CX P w K mg base N qual scope f cdv A outer s H E) [] σ' H' s' → RelV v u → Q v H' → CE outer P w H s Q u s' :=
    fun {σ' H' v u} J rv q => ⟨v, H', J.os, J.bare, J.base, J.hok, rv, q⟩
  cases fl with
  | ret u =>
    obtain ⟨v, σ', H', J, rv, q⟩ := hs
    exact fin J rv q
  | next =>
    obtain ⟨σ', H', J, q⟩ := hs
    exact fin (v := V.non) (u := Value.none) J rfl q
  | brk =>
    obtain ⟨_, _, _, q⟩ := hs
    exact False.elim q
  | cont =>
    obtain ⟨_, _, _, q⟩ := hs
    exact False.elim q
end L2
namespace L2
open PySem PySem.Spec PyProof.Rows
section
variable {X : Cx} {x : Str} {p pos : Pos} {e : Expr} {es : List Expr} {t : TA} {id T : String} {r : List V → Hp → VK → Prop}
noncomputable def tCB (r : List V → Hp → VK → Prop) (t : TA) : TE := fun σ H Q => t σ H fun vs H1 => r vs H1 Q
theorem pe_callB (hc : CallR X (.builtin id) r) (hg : Gl X x) (hm : X.mg x = none) (hv : bootBuiltins x = some (.builtin id)) (ha : PA X (e :: es) t) (hn : x ≠ "__name__" := by decide) (hdb : (x == ("__debug__" : Str)) = false := by decide)
    (he : starEach (e :: es) X.env = (false, eval e X.env) :: starEach es X.env := by rfl) (hpl : (backTo pos (starEach es X.env)).any (·.1) = false := by rfl) : PE X (.Call (.Name x p) (e :: es) [] pos) (tCB r t) := by
  intro pins s σ H Q I h
  refine wpAny_Call_Name_kw (ld_blt I hg hm hv ?_ hn hdb)
  exact PyProof.Rows.callWith_builtin1 (thn (ha pos pins s σ H _ I h) fun us s1 ⟨vs, H1, I1, r1, q1⟩ => hc pins s1 σ H1 vs us Q I1 r1 q1) he hpl
theorem pe_callTy (hc : CallR X (.type T) r) (hg : Gl X x) (hm : X.mg x = none) (hv : bootBuiltins x = some (.type T)) (ha : PA X (e :: es) t) (hn : x ≠ "__name__" := by decide) (hdb : (x == ("__debug__" : Str)) = false := by decide)
    (he : starEach (e :: es) X.env = (false, eval e X.env) :: starEach es X.env := by rfl) (hpl : (backTo pos (starEach es X.env)).any (·.1) = false := by rfl) : PE X (.Call (.Name x p) (e :: es) [] pos) (tCB r t) := by
  intro pins s σ H Q I h
  refine wpAny_Call_Name_kw (ld_blt I hg hm hv ?_ hn hdb)
  exact PyProof.Rows.callWith_type1 (thn (ha pos pins s σ H _ I h) fun us s1 ⟨vs, H1, I1, r1, q1⟩ => hc pins s1 σ H1 vs us Q I1 r1 q1) he hpl
end
end L2
namespace HT
open PySem PyProof.Rows
noncomputable def lexLt : List Int → List Int → Bool
  | [], [] => false
  | [], _ :: _ => true
  | _ :: _, [] => false
  | x :: xs, y :: ys => if x = y then lexLt xs ys else decide (x < y)
theorem eqAt_int (A : Around) (s : Shared) (a : Int) (t : Tok) (c : Int) (u : Tok) : ∃ e, SeqAt.EqAt A s (.int a t) (.int c u) e ∧ (e = true ↔ a = c) :=
  ⟨(a == c), SeqAt.EqAt.int_int a t c u, by simp⟩
section
open PySem.SeqAt
open PySem.AutoSeq1 (wpAny_loadPart')
open PySem.MeetsSeq PySem.MeetsSeq2 PySem.MeetsSeq3
end
section
variable {prog : Program} {w : World} {A : Around} {E : Value → Shared → Prop} {s : Shared}
noncomputable def sIx (n d : Nat) : Option Int → Nat
  | none => d
  | some v => if v < 0 then (v + (n : Int)).toNat else min v.toNat n
theorem sIx_none (n d : Nat) : sIx n d none = d := rfl
theorem sIx_nat (n d k : Nat) : sIx n d (some (k : Int)) = min k n := by
  show (if (k : Int) < 0 then ((k : Int) + (n : Int)).toNat else min (k : Int).toNat n) = min k n
  rw [if_neg (by omega), Int.toNat_natCast]
end
end HT
namespace L2
open PySem PySem.Spec PyProof.Rows
noncomputable abbrev TO := St → Hp → (Option Int → Hp → Prop) → Prop
noncomputable def PO (X : Cx) (e : Option Expr) (t : TO) : Prop :=
  ∀ (pins : List (Addr × Obj)) (s : Shared) (σ : St) (H : Hp) (Q : Option Int → Hp → Prop), Inv X pins σ H s → t σ H Q →
    wpAny (model X.prog X.w) X.A (evalPart e X.env) (fun u s' => ∃ o H', Inv X pins σ H' s' ∧ IsPart u o ∧ Q o H') X.xe s
noncomputable def tNoPart : TO := fun _ H Q => Q none H
noncomputable def tPart (t : TE) : TO := fun σ H Q => t σ H fun x H1 => ∃ i, x = .int i ∧ Q (some i) H1
theorem intsAre_of {ns : List Int} : ∀ {us : List Value}, Vals (ns.map V.int) us → IntsAre us ns := by
  induction ns with
  | nil => intro us r; rw [List.map_nil] at r; cases r; exact .nil
  | cons n ns ih =>
    intro us r
    rw [List.map_cons] at r
    cases r with
    | cons r1 r2 =>
      obtain ⟨t, e⟩ := r1
      subst e
      exact .cons n t (ih r2)
section
variable {X : Cx} {e : Expr} {te : TE} {lo hi : Option Expr} {tl th : TO} {pos p2 : Pos}
theorem po_none : PO X none tNoPart := by
  intro pins s σ H Q I h
  rw [evalPart_none]
  exact wpAny_pure ⟨none, H, I, .none, h⟩
theorem po_some (h : PE X e te) : PO X (some e) (tPart te) := by
  intro pins s σ H Q I hw
  rw [evalPart_some]
  refine thn (h pins s σ H _ I hw) fun u s1 ⟨x, H1, I1, r1, q1⟩ => ?_
  obtain ⟨i, rfl, q⟩ := q1
  obtain ⟨t, rfl⟩ := r1
  exact ⟨some i, H1, I1, .int i t, q⟩
noncomputable def SlR (X : Cx) (r : V → Option Int → Option Int → Hp → VK → Prop) : Prop :=
  ∀ (pins : List (Addr × Obj)) (s : Shared) (σ : St) (H : Hp) (x : V) (v vl vu : Value) (lo hi : Option Int) (sl : Addr) (Q : VK), Inv X pins σ H s → RelV x v → s.heap.IsSliceOf sl vl vu .none → IsPart vl lo → IsPart vu hi → r x lo hi H Q →
    ∃ T id, typeLookup (.type T) "__getitem__" = pure (some (.builtin id)) ∧ s.TypeIs v T ∧ wpAny (model X.prog X.w) X.A (getItem v (.ref sl)) (EP X pins σ Q) X.xe s
theorem SlR.or {r r' : V → Option Int → Option Int → Hp → VK → Prop} (h : SlR X r) (h' : SlR X r') : SlR X (fun x lo hi H Q => r x lo hi H Q ∨ r' x lo hi H Q) := by
  intro pins s σ H x v vl vu lo hi sl Q I rx hs pl pu q
  rcases q with q | q
  · exact h pins s σ H x v vl vu lo hi sl Q I rx hs pl pu q
  · exact h' pins s σ H x v vl vu lo hi sl Q I rx hs pl pu q
noncomputable def tSl (r : V → Option Int → Option Int → Hp → VK → Prop) (te : TE) (tl th : TO) : TE := fun σ H Q => te σ H fun x H1 => tl σ H1 fun l H2 => th σ H2 fun u H3 => r x l u H3 Q
theorem pe_slice {r : V → Option Int → Option Int → Hp → VK → Prop} (hr : SlR X r) (he : PE X e te) (hl : PO X lo tl) (hu : PO X hi th) : PE X (.Subscript e (.Slice lo hi none p2) pos) (tSl r te tl th) := by
  intro pins s σ H Q I h
  refine Subscript_ (thn (he pins s σ H _ I h) fun v s1 ⟨x, H1, I1, r1, q1⟩ => ?_)
  refine wpAny_Slice (thn (hl pins s1 σ H1 _ I1 q1) fun vl s2 ⟨l, H2, I2, pl, q2⟩ => thn (hu pins s2 σ H2 _ I2 q2) fun vu s3 ⟨u, H3, I3, pu, q3⟩ => ?_)
  rw [evalPart_none]
  refine wpAny_pure ?_
  have I4 : Inv X pins σ H3 { s3 with heap := s3.heap.push { cls := .type "slice", data := .fields #[vl, vu, .none] } } := I3.kept (t' := s3.toks) fun b ob q => Heap.get?_push_of_some _ q
  obtain ⟨T, id, hT, ht, hg⟩ := hr pins { s3 with heap := s3.heap.push { cls := .type "slice", data := .fields #[vl, vu, .none] } } σ H3 x v vl vu l u s3.heap.objs.size Q I4 r1 (Heap.IsSliceOf.new ..) pl pu q3
  show wpAny (model X.prog X.w) X.A (subscriptTail e (.Slice lo hi none p2) v (.ref s3.heap.objs.size)) (EP X pins σ Q) X.xe { s3 with heap := s3.heap.push { cls := .type "slice", data := .fields #[vl, vu, .none] } }
  exact tail_any (ops := [.ref s3.heap.objs.size, v]) ht hT hg (by with_unfolding_all rfl)
noncomputable def cutV (xs : List V) (lo hi : Option Int) : List V := (xs.drop (HT.sIx xs.length 0 lo)).take (HT.sIx xs.length xs.length hi - HT.sIx xs.length 0 lo)
theorem cutV_length (xs : List V) (lo hi : Option Int) : (cutV xs lo hi).length ≤ xs.length := by
  unfold cutV
  rw [List.length_take, List.length_drop]
  omega
noncomputable def rSlT (K : PySem.W.Frag) : V → Option Int → Option Int → Hp → VK → Prop := fun x lo hi H Q => ∃ a xs, x = .ref a ∧ SqT K H a xs ∧
  ¬ (HT.sIx xs.length 0 lo = 0 ∧ HT.sIx xs.length xs.length hi = xs.length) ∧ ∀ p, H p = none → Q (.ref p) (upd H p (.tup (cutV xs lo hi)))
noncomputable def rLtT (K : PySem.W.Frag) : R2 := fun x y H Q => ∃ a b ns ms, x = .ref a ∧ y = .ref b ∧ SqT K H a (ns.map V.int) ∧ SqT K H b (ms.map V.int) ∧ Q (.bl (HT.lexLt ns ms)) H
noncomputable def rCatT (K : PySem.W.Frag) : R2 := fun x y H Q => ∃ a b xs ys, x = .ref a ∧ y = .ref b ∧ SqT K H a xs ∧ SqT K H b ys ∧ xs ≠ [] ∧ xs.length + ys.length ≤ sizeLine ∧
  (ys = [] → Q (.ref a) H) ∧ (ys ≠ [] → ∀ p, H p = none → Q (.ref p) (upd H p (.tup (xs ++ ys))))
end
end L2
namespace L2
open PySem PySem.Spec PyProof.Rows
noncomputable def ixN (n : Nat) (i : Int) : Option Nat := if 0 ≤ i then (if i < n then some i.toNat else none) else if -(n : Int) ≤ i then some (i + n).toNat else none
noncomputable def atI {α : Type} (xs : List α) (i : Int) : Option α := (ixN xs.length i).bind fun j => xs[j]?
theorem ixN_seq {n : Nat} {i : Int} {j : Nat} (h : ixN n i = some j) : seqIndex? i n = some j ∧ j < n ∧ -(n : Int) ≤ i ∧ i < n := by
  unfold ixN at h
  by_cases h0 : 0 ≤ i
  · rw [if_pos h0] at h
    by_cases h1 : i < n
    · rw [if_pos h1] at h
      have e : i.toNat = j := Option.some.inj h
      exact ⟨by rw [seqIndex_of h0 h1, e], by omega, by omega, h1⟩
    · rw [if_neg h1] at h; cases h
  · rw [if_neg h0] at h
    by_cases h1 : -(n : Int) ≤ i
    · rw [if_pos h1] at h
      have e : (i + n).toNat = j := Option.some.inj h
      exact ⟨by rw [seqIndex_neg (by omega) h1, e], by omega, h1, by omega⟩
    · rw [if_neg h1] at h; cases h
theorem atI_get {α : Type} {xs : List α} {i : Int} {v : α} (h : atI xs i = some v) : ∃ j, seqIndex? i xs.length = some j ∧ xs[j]? = some v ∧ j < xs.length ∧ -(xs.length : Int) ≤ i ∧ i < xs.length := by
  unfold atI at h
  cases e : ixN xs.length i with
  | none => rw [e] at h; cases h
  | some j =>
    rw [e] at h
    obtain ⟨h1, h2, h3, h4⟩ := ixN_seq e
    exact ⟨j, h1, h, h2, h3, h4⟩
theorem atI_nat {α : Type} {xs : List α} {j : Nat} {v : α} (h : xs[j]? = some v) : atI xs (j : Int) = some v := by
  have hj : j < xs.length := (List.getElem?_eq_some_iff.mp h).1
  have e : ixN xs.length (j : Int) = some j := by
    unfold ixN
    rw [if_pos (by omega), if_pos (by omega)]; simp
  unfold atI; rw [e]; exact h
theorem atI_last {α : Type} (xs : List α) (v : α) : atI (xs ++ [v]) (-1) = some v := by
  have hl : (xs ++ [v]).length = xs.length + 1 := by simp
  have e : ixN (xs ++ [v]).length (-1) = some xs.length := by
    unfold ixN
    rw [hl, if_neg (by decide), if_pos (by omega)]
    congr 1
    omega
  unfold atI
  rw [e]
  show (xs ++ [v])[xs.length]? = some v
  simp
noncomputable def PlainIx (b : Expr) : Prop := ∀ o i, subscripted b false o i = operate [o, i] (getItem o i)
noncomputable def IxR (X : Cx) (r : R2) : Prop :=
  ∀ (value slice : Expr) (pins : List (Addr × Obj)) (s : Shared) (σ : St) (H : Hp) (x y : V) (v u : Value) (Q : VK), Inv X pins σ H s → RelV x v → RelV y u → r x y H Q →
    subscripted slice false v u = operate [v, u] (getItem v u) → wpAny (model X.prog X.w) X.A (subscriptTail value slice v u) (EP X pins σ Q) X.xe s
noncomputable def MtR (X : Cx) (id : String) (r : V → List V → Hp → VK → Prop) : Prop :=
  ∀ (pins : List (Addr × Obj)) (s : Shared) (σ : St) (H : Hp) (x : V) (xs : List V) (v : Value) (us : List Value) (Q : VK), Inv X pins σ H s → RelV x v → Vals xs us → r x xs H Q →
    wpAny (model X.prog X.w) X.A (call (.builtin id) (v :: us)) (EP X pins σ Q) X.xe s
section
variable {X : Cx} {a b : Expr} {ta tb : TE} {pos : Pos}
theorem IxR.or {r r' : R2} (h : IxR X r) (h' : IxR X r') : IxR X (fun x y H Q => r x y H Q ∨ r' x y H Q) := by
  intro value slice pins s σ H x y v u Q I rx ry q hs
  rcases q with q | q
  · exact h value slice pins s σ H x y v u Q I rx ry q hs
  · exact h' value slice pins s σ H x y v u Q I rx ry q hs
theorem MtR.or {id : String} {r r' : V → List V → Hp → VK → Prop} (h : MtR X id r) (h' : MtR X id r') : MtR X id (fun x xs H Q => r x xs H Q ∨ r' x xs H Q) := by
  intro pins s σ H x xs v us Q I rx rs q
  rcases q with q | q
  · exact h pins s σ H x xs v us Q I rx rs q
  · exact h' pins s σ H x xs v us Q I rx rs q
theorem pe_ix {r : R2} (hr : IxR X r) (ha : PE X a ta) (hb : PE X b tb) (hs : PlainIx b) : PE X (.Subscript a b pos) (tOp r ta tb) := by
  intro pins s σ H Q I h
  exact Subscript_ (binT ha hb I h fun v u s2 x y H2 I2 rx ry q => hr a b pins s2 σ H2 x y v u Q I2 rx ry q (hs _ _))
noncomputable def rIxL (K : PySem.W.Frag) : R2 := fun x y H Q => ∃ p xs i v, x = .ref p ∧ y = .int i ∧ SqL K H p xs ∧ atI xs i = some v ∧ Q v H
noncomputable def rIxT (K : PySem.W.Frag) : R2 := fun x y H Q => ∃ p xs i v, x = .ref p ∧ y = .int i ∧ SqT K H p xs ∧ atI xs i = some v ∧ Q v H
noncomputable def rIxS : R2 := fun x y H Q => ∃ z i c, x = .str z ∧ y = .int i ∧ z.length ≤ sizeLine ∧ atI z.cps.toList i = some c ∧ Q (.str ⟨#[c]⟩) H
theorem ix_list : IxR X (rIxL X.K) := by
  intro value slice pins s σ H x y v u Q I rx ry h hs
  obtain ⟨p, xs, i, z, rfl, rfl, hq, he, q⟩ := h
  cases rx
  obtain ⟨t, rfl⟩ := ry
  obtain ⟨its, r, pl, hz⟩ := I.list hq
  obtain ⟨j, h1, h2, h3, h4, h5⟩ := atI_get he
  obtain ⟨w, ew, rw'⟩ := r.get h2
  have hl := r.length
  have hn := line63
  have fin : EP X pins σ Q w s := ⟨z, H, I, rw', q⟩
  by_cases h0 : 0 ≤ i
  · have hj : i.toNat = j := by
      rw [seqIndex_of h0 h5] at h1
      exact Option.some.inj h1
    exact item_listR pl.isList h0 (by omega) (by rw [hj]; simpa using ew) fin hs
  · have hj : (i + (its.toArray.size : Int)).toNat = j := by
      rw [seqIndex_neg (by omega) h4] at h1
      rw [List.size_toArray, ← hl]
      exact Option.some.inj h1
    exact subscriptTail_builtinR (x := w) pl.isList.typeIs slot_list_getitem.lookup
      (wpAny_getItem_list_neg (Q := fun r s' => r = w ∧ EP X pins σ Q r s') pl.isList (by omega) (by rw [List.size_toArray] <;> omega) (by omega) (by rw [hj]; simpa using ew) ⟨rfl, fin⟩) hs
theorem ix_tup : IxR X (rIxT X.K) := by
  intro value slice pins s σ H x y v u Q I rx ry h hs
  obtain ⟨p, xs, i, z, rfl, rfl, hq, he, q⟩ := h
  cases rx
  obtain ⟨t, rfl⟩ := ry
  obtain ⟨its, r, pl, hz⟩ := I.tuple hq
  obtain ⟨j, h1, h2, h3, h4, h5⟩ := atI_get he
  obtain ⟨w, ew, rw'⟩ := r.get h2
  have hl := r.length
  have hn := line63
  have fin : EP X pins σ Q w s := ⟨z, H, I, rw', q⟩
  exact subscriptTail_builtinR (x := w) pl.typeIs slot_tuple_getitem.lookup
    (getItem_tuple (j := j) (Q := fun r s' => r = w ∧ EP X pins σ Q r s') pl (by omega) (by omega) (by rw [List.size_toArray, ← hl]; exact h1) (by simpa using ew) ⟨rfl, fin⟩) hs
theorem ix_str : IxR X rIxS := by
  intro value slice pins s σ H x y v u Q I rx ry h hs
  obtain ⟨z, i, c, rfl, rfl, hz, he, q⟩ := h
  obtain ⟨t, rfl⟩ := rx
  obtain ⟨t', rfl⟩ := ry
  obtain ⟨j, h1, h2, h3, h4, h5⟩ := atI_get he
  have hl : z.cps.toList.length = z.length := by simp [Str.length]
  rw [hl] at h1 h4 h5
  have hn := line63
  exact tail_any (typeIs_str s z t) slot_str_getitem.lookup (getItem_str (c := c) (by
    have e1 : decide (i < -(2 ^ 63 : Int)) = false := decide_eq_false (by omega)
    have e2 : decide (i ≥ 2 ^ 63) = false := decide_eq_false (by omega)
    rw [e1, e2, Bool.or_false]) (by rw [h1]; simpa using h2) ⟨.str ⟨#[c]⟩, H, I.tok _, ⟨_, rfl⟩, q⟩) hs
noncomputable def rIx (K : PySem.W.Frag) : R2 := fun x y H Q => rIxL K x y H Q ∨ rIxT K x y H Q ∨ rIxS x y H Q
theorem mapSeq_set (its : List Value) (n j : Nat) (u : Value) : Obj.mapSeq (·.setIfInBounds j u) { cls := .type "list", data := .seq its.toArray n } = { cls := .type "list", data := .seq (its.set j u).toArray n } := by
  simp [Obj.mapSeq]
theorem Inv.lst {pins : List (Addr × Obj)} {σ : St} {H : Hp} {s : Shared} {p : Addr} {xs : List V} (I : Inv X pins σ H s) (h : H p = some (.lst xs)) :
    ∃ (its : List Value) (n : Nat), Vals xs its ∧ s.heap.get? p = some { cls := .type "list", data := .seq its.toArray n } ∧ xs.length ≤ sizeLine := by
  obtain ⟨z, its, n, r, e⟩ := I.hok p _ h
  exact ⟨its, n, r, e, z⟩
theorem Inv.lstUpd {pins : List (Addr × Obj)} {σ : St} {H : Hp} {s : Shared} {p : Addr} {xs ys : List V} {its its' : List Value} {n n' : Nat} {f : Obj → Obj} (I : Inv X pins σ H s) (h : H p = some (.lst xs))
    (ho : s.heap.get? p = some { cls := .type "list", data := .seq its.toArray n }) (hf : f { cls := .type "list", data := .seq its.toArray n } = { cls := .type "list", data := .seq its'.toArray n' }) (r : Vals ys its') (hz : ys.length ≤ sizeLine) (t : Nat) :
    Inv X pins σ (upd H p (.lst ys)) { s with heap := s.heap.update p f, toks := t } := by
  have e : (s.heap.update p f).get? p = some { cls := .type "list", data := .seq its'.toArray n' } := by
    rw [Heap.get?_update_self f ho (by rw [hf] <;> rfl), hf]
  refine I.write (x := p) (e := p) (by rw [h]; trivial) (.inl rfl) (fun b u hb q => (Heap.get?_update_other _ _ (Ne.symm hb)).trans q) ⟨_, e⟩ ?_
  exact ⟨hz, its', n', r, e⟩
noncomputable def rSetL : V → V → V → Hp → (Hp → Prop) → Prop := fun o i v H Q => ∃ p xs k j, o = .ref p ∧ i = .int k ∧ H p = some (.lst xs) ∧ ixN xs.length k = some j ∧ Q (upd H p (.lst (xs.set j v)))
theorem set_list : PSet X rSetL := by
  intro pins s σ H o i v ov iv u Q I ro ri rv h
  obtain ⟨p, xs, k, j, rfl, rfl, hp, hj, q⟩ := h
  cases ro
  obtain ⟨t, rfl⟩ := ri
  obtain ⟨its, n, r, ho, hz⟩ := I.lst hp
  obtain ⟨h1, h2, h3, h4⟩ := ixN_seq hj
  have hl := r.length
  have hn := line63
  have I' : Inv X pins σ (upd H p (.lst (xs.set j v))) { s with heap := s.heap.update p (Obj.mapSeq (·.setIfInBounds j u)) } :=
    I.lstUpd hp ho (mapSeq_set its n j u) (r.set rv j) (by rw [List.length_set]; exact hz) s.toks
  by_cases h0 : 0 ≤ k
  · have hk : k.toNat = j := by
      rw [seqIndex_of h0 h4] at h1
      exact Option.some.inj h1
    exact PySem.W.ki_setAt ho h0 (by omega) (by rw [List.size_toArray, ← hl]; exact h4) (by rw [hk]; exact ⟨_, I', q⟩)
  · have hk : (k + (its.toArray.size : Int)).toNat = j := by
      rw [seqIndex_neg (by omega) h3] at h1
      rw [List.size_toArray, ← hl]
      exact Option.some.inj h1
    exact PySem.W.ki_setBack ho (by omega) (by rw [List.size_toArray, ← hl]; exact h3) (by omega) (by rw [hk]; exact ⟨_, I', q⟩)
theorem slice_bounds (lo hi : Option Int) (n : Nat) : (sliceBounds lo hi none n).1 = ((HT.sIx n 0 lo : Nat) : Int) ∧ (sliceBounds lo hi none n).2.1 = ((HT.sIx n n hi : Nat) : Int) ∧ (sliceBounds lo hi none n).2.2 = 1 := by
  refine ⟨?_, ?_, rfl⟩
  · cases lo with
    | none => simp [sliceBounds, HT.sIx]
    | some i =>
      simp only [sliceBounds, HT.sIx, Option.getD_none, show (1 : Int) > 0 by decide, if_true]
      by_cases h : i < 0
      · simp only [h, if_true] <;> omega
      · simp only [h, if_false] <;> omega
  · cases hi with
    | none => simp [sliceBounds, HT.sIx]
    | some i =>
      simp only [sliceBounds, HT.sIx, Option.getD_none, show (1 : Int) > 0 by decide, if_true]
      by_cases h : i < 0
      · simp only [h, if_true] <;> omega
      · simp only [h, if_false] <;> omega
theorem slicePick_cut (its : List Value) (lo hi : Option Int) : slicePick its.toArray lo hi none = ((its.drop (HT.sIx its.length 0 lo)).take (HT.sIx its.length its.length hi - HT.sIx its.length 0 lo)).toArray := by
  obtain ⟨h1, h2, h3⟩ := slice_bounds lo hi its.toArray.size
  unfold slicePick
  rw [h1, h2, h3]
  simp only [sliceRange_one, pick_run, List.size_toArray] <;> rfl
noncomputable def rSlL (K : PySem.W.Frag) : V → Option Int → Option Int → Hp → VK → Prop := fun x lo hi H Q => ∃ a xs, x = .ref a ∧ SqL K H a xs ∧ ∀ p, H p = none → Q (.ref p) (upd H p (.lst (cutV xs lo hi)))
theorem sl_list : SlR X (rSlL X.K) := by
  intro pins s σ H x v vl vu lo hi sl Q I rx hs pl pu h
  obtain ⟨a, xs, rfl, hx, q⟩ := h
  cases rx
  obtain ⟨its, r, ht, hz⟩ := I.list hx
  have hlen := r.length
  refine ⟨"list", _, slot_list_getitem.lookup, ht.isList.typeIs, ?_⟩
  refine wpAny_getItem_list_slice ht.isList hs pl pu .none (by simp) ?_ (by rw [List.size_toArray] <;> omega)
  rw [slicePick_cut, ← hlen]
  refine ⟨.ref s.heap.objs.size, _, I.laid (t' := s.toks) (o := .lst (cutV xs lo hi)) (fun b ob q => Heap.get?_push_of_some _ q) (Nat.le_refl _) ?_, rfl, q _ (I.hok.fresh (Nat.le_refl _))⟩
  exact ⟨Nat.le_trans (cutV_length xs lo hi) hz, _, 0, (r.drop (HT.sIx xs.length 0 lo)).take (HT.sIx xs.length xs.length hi - HT.sIx xs.length 0 lo), Heap.get?_push_size _ rfl⟩
noncomputable def flatV : V → Bool
  | .non => true
  | .bl _ => true
  | .int _ => true
  | .str _ => true
  | _ => false
noncomputable def eqV : V → V → Bool
  | .non, .non => true
  | .bl a, .bl b => a == b
  | .bl a, .int b => (if a then 1 else 0) == b
  | .int a, .bl b => a == (if b then 1 else 0)
  | .int a, .int b => a == b
  | .str a, .str b => a == b
  | _, _ => false
theorem eqAt_V {A : Around} {s : Shared} {y x : V} {u v : Value} (ry : RelV y u) (rx : RelV x v) (fy : flatV y = true) (fx : flatV x = true) : SeqAt.EqAt A s u v (eqV y x) := by
  cases y with
  | non =>
    cases ry
    cases x with
    | non => cases rx; exact SeqAt.EqAt.same _
    | bl b => cases rx; exact SeqAt.EqAt.none_bool b
    | int b => obtain ⟨t, rfl⟩ := rx; exact SeqAt.EqAt.none_int b t
    | str b => obtain ⟨t, rfl⟩ := rx; exact SeqAt.EqAt.none_str b t
    | _ => exact absurd (show false = true from fx) Bool.false_ne_true
  | bl a =>
    cases ry
    cases x with
    | non => cases rx; exact SeqAt.EqAt.bool_none a
    | bl b => cases rx; exact SeqAt.EqAt.bool_bool a b
    | int b => obtain ⟨t, rfl⟩ := rx; exact SeqAt.EqAt.bool_int a b t
    | str b => obtain ⟨t, rfl⟩ := rx; exact SeqAt.EqAt.bool_str a b t
    | _ => exact absurd (show false = true from fx) Bool.false_ne_true
  | int a =>
    obtain ⟨t', rfl⟩ := ry
    cases x with
    | non => cases rx; exact SeqAt.EqAt.int_none a t'
    | bl b => cases rx; exact SeqAt.EqAt.int_bool a t' b
    | int b => obtain ⟨t, rfl⟩ := rx; exact SeqAt.EqAt.int_int a t' b t
    | str b => obtain ⟨t, rfl⟩ := rx; exact SeqAt.EqAt.int_str a t' b t
    | _ => exact absurd (show false = true from fx) Bool.false_ne_true
  | str a =>
    obtain ⟨t', rfl⟩ := ry
    cases x with
    | non => cases rx; exact SeqAt.EqAt.str_none a t'
    | bl b => cases rx; exact SeqAt.EqAt.str_bool a t' b
    | int b => obtain ⟨t, rfl⟩ := rx; exact SeqAt.EqAt.str_int a t' b t
    | str b => obtain ⟨t, rfl⟩ := rx; exact SeqAt.EqAt.str_str a t' b t
    | _ => exact absurd (show false = true from fx) Bool.false_ne_true
  | _ => exact absurd (show false = true from fy) Bool.false_ne_true
noncomputable def eqU (x : V) (u : Value) : Bool := match u with
  | .none => eqV .non x
  | .bool b => eqV (.bl b) x
  | .int i _ => eqV (.int i) x
  | .str z _ => eqV (.str z) x
  | _ => false
theorem eqU_of {x y : V} {u : Value} (r : RelV y u) (f : flatV y = true) : eqU x u = eqV y x := by
  cases y with
  | non => cases r; rfl
  | bl b => cases r; rfl
  | int i => obtain ⟨t, rfl⟩ := r; rfl
  | str z => obtain ⟨t, rfl⟩ := r; rfl
  | _ => exact absurd (show false = true from f) Bool.false_ne_true
theorem any_eqU {x : V} : ∀ {xs : List V} {us : List Value}, Vals xs us → xs.all flatV = true → us.any (eqU x) = xs.any fun y => eqV y x
  | _, _, .nil, _ => rfl
  | y :: xs, u :: us, .cons r t, f => by
    rw [List.all_cons, Bool.and_eq_true] at f
    rw [List.any_cons, List.any_cons, eqU_of r f.1, any_eqU t f.2]
theorem mem_eqAt {A : Around} {s : Shared} {x : V} {v : Value} (rx : RelV x v) (fx : flatV x = true) : ∀ {xs : List V} {us : List Value}, Vals xs us → xs.all flatV = true → ∀ u ∈ us, SeqAt.EqAt A s u v (eqU x u)
  | _, _, .nil, _ => fun u hu => by cases hu
  | y :: xs, u :: us, .cons r t, f => fun u' hu => by
    rw [List.all_cons, Bool.and_eq_true] at f
    rcases List.mem_cons.mp hu with rfl | hu
    · rw [eqU_of r f.1]; exact eqAt_V r rx f.1 fx
    · exact mem_eqAt rx fx t f.2 u' hu
noncomputable def inV (x : V) (xs : List V) : Bool := xs.any fun y => eqV y x
noncomputable def rIn (K : PySem.W.Frag) (neg : Bool) : R2 := fun x y H Q => ∃ p xs, y = .ref p ∧ (SqL K H p xs ∨ SqT K H p xs) ∧ flatV x = true ∧ xs.all flatV = true ∧ Q (.bl (if neg then !inV x xs else inV x xs)) H
theorem op_in_seq : OpR X (compareOp .In) (rIn X.K false) := by
  intro pins s σ H x y v u Q I rx ry h
  obtain ⟨p, xs, rfl, hq, fx, fs, q⟩ := h
  cases ry
  rcases hq with hq | hq
  · obtain ⟨its, r, pl, hz⟩ := I.list hq
    refine SeqAt.in_listAt (eqU x) pl.isList (fun w hw => mem_eqAt rx fx r fs w (by simpa using hw)) ⟨.bl _, H, I, rfl, ?_⟩
    rw [show its.toArray.any (eqU x) = its.any (eqU x) by simp, any_eqU r fs]
    exact q
  · obtain ⟨its, r, pl, hz⟩ := I.tuple hq
    refine SeqAt.in_tupleAt (eqU x) pl (fun w hw => mem_eqAt rx fx r fs w (by simpa using hw)) ⟨.bl _, H, I, rfl, ?_⟩
    rw [show its.toArray.any (eqU x) = its.any (eqU x) by simp, any_eqU r fs]
    exact q
theorem call_len_seq : CallR X (.builtin "len") (fun xs H Q => ∃ p ys, xs = [.ref p] ∧ (SqL X.K H p ys ∨ SqT X.K H p ys) ∧ Q (.int ys.length) H) := by
  intro pins s σ H xs us Q I r h
  obtain ⟨p, ys, rfl, hq, q⟩ := h
  obtain ⟨u, rfl, rx⟩ := vals1 r
  cases rx
  have hn := line63
  rcases hq with hq | hq
  · obtain ⟨its, r', pl, hz⟩ := I.list hq
    have hlen := r'.length
    exact Calls.call_len_list pl.isList (by simp only [List.size_toArray] <;> omega) ⟨.int ys.length, H, I.tok _, ⟨s.toks + 1, by rw [List.size_toArray, hlen]⟩, q⟩
  · obtain ⟨its, r', pl, hz⟩ := I.tuple hq
    have hlen := r'.length
    exact len_tuple pl (by simp only [List.size_toArray] <;> omega) ⟨.int ys.length, H, I.tok _, ⟨s.toks + 1, by rw [List.size_toArray, hlen]⟩, q⟩
theorem CallR.or {f : Value} {r r' : List V → Hp → VK → Prop} (h : CallR X f r) (h' : CallR X f r') : CallR X f (fun xs H Q => r xs H Q ∨ r' xs H Q) := by
  intro pins s σ H xs us Q I rs q
  rcases q with q | q
  · exact h pins s σ H xs us Q I rs q
  · exact h' pins s σ H xs us Q I rs q
noncomputable def tyV (K : PySem.W.Frag) (T : String) (x : V) (H : Hp) : Prop := match x with
  | .str _ => T = "str"
  | .int _ => T = "int"
  | .ref p => (T = "list" ∧ ∃ xs, SqL K H p xs) ∨ (T = "tuple" ∧ ∃ o, K.lookup p = some o ∧ o.cls = .type "tuple" ∧ o.dict = none) ∨
      (T = "dict" ∧ ((∃ kvs, H p = some (.dK kvs)) ∨ ∃ kvs, H p = some (.dT kvs))) ∨ (T = "set" ∧ ∃ S n, H p = some (.set S n))
  | _ => False
theorem tyV_is {pins : List (Addr × Obj)} {σ : St} {H : Hp} {s : Shared} {T : String} {x : V} {v : Value} (I : Inv X pins σ H s) (r : RelV x v) (ty : tyV X.K T x H) :
    s.TypeIs v T ∧ ∀ a, v = .ref a → ∃ ob, s.heap.get? a = some ob ∧ ob.dict = none := by
  cases x with
  | str z =>
    obtain ⟨t, rfl⟩ := r
    cases (show T = "str" from ty)
    exact ⟨typeIs_str s z t, fun _ e => nomatch e⟩
  | int i =>
    obtain ⟨t, rfl⟩ := r
    cases (show T = "int" from ty)
    exact ⟨typeIs_int s i t, fun _ e => nomatch e⟩
  | ref p =>
    cases r
    rcases ty with ⟨rfl, xs, hq⟩ | ⟨rfl, o, hk, hc, hd⟩ | ⟨rfl, hk⟩ | ⟨rfl, S, n, hk⟩
    · obtain ⟨its, _, pl, _⟩ := I.list hq
      refine ⟨pl.isList.typeIs, fun a e => ?_⟩
      cases e
      obtain ⟨o, n, e, c, hd, _⟩ := pl
      exact ⟨o, e, hd⟩
    · refine ⟨⟨o, I.kIn p o hk, hc⟩, fun a e => ?_⟩
      cases e
      exact ⟨o, I.kIn _ o hk, hd⟩
    · have z : ∃ o, s.heap.get? p = some o ∧ o.ExactDict := by
        rcases hk with ⟨kvs, hk⟩ | ⟨kvs, hk⟩
        · obtain ⟨_, _, _, _, o, _, _, e, ex, _⟩ := I.hok p _ hk
          exact ⟨o, e, ex⟩
        · obtain ⟨_, _, _, _, o, _, _, e, ex, _⟩ := I.hok p _ hk
          exact ⟨o, e, ex⟩
      obtain ⟨o, e, ex⟩ := z
      refine ⟨⟨o, e, ex.1⟩, fun a e2 => ?_⟩
      cases e2
      exact ⟨o, e, ex.2.1⟩
    · obtain ⟨o, _, _, _, e, ex, _⟩ := I.hok p _ hk
      refine ⟨⟨o, e, ex.1⟩, fun a e2 => ?_⟩
      cases e2
      exact ⟨o, e, ex.2.1⟩
  | _ => exact False.elim ty
noncomputable def tBM0 (K : PySem.W.Frag) (T : String) (r : V → List V → Hp → VK → Prop) (to : TE) : TE := fun σ H Q => to σ H fun x H1 => tyV K T x H1 ∧ r x [] H1 Q
noncomputable def tBM (K : PySem.W.Frag) (T : String) (r : V → List V → Hp → VK → Prop) (to : TE) (t : TA) : TE := fun σ H Q => to σ H fun x H1 => tyV K T x H1 ∧ t σ H1 fun xs H2 => r x xs H2 Q
variable {o e : Expr} {es : List Expr} {to : TE} {t : TA} {name : Str} {apos cpos : Pos} {T id : String} {r : V → List V → Hp → VK → Prop}
theorem pe_bm (pa : PlainAttrs T) (slot : Slot T name id) (hty : typeOf (.builtin id) = pure (.type "method_descriptor")) (hm : MtR X id r) (ho : PE X o to) (ha : PA X (e :: es) t)
    (hbase : attributeBase o name X.env (eval o X.env) = eval o X.env := by rfl)
    (hfew : ((backTo cpos (starEach (e :: es) X.env)).all (fun x => !x.1) && (backToKw cpos (keywordEach [] X.env)).all (fun x => x.1.isSome)
      && decide ((e :: es).length + ([] : List Keyword).length + (if ([] : List Keyword).isEmpty then 0 else 1) < 30)) = true := by rfl)
    (hline : (apos.endLine == cpos.line) = true := by rfl) (hs : starEach (e :: es) X.env = (false, eval e X.env) :: starEach es X.env := by rfl) (hplain : (backTo cpos (starEach es X.env)).any (·.1) = false := by rfl) :
    PE X (.Call (.Attribute o name apos) (e :: es) [] cpos) (tBM X.K T r to t) := by
  intro pins s σ H Q I h
  refine wpAny_Call_method_late hbase hfew hline rfl (thn (ho pins s σ H _ I h) fun v s1 ⟨x, H1, I1, r1, ty, q1⟩ => ?_)
  obtain ⟨h1, h2⟩ := tyV_is I1 r1 ty
  refine ⟨T, id, pa, slot, hty, h1, h2, ?_⟩
  have hA := ha cpos pins s1 σ H1 _ I1 q1
  rw [hs] at hA ⊢
  refine Calls.callWith_builtin (by show (false || (backTo cpos (starEach es X.env)).any (·.1)) = false; rw [hplain] <;> rfl) (Calls.evalArgs_plain ?_)
  exact thn hA fun us s2 ⟨vs, H2, I2, r2, q2⟩ => hm pins s2 σ H2 x vs v us Q I2 r1 r2 q2
/- xs.append(e), list.index on a module's tuple .. are MtR facts of 06m -/
end
end L2
namespace L2
open PySem PySem.Spec PyProof.Rows
noncomputable def MtM (X : Cx) (id : String) (r : V → List V → Hp → VK → Prop) : Prop :=
  ∀ (pins : List (Addr × Obj)) (s : Shared) (σ : St) (H : Hp) (x : V) (xs : List V) (v : Value) (us : List Value) (Q : VK), Inv X pins σ H s → RelV x v → Vals xs us → r x xs H Q →
    wpAny (model X.prog X.w) X.A (call (.builtin id) (v :: us)) (EP X pins σ Q) X.xe s
theorem Vals.one : ∀ {x : V} {us : List Value}, Vals [x] us → ∃ u, us = [u] ∧ RelV x u
  | _, _, .cons r .nil => ⟨_, rfl, r⟩
theorem Vals.two : ∀ {x y : V} {us : List Value}, Vals [x, y] us → ∃ u v, us = [u, v] ∧ RelV x u ∧ RelV y v
  | _, _, _, .cons r (.cons q .nil) => ⟨_, _, rfl, r, q⟩
theorem Vals.zero : ∀ {us : List Value}, Vals [] us → us = []
  | _, .nil => rfl
theorem Vals.dropLast {xs : List V} {us : List Value} (h : Vals xs us) : Vals xs.dropLast us.dropLast := by
  induction h with
  | nil => exact .nil
  | cons r t ih =>
    cases t with
    | nil => exact .nil
    | cons q t' => exact .cons r ih
theorem Vals.eraseIdx : ∀ {xs : List V} {us : List Value} (i : Nat), Vals xs us → Vals (xs.eraseIdx i) (us.eraseIdx i)
  | _, _, _, .nil => .nil
  | _, _, 0, .cons _ t => t
  | _, _, i + 1, .cons r t => .cons r (Vals.eraseIdx i t)
theorem Vals.reverse {xs : List V} {us : List Value} (h : Vals xs us) : Vals xs.reverse us.reverse := by
  induction h with
  | nil => exact .nil
  | cons r t ih => rw [List.reverse_cons, List.reverse_cons]; exact Vals.append ih (.cons r .nil)
section
variable {X : Cx} {pins : List (Addr × Obj)} {σ : St} {H : Hp} {s : Shared} {l b : Addr} {xs ys zs : List V}
theorem Inv.lset {its its' : List Value} {n : Nat} {f : Array Value → Array Value} {t' : Nat} (I : Inv X pins σ H s) (hH : H l = some (.lst xs))
    (e : s.heap.get? l = some { cls := .type "list", data := .seq its.toArray n }) (hf : f its.toArray = its'.toArray) (hv : Vals ys its') (hz : ys.length ≤ sizeLine) :
    Inv X pins σ (upd H l (.lst ys)) { s with heap := s.heap.update l (Obj.mapSeq f), toks := t' } := by
  have q := PySem.IsL.update e f
  rw [hf] at q
  refine I.write (x := l) (e := l) (by rw [hH]; exact trivial) (.inl rfl) (fun b' u hb hu => (Heap.get?_update_other s.heap (Obj.mapSeq f) (Ne.symm hb)).trans hu) ⟨_, q⟩ ?_
  exact ⟨hz, its', _, hv, q⟩
theorem Inv.lnew {its : List Value} {t' : Nat} (I : Inv X pins σ H s) (hv : Vals ys its) (hz : ys.length ≤ sizeLine) :
    Inv X pins σ (upd H s.heap.objs.size (.lst ys)) { s with heap := s.heap.push { cls := .type "list", data := .seq its.toArray }, toks := t' } :=
  I.laid (fun _ _ q => Heap.get?_push_of_some _ q) (Nat.le_refl _) ⟨hz, its, 0, hv, Heap.get?_push_size _ rfl⟩
theorem Inv.fresh (I : Inv X pins σ H s) : H s.heap.objs.size = none := I.hok.fresh (Nat.le_refl _)
theorem Inv.lstM (I : Inv X pins σ H s) (hH : H l = some (.lst xs)) : xs.length ≤ sizeLine ∧ ∃ (its : List Value) (n : Nat), Vals xs its ∧ xs.length = its.length ∧ s.heap.get? l = some { cls := .type "list", data := .seq its.toArray n } := by
  obtain ⟨z, its, n, r, e⟩ := I.hok l _ hH
  exact ⟨z, its, n, r, r.length, e⟩
theorem notLongL {n : Nat} (h : n ≤ sizeLine) : Builtin.List.listTooLong n = false := by
  unfold Builtin.List.listTooLong
  exact decide_eq_false (by omega)
end
section
variable {X : Cx}
noncomputable def rAppend : V → List V → Hp → VK → Prop := fun x vs H Q => ∃ l xs y, x = .ref l ∧ vs = [y] ∧ H l = some (.lst xs) ∧ xs.length < sizeLine ∧ Q .non (upd H l (.lst (xs ++ [y])))
theorem mt_append : MtM X "list.append" rAppend := by
  intro pins s σ H x vs v us Q I rx rv h
  obtain ⟨l, xs, y, rfl, rfl, hH, hz, q⟩ := h
  cases rx
  obtain ⟨u, rfl, ru⟩ := rv.one
  obtain ⟨z, its, n, r, hl, e⟩ := I.lstM hH
  refine call_meets F.slot_list_append ⟨_, e, rfl⟩ F.entry_list_append (F.args_list_append_2 _ _) (PySem.list_append l its.toArray n u (by rw [List.size_toArray]; omega)) ⟨e, ?_⟩
  refine ⟨.non, _, I.lset (its' := its ++ [u]) hH e (by simp) (r.append (.cons ru .nil)) ?_, rfl, q⟩
  rw [List.length_append, List.length_singleton]
  omega
noncomputable def rExtend : V → List V → Hp → VK → Prop := fun x vs H Q => ∃ l b xs zs, x = .ref l ∧ vs = [.ref b] ∧ H l = some (.lst xs) ∧ H b = some (.lst zs) ∧ xs.length + zs.length ≤ sizeLine ∧ Q .non (upd H l (.lst (xs ++ zs)))
theorem mt_extend : MtM X "list.extend" rExtend := by
  intro pins s σ H x vs v us Q I rx rv h
  obtain ⟨l, b, xs, zs, rfl, rfl, hH, hB, hz, q⟩ := h
  cases rx
  obtain ⟨u, rfl, ru⟩ := rv.one
  cases ru
  obtain ⟨z, its, n, r, hl, e⟩ := I.lstM hH
  obtain ⟨z2, its2, n2, r2, hl2, e2⟩ := I.lstM hB
  have hsz : its.toArray.size + its2.toArray.size ≤ sizeLine := by rw [List.size_toArray, List.size_toArray]; omega
  have hlong : ¬ (!its.toArray.isEmpty && Builtin.List.listTooLong (its.toArray.size + its2.toArray.size)) = true := by
    rw [notLongL hsz, Bool.and_false]
    exact Bool.false_ne_true
  refine call_meets F.slot_list_extend ⟨_, e, rfl⟩ F.entry_list_extend (F.args_list_extend_2 _ _)
    (AutoSeq1.list_extend_list_list_0 l its.toArray n b its2.toArray n2 hlong (by rw [List.size_toArray]; omega) (by omega)) ⟨e, e2, ?_⟩
  refine ⟨.non, _, I.lset (its' := its ++ its2) hH e (by simp) (r.append r2) ?_, rfl, q⟩
  rw [List.length_append]
  omega
noncomputable def rPop : V → List V → Hp → VK → Prop := fun x vs H Q => ∃ l xs y, x = .ref l ∧ vs = [] ∧ H l = some (.lst xs) ∧ xs[xs.length - 1]? = some y ∧ Q y (upd H l (.lst xs.dropLast))
noncomputable def rPopAt : V → List V → Hp → VK → Prop := fun x vs H Q => ∃ l xs i k y, x = .ref l ∧ vs = [.int i] ∧ H l = some (.lst xs) ∧ -(2 ^ 63) ≤ i ∧ i < 2 ^ 63 ∧ seqIndex? i xs.length = some k ∧ xs[k]? = some y ∧ Q y (upd H l (.lst (xs.eraseIdx k)))
noncomputable def rReverse : V → List V → Hp → VK → Prop := fun x vs H Q => ∃ l xs, x = .ref l ∧ vs = [] ∧ H l = some (.lst xs) ∧ Q .non (upd H l (.lst xs.reverse))
noncomputable def rClear : V → List V → Hp → VK → Prop := fun x vs H Q => ∃ l xs, x = .ref l ∧ vs = [] ∧ H l = some (.lst xs) ∧ Q .non (upd H l (.lst []))
noncomputable def rCat : R2 := fun x y H Q => ∃ l b xs zs, x = .ref l ∧ y = .ref b ∧ H l = some (.lst xs) ∧ H b = some (.lst zs) ∧ xs.length + zs.length ≤ sizeLine ∧ ∀ p, H p = none → Q (.ref p) (upd H p (.lst (xs ++ zs)))
theorem op_cat : OpR X (binaryOp .Add) rCat := by
  intro pins s σ H x y v u Q I rx ry h
  obtain ⟨l, b, xs, zs, rfl, rfl, hH, hB, hz, q⟩ := h
  cases rx
  cases ry
  obtain ⟨z, its, n, r, hl, e⟩ := I.lstM hH
  obtain ⟨z2, its2, n2, r2, hl2, e2⟩ := I.lstM hB
  refine PySem.P.add_list e e2 ?_ (by rw [List.size_toArray, List.size_toArray]; omega)
  have ea : its.toArray ++ its2.toArray = (its ++ its2).toArray := by simp
  rw [ea]
  exact ⟨.ref _, _, I.lnew (t' := s.toks) (r.append r2) (by rw [List.length_append]; omega), rfl, q _ I.fresh⟩
noncomputable def rRep : R2 := fun x y H Q => ∃ l k xs, x = .ref l ∧ y = .int k ∧ H l = some (.lst xs) ∧ -(2 ^ 63) ≤ k ∧ k < 2 ^ 63 ∧ xs.length * k.toNat ≤ sizeLine ∧
  ∀ p, H p = none → Q (.ref p) (upd H p (.lst (List.replicate k.toNat xs).flatten))
end
section
variable {prog : Program} {w : World} {A : Around} {E : Value → Shared → Prop} {s : Shared}
end
section
variable {X : Cx}
end
end L2
namespace L2
open PySem PySem.Spec PyProof.Rows
section
variable {κ : Type} [DecidableEq κ]
noncomputable def valV (kvs : List (κ × V)) (k : κ) : Option V := (kvs.find? fun kv => decide (kv.1 = k)).map (·.2)
noncomputable def putK (kvs : List (κ × V)) (k : κ) (v : V) : List (κ × V) :=
  if (kvs.any fun kv => decide (kv.1 = k)) = true then kvs.map (fun kv => if kv.1 = k then (kv.1, v) else kv) else kvs ++ [(k, v)]
noncomputable def dropK (kvs : List (κ × V)) (k : κ) : List (κ × V) := kvs.filter fun kv => decide (kv.1 ≠ k)
theorem valV_pos {p : κ × V} {r : List (κ × V)} {k : κ} (e : p.1 = k) : valV (p :: r) k = some p.2 := by simp [valV, List.find?_cons, e]
theorem valV_neg {p : κ × V} {r : List (κ × V)} {k : κ} (e : ¬ p.1 = k) : valV (p :: r) k = valV r k := by simp [valV, List.find?_cons, e]
theorem valV_any (k : κ) : ∀ kvs : List (κ × V), (kvs.any fun kv => decide (kv.1 = k)) = (valV kvs k).isSome
  | [] => rfl
  | p :: r => by
    rw [List.any_cons]
    by_cases e : p.1 = k
    · simp only [valV_pos e, decide_eq_true e, Bool.true_or, Option.isSome_some]
    · rw [valV_neg e, decide_eq_false e, Bool.false_or]; exact valV_any k r
theorem valV_map (k j : κ) (y : V) : ∀ kvs : List (κ × V), valV (kvs.map fun kv => if kv.1 = k then (kv.1, y) else kv) j = (valV kvs j).map fun x => if j = k then y else x
  | [] => rfl
  | p :: r => by
    have ih := valV_map k j y r
    rw [List.map_cons]
    by_cases h : p.1 = k
    · rw [if_pos h]
      by_cases e : p.1 = j
      · rw [valV_pos (p := (p.1, y)) e, valV_pos e, Option.map_some, if_pos (e.symm.trans h)]
      · rw [valV_neg (p := (p.1, y)) e, valV_neg e, ih]
    · rw [if_neg h]
      by_cases e : p.1 = j
      · rw [valV_pos (p := p) e, valV_pos e, Option.map_some, if_neg (fun z => h (e.trans z))]
      · rw [valV_neg (p := p) e, valV_neg e, ih]
theorem valV_snoc (k j : κ) (y : V) : ∀ kvs : List (κ × V), valV kvs k = none → valV (kvs ++ [(k, y)]) j = if j = k then some y else valV kvs j
  | [], _ => by
    by_cases e : k = j
    · rw [if_pos e.symm]; exact valV_pos (p := (k, y)) e
    · rw [if_neg (fun z => e z.symm)]; exact valV_neg (p := (k, y)) e
  | p :: r, hn => by
    rw [List.cons_append]
    have hk : ¬ p.1 = k := fun z => by rw [valV_pos z] at hn; cases hn
    rw [valV_neg hk] at hn
    have ih := valV_snoc k j y r hn
    by_cases e : p.1 = j
    · rw [valV_pos e, valV_pos e, if_neg (fun z => hk (e.trans z))]
    · rw [valV_neg e, valV_neg e, ih]
theorem valV_put (kvs : List (κ × V)) (k j : κ) (y : V) : valV (putK kvs k y) j = if j = k then some y else valV kvs j := by
  unfold putK
  by_cases a : (kvs.any fun kv => decide (kv.1 = k)) = true
  · rw [if_pos a, valV_map]
    rw [valV_any] at a
    by_cases e : j = k
    · obtain ⟨x, hx⟩ := Option.isSome_iff_exists.mp a
      rw [if_pos e, e, hx, Option.map_some, if_pos rfl]
    · rw [if_neg e]
      cases valV kvs j with
      | none => rfl
      | some x => rw [Option.map_some, if_neg e]
  · rw [if_neg a]
    refine valV_snoc k j y kvs ?_
    rw [valV_any] at a
    cases q : valV kvs k with
    | none => rfl
    | some x => rw [q] at a; exact (a rfl).elim
theorem length_putK (kvs : List (κ × V)) (k : κ) (v : V) : (putK kvs k v).length ≤ kvs.length + 1 := by
  unfold putK
  split
  · rw [List.length_map]; omega
  · rw [List.length_append, List.length_cons, List.length_nil]; omega
theorem putK_new {kvs : List (κ × V)} {k : κ} (v : V) (h : valV kvs k = none) : putK kvs k v = kvs ++ [(k, v)] := by
  unfold putK
  rw [valV_any, h]
  exact if_neg (by decide)
theorem RelO.isSome_eq {o : Option V} {u : Option Value} (r : RelO o u) : o.isSome = u.isSome := by
  cases o with
  | none => cases u with
    | none => rfl
    | some _ => exact (show False from r).elim
  | some _ => cases u with
    | none => exact (show False from r).elim
    | some _ => rfl
theorem RelO.getD {o : Option V} {u : Option Value} {d : V} {d' : Value} (r : RelO o u) (rd : RelV d d') : RelV (o.getD d) (u.getD d') := by
  cases o with
  | none => cases u with
    | none => exact rd
    | some _ => exact (show False from r).elim
  | some _ => cases u with
    | none => exact (show False from r).elim
    | some _ => exact r
theorem KV.val {kvs : List (κ × V)} {vs : List (κ × Value)} (r : KV kvs vs) (k : κ) : RelO (valV kvs k) (valueAt vs k) := by
  unfold KV at r
  induction r with
  | nil => exact True.intro
  | @cons p q ps qs h t ih =>
    obtain ⟨h1, h2⟩ := h
    by_cases e : p.1 = k
    · have e' : q.1 = k := h1.symm.trans e
      have b : valueAt (q :: qs) k = some q.2 := by simp [valueAt, List.find?_cons, e']
      rw [valV_pos e, b]; exact h2
    · have e' : ¬ q.1 = k := fun z => e (h1.trans z)
      have b : valueAt (q :: qs) k = valueAt qs k := by simp [valueAt, List.find?_cons, e']
      rw [valV_neg e, b]; exact ih
theorem KV.any {kvs : List (κ × V)} {vs : List (κ × Value)} (r : KV kvs vs) (k : κ) : (kvs.any fun kv => decide (kv.1 = k)) = vs.any fun kv => decide (kv.1 = k) := by
  unfold KV at r
  induction r with
  | nil => rfl
  | cons h t ih => rw [List.any_cons, List.any_cons, ih, h.1]
theorem KV.repl {kvs : List (κ × V)} {vs : List (κ × Value)} (r : KV kvs vs) (k : κ) {y : V} {u : Value} (ry : RelV y u) :
    KV (kvs.map fun kv => if kv.1 = k then (kv.1, y) else kv) (vs.map fun kv => if kv.1 = k then (kv.1, u) else kv) := by
  unfold KV at r ⊢
  induction r with
  | nil => exact .nil
  | @cons p q ps qs h t ih =>
    rw [List.map_cons, List.map_cons]
    refine .cons ?_ ih
    obtain ⟨h1, h2⟩ := h
    by_cases e : p.1 = k
    · rw [if_pos e, if_pos (h1.symm.trans e)]; exact ⟨h1, ry⟩
    · rw [if_neg e, if_neg (fun z => e (h1.trans z))]; exact ⟨h1, h2⟩
theorem KV.put {kvs : List (κ × V)} {vs : List (κ × Value)} (r : KV kvs vs) (k : κ) {y : V} {u : Value} (ry : RelV y u) : KV (putK kvs k y) (stored vs k u) := by
  unfold putK stored
  rw [r.any k]
  by_cases e : (vs.any fun kv => decide (kv.1 = k)) = true
  · rw [if_pos e, if_pos e]; exact r.repl k ry
  · rw [if_neg e, if_neg e]; exact Paired.snoc r ⟨rfl, ry⟩
theorem KV.drop {kvs : List (κ × V)} {vs : List (κ × Value)} (r : KV kvs vs) (k : κ) : KV (dropK kvs k) (without vs k) := by
  unfold KV at r ⊢
  unfold dropK without
  induction r with
  | nil => exact .nil
  | @cons p q ps qs h t ih =>
    obtain ⟨h1, h2⟩ := h
    rw [List.filter_cons, List.filter_cons]
    by_cases e : p.1 = k
    · have a : ¬ decide (p.1 ≠ k) = true := by simp [e]
      have b : ¬ decide (q.1 ≠ k) = true := by simp [h1.symm.trans e]
      rw [if_neg a, if_neg b]; exact ih
    · have e' : ¬ q.1 = k := fun z => e (h1.trans z)
      have a : decide (p.1 ≠ k) = true := by simp [e]
      have b : decide (q.1 ≠ k) = true := by simp [e']
      rw [if_pos a, if_pos b]; exact .cons ⟨h1, h2⟩ ih
theorem KV.keys {kvs : List (κ × V)} {vs : List (κ × Value)} (r : KV kvs vs) : kvs.map (·.1) = vs.map (·.1) := by
  unfold KV at r
  induction r with
  | nil => rfl
  | cons h t ih => rw [List.map_cons, List.map_cons, ih, h.1]
theorem KV.length {kvs : List (κ × V)} {vs : List (κ × Value)} (r : KV kvs vs) : kvs.length = vs.length := Paired.length r
end
theorem kV_is {P : Program} {w : World} {k : Key} {u : Value} (r : RelV (kV k) u) : (mixKind P w).is k u = true := by
  cases k with
  | inl i => obtain ⟨t, e⟩ := (show ∃ t, u = Value.int i t from r); subst e; exact mixKind_int P w i t
  | inr x => obtain ⟨t, e⟩ := (show ∃ t, u = Value.str x t from r); subst e; exact mixKind_str P w x t
theorem items_are {P : Program} {w : World} : ∀ {ks : List Key} {us : List Value}, Vals (ks.map kV) us → ItemsAre (mixKind P w) ks us
  | [], _, r => by rw [List.map_nil] at r; cases r; exact .nil
  | k :: ks, _, r => by
    rw [List.map_cons] at r
    cases r with
    | cons h t => exact .cons (kV_is h) (items_are t)
noncomputable abbrev KT (H : Hp) : List (List Key × V) → List (List Key × Addr × Value) → Prop := Paired fun p q => p.1 = q.1 ∧ H q.2.1 = some (.tup (p.1.map kV)) ∧ RelV p.2 q.2.2
theorem KT.val {H : Hp} {kvs : List (List Key × V)} {xs : List (List Key × Addr × Value)} (r : KT H kvs xs) (k : List Key) : RelO (valV kvs k) ((atKey xs k).map (·.2)) := by
  induction r with
  | nil => exact True.intro
  | @cons p q ps qs h t ih =>
    obtain ⟨h1, _, h2⟩ := h
    by_cases e : p.1 = k
    · have e' : q.1 = k := h1.symm.trans e
      have b : atKey (q :: qs) k = some q.2 := by simp [atKey, List.find?_cons, e']
      rw [valV_pos e, b]; exact h2
    · have e' : ¬ q.1 = k := fun z => e (h1.trans z)
      have b : atKey (q :: qs) k = atKey qs k := by simp [atKey, List.find?_cons, e']
      rw [valV_neg e, b]; exact ih
theorem KT.repl {H : Hp} {kvs : List (List Key × V)} {xs : List (List Key × Addr × Value)} (r : KT H kvs xs) (k : List Key) {y : V} {u : Value} (ry : RelV y u) :
    KT H (kvs.map fun kv => if kv.1 = k then (kv.1, y) else kv) (xs.map (putAt k u)) := by
  induction r with
  | nil => exact .nil
  | @cons p q ps qs h t ih =>
    rw [List.map_cons, List.map_cons]
    refine .cons ?_ ih
    obtain ⟨h1, h2, h3⟩ := h
    unfold putAt
    by_cases e : p.1 = k
    · rw [if_pos e, if_pos (h1.symm.trans e)]; exact ⟨h1, h2, ry⟩
    · rw [if_neg e, if_neg (fun z => e (h1.trans z))]; exact ⟨h1, h2, h3⟩
theorem KT.put {H : Hp} {kvs : List (List Key × V)} {xs : List (List Key × Addr × Value)} (r : KT H kvs xs) (k : List Key) {b : Addr} {y : V} {u : Value} (hb : H b = some (.tup (k.map kV))) (ry : RelV y u) :
    KT H (putK kvs k y) (storedH xs k b u) := by
  have e : (kvs.any fun kv => decide (kv.1 = k)) = (atKey xs k).isSome := by
    rw [valV_any, (r.val k).isSome_eq, Option.isSome_map]
  unfold putK storedH
  rw [e]
  by_cases q : (atKey xs k).isSome = true
  · rw [if_pos q, if_pos q]; exact r.repl k ry
  · rw [if_neg q, if_neg q]; exact Paired.snoc r ⟨rfl, hb, ry⟩
theorem KT.keeps {H H' : Hp} {kvs : List (List Key × V)} {xs : List (List Key × Addr × Value)} (r : KT H kvs xs) (ht : ∀ b ys, H b = some (.tup ys) → H' b = some (.tup ys)) : KT H' kvs xs :=
  Paired.mapP r fun _ _ z => ⟨z.1, ht _ _ z.2.1, z.2.2⟩
section
variable {P : Program} {w : World} {H : Hp} {h : Heap} {a : Addr}
theorem rd_of {u : HO} (ok : HOk P w H h) (e : Rd H a u) : ObjOk P w H h a u := e.ok ok
theorem dk_rd {kvs : List (Key × V)} (ok : HOk P w H h) (e : Rd H a (.dK kvs)) : kvs.length ≤ sizeLine ∧ (a == sysModules) = false ∧ ∃ vs, KV kvs vs ∧ h.DictOf (mixKind P w) a vs :=
  show ObjOk P w H h a (.dK kvs) from rd_of ok e
theorem dk_of {kvs : List (Key × V)} (ok : HOk P w H h) (e : H a = some (.dK kvs)) : kvs.length ≤ sizeLine ∧ (a == sysModules) = false ∧ ∃ vs, KV kvs vs ∧ h.DictOf (mixKind P w) a vs := dk_rd ok (.inl e)
theorem key_of {ks : List Key} (ok : HOk P w H h) (e : H a = some (.tup (ks.map kV))) : (tupleKind (mixKind P w)).is h ks a := by
  obtain ⟨_, its, r, o, h1, h2, n, h3⟩ := (show ObjOk P w H h a (.tup (ks.map kV)) from ok a _ e)
  exact ⟨o, its.toArray, n, h1, h2, h3, by simpa using items_are r⟩
theorem dt_rd {kvs : List (List Key × V)} (ok : HOk P w H h) (e : Rd H a (.dT kvs)) : kvs.length ≤ sizeLine ∧ (a == sysModules) = false ∧
    ∃ xs, KT H kvs xs ∧ h.DictOfH (tupleKind (mixKind P w)) a xs := by
  obtain ⟨z, y, xs, r, o, es, ep, h1, h2, h3, h4, h5⟩ := (show ObjOk P w H h a (.dT kvs) from rd_of ok e)
  refine ⟨z, y, xs, r, o, es, ep, h1, h2, h3, h4, fun x hx => ?_, h5⟩
  have all : ∀ {l : List (List Key × V)} {m : List (List Key × Addr × Value)}, KT H l m → ∀ x ∈ m, (tupleKind (mixKind P w)).is h x.1 x.2.1 := by
    intro l m q
    induction q with
    | nil => intro x hx; exact nomatch hx
    | @cons p q ps qs hq t ih =>
      intro x hx
      rcases List.mem_cons.mp hx with e | hx
      · subst e
        exact key_of ok (by rw [← hq.1]; exact hq.2.1)
      · exact ih x hx
  exact all r x hx
theorem dt_of {kvs : List (List Key × V)} (ok : HOk P w H h) (e : H a = some (.dT kvs)) : kvs.length ≤ sizeLine ∧ (a == sysModules) = false ∧
    ∃ xs, KT H kvs xs ∧ h.DictOfH (tupleKind (mixKind P w)) a xs := dt_rd ok (.inl e)
end
noncomputable def DGet (H : Hp) (a : Addr) (y : V) (r : Option V) : Prop :=
  (∃ kvs k, Rd H a (.dK kvs) ∧ y = kV k ∧ r = valV kvs k) ∨ ∃ kvs k b, Rd H a (.dT kvs) ∧ y = .ref b ∧ H b = some (.tup (k.map kV)) ∧ r = valV kvs k
noncomputable def DPut (H : Hp) (a : Addr) (y v : V) (H' : Hp) : Prop :=
  (∃ kvs k, H a = some (.dK kvs) ∧ y = kV k ∧ kvs.length < sizeLine ∧ H' = upd H a (.dK (putK kvs k v))) ∨
  ∃ kvs k b, H a = some (.dT kvs) ∧ y = .ref b ∧ H b = some (.tup (k.map kV)) ∧ kvs.length < sizeLine ∧ H' = upd H a (.dT (putK kvs k v))
theorem DGet.k {H : Hp} {a : Addr} {kvs : List (Key × V)} {k : Key} (e : H a = some (.dK kvs)) : DGet H a (kV k) (valV kvs k) := .inl ⟨kvs, k, .inl e, rfl, rfl⟩
theorem DGet.t {H : Hp} {a b : Addr} {kvs : List (List Key × V)} {k : List Key} (e : H a = some (.dT kvs)) (eb : H b = some (.tup (k.map kV))) : DGet H a (.ref b) (valV kvs k) := .inr ⟨kvs, k, b, .inl e, rfl, eb, rfl⟩
theorem DPut.k {H : Hp} {a : Addr} {kvs : List (Key × V)} {k : Key} {v : V} (e : H a = some (.dK kvs)) (hl : kvs.length < sizeLine) : DPut H a (kV k) v (upd H a (.dK (putK kvs k v))) := .inl ⟨kvs, k, e, rfl, hl, rfl⟩
theorem DPut.t {H : Hp} {a b : Addr} {kvs : List (List Key × V)} {k : List Key} {v : V} (e : H a = some (.dT kvs)) (eb : H b = some (.tup (k.map kV))) (hl : kvs.length < sizeLine) :
    DPut H a (.ref b) v (upd H a (.dT (putK kvs k v))) := .inr ⟨kvs, k, b, e, rfl, eb, hl, rfl⟩
section
variable {X : Cx} {pins : List (Addr × Obj)} {σ : St} {H : Hp} {s : Shared} {a : Addr} {y v : V} {u r : Value} {o : Option V} {A : Around} {E : Value → Shared → Prop}
theorem Inv.big (I : Inv X pins σ H s) : sysModules < s.heap.objs.size := by
  have h : mainGlobals < s.heap.objs.size := (I.mod.glob.keeps I.bk).lt
  exact Nat.lt_trans (by decide) h
theorem d_getItem {Q : Value → Shared → Prop} (hu : A.units + 1 < cLine) (I : Inv X pins σ H s) (g : DGet H a y (some v)) (ry : RelV y u) (h : ∀ w' s', Inv X pins σ H s' → RelV v w' → Q w' s') :
    wpAny (model X.prog X.w) A (getItem (.ref a) u) Q E s := by
  rcases g with ⟨kvs, k, e, ey, l⟩ | ⟨kvs, k, b, e, ey, eb, l⟩
  · subst ey
    obtain ⟨z, hd, vs, rel, dd⟩ := dk_rd I.hok e
    obtain ⟨w', hw, rw'⟩ := RelO.some_of (v := v) (o := valueAt vs k) (by rw [l]; exact rel.val k)
    exact wpAny_getItem_of (kV_is ry) dd.mapOf hw (h w' _ (I.tok _) rw')
  · subst ey
    cases (show u = Value.ref b from ry)
    obtain ⟨z, hd, xs, rel, dd⟩ := dt_rd I.hok e
    obtain ⟨w', hw, rw'⟩ := RelO.some_of (v := v) (o := (atKey xs k).map (·.2)) (by rw [l]; exact rel.val k)
    obtain ⟨p, hp, hp2⟩ := Option.map_eq_some_iff.mp hw
    refine wpAny_getItem_heap (tupleKind_room_in1 hu) (key_of I.hok eb) dd hp ?_
    rw [hp2]
    exact h w' _ (I.tok _) rw'
theorem d_notIn {Q : Value → Shared → Prop} (hu : A.units + 1 < cLine) (I : Inv X pins σ H s) (g : DGet H a y o) (ry : RelV y u) (h : ∀ s', Inv X pins σ H s' → Q (.bool (!o.isSome)) s') :
    wpAny (model X.prog X.w) A (compareOp .NotIn u (.ref a)) Q E s := by
  rcases g with ⟨kvs, k, e, ey, l⟩ | ⟨kvs, k, b, e, ey, eb, l⟩
  · subst ey
    obtain ⟨z, hd, vs, rel, dd⟩ := dk_rd I.hok e
    refine wpAny_notIn_of (kV_is ry) hd dd.mapOf ?_
    rw [← (rel.val k).isSome_eq, ← l]
    exact h _ (I.tok _)
  · subst ey
    cases (show u = Value.ref b from ry)
    obtain ⟨z, hd, xs, rel, dd⟩ := dt_rd I.hok e
    refine wpAny_notIn_heap (tupleKind_room_in1 hu) (key_of I.hok eb) hd dd ?_
    have q := (rel.val k).isSome_eq
    rw [Option.isSome_map] at q
    rw [← q, ← l]
    exact h _ (I.tok _)
theorem d_write {h' : Heap} {t' : Nat} {ob : HO} (I : Inv X pins σ H s) (mu : Mut (H a)) (hs : Heap.SameBut a s.heap h') (he : ∃ q, h'.get? a = some q) (new : ObjOk X.prog X.w (upd H a ob) h' a ob) :
    Inv X pins σ (upd H a ob) { s with heap := h', toks := t' } :=
  I.write (x := a) (e := a) mu (.inl rfl) (fun b q hb z => (hs.2 b hb).trans z) he new
theorem dk_new {P : Program} {w : World} {H' : Hp} {h' : Heap} {kvs : List (Key × V)} {vs : List (Key × Value)} (z : kvs.length ≤ sizeLine) (hd : (a == sysModules) = false) (rel : KV kvs vs) (dd : h'.DictOf (mixKind P w) a vs) :
    ObjOk P w H' h' a (.dK kvs) := ⟨z, hd, vs, rel, dd⟩
theorem d_setItem {H' : Hp} {Q : Unit → Shared → Prop} (hu : A.units + 1 < cLine) (I : Inv X pins σ H s) (g : DPut H a y v H') (ry : RelV y u) (rv : RelV v r) (h : ∀ s', Inv X pins σ H' s' → Q () s') :
    wpAny (model X.prog X.w) A (setItem (.ref a) u r) Q E s := by
  rcases g with ⟨kvs, k, e, ey, l, eH⟩ | ⟨kvs, k, b, e, ey, eb, l, eH⟩
  · subst ey eH
    obtain ⟨z, hd, vs, rel, dd⟩ := dk_of I.hok e
    have hz : vs.length ≤ sizeLine := by rw [← rel.length]; exact z
    have hl : (putK kvs k v).length ≤ sizeLine := by have := length_putK kvs k v; omega
    refine wpAny_setItem_pairs (hsz := hz) (kV_is ry) dd fun h' dd' hs => h _ ?_
    have he : ∃ q, h'.get? a = some q := let ⟨q, _, _, hq, _⟩ := dd'; ⟨q, hq⟩
    exact d_write I (by rw [e]; exact True.intro) hs he (dk_new hl hd (rel.put k rv) dd')
  · subst ey eH
    cases (show u = Value.ref b from ry)
    obtain ⟨z, hd, xs, rel, dd⟩ := dt_of I.hok e
    have hz : xs.length ≤ sizeLine := by rw [← Paired.length rel]; exact z
    have hl : (putK kvs k v).length ≤ sizeLine := by have := length_putK kvs k v; omega
    refine wpAny_setItem_heap (hsz := hz) (tupleKind_room_in1 hu) (key_of I.hok eb) dd fun h' dd' hs => h _ ?_
    obtain ⟨q, es, ep, hq, h2, h3, h4, _, h5⟩ := dd'
    refine d_write I (by rw [e]; exact True.intro) hs ⟨q, hq⟩ ⟨hl, hd, _, (rel.put k eb rv).keeps fun c ys ec => ?_, q, es, ep, hq, h2, h3, h4, h5⟩
    rw [upd_ne (ne_of ec e (fun z => nomatch z))]
    exact ec
end
section
variable {X : Cx} {pins : List (Addr × Obj)} {σ : St} {H : Hp} {s : Shared} {a : Addr} {kvs : List (Key × V)} {k : Key} {u : Value} {A : Around} {E : Value → Shared → Prop}
end
noncomputable def NoSl (i : Expr) : Prop := ∀ ov iv, subscripted i false ov iv = operate [ov, iv] (getItem ov iv)
theorem subD_of {prog : Program} {w : World} {A : Around} {E : Value → Shared → Prop} {s : Shared} {env : Env} {value slice : Expr} {pos : Pos} {T id : String} {Q : Value → Shared → Prop}
    (hl : typeLookup (.type T) "__getitem__" = pure (some (.builtin id))) (hs : NoSl slice)
    (h : wpAny (model prog w) A (eval value env) (fun o s₁ => wpAny (model prog w) A (eval slice env) (fun i s₂ => s₂.TypeIs o T ∧ wpAny (model prog w) A (getItem o i) Q E s₂) E s₁) E s) :
    wpAny (model prog w) A (eval (.Subscript value slice pos) env) Q E s := by
  refine Subscript_ (wpAny_mono h (fun o s₁ h₁ => wpAny_mono h₁ (fun i s₂ h₂ => ?_) fun _ _ x => x) fun _ _ x => x)
  obtain ⟨hT, h₂⟩ := h₂
  unfold subscriptTail
  refine wpAny_bind ?_
  rw [getitemInPython_of_ne hT.not_modules]
  refine wpAny_bind (wpAny_specialOf hT hl ?_)
  have fin : wpAny (model prog w) A (subscripted slice false o i) (fun r s₃ => wpAny (model prog w) A (letTemporaryGo value o r >>= fun _ => pure r) Q E s₃) E s₂ := by
    rw [hs o i]
    exact wpAny_operating (wpAny_mono h₂ (fun r s₃ h₃ => wpAny_bind (wpAny_letTemporaryGo (wpAny_pure h₃))) fun _ _ x => x)
  first
    | exact wpAny_pure (wpAny_bind fin)
    | exact wpAny_bind (wpAny_pure (wpAny_bind fin))
    | exact wpAny_bind fin
theorem dict_typeIs {X : Cx} {pins : List (Addr × Obj)} {σ : St} {H : Hp} {s : Shared} {a : Addr} {y : V} {o : Option V} (I : Inv X pins σ H s) (g : DGet H a y o) : s.TypeIs (.ref a) "dict" := by
  rcases g with ⟨kvs, k, e, _, _⟩ | ⟨kvs, k, b, e, _, _, _⟩
  · obtain ⟨_, _, vs, _, dd⟩ := dk_rd I.hok e
    exact dd.typeIs
  · obtain ⟨_, _, xs, _, dd⟩ := dt_rd I.hok e
    exact dd.typeIs
noncomputable def tDGet (td ty : TE) : TE := fun σ H Q => td σ H fun x H1 => ty σ H1 fun y H2 => ∃ a v, x = .ref a ∧ DGet H2 a y (some v) ∧ Q v H2
noncomputable def tDIn (ty td : TE) : TE := fun σ H Q => ty σ H fun y H1 => td σ H1 fun x H2 => ∃ a o, x = .ref a ∧ DGet H2 a y o ∧ Q (.bl o.isSome) H2
noncomputable def tDNotIn (ty td : TE) : TE := fun σ H Q => ty σ H fun y H1 => td σ H1 fun x H2 => ∃ a o, x = .ref a ∧ DGet H2 a y o ∧ Q (.bl (!o.isSome)) H2
noncomputable def sDPut (td ty tv : TE) : TS := fun D σ H => tv σ H fun v H1 => td σ H1 fun x H2 => ty σ H2 fun y H3 => ∃ a H4, x = .ref a ∧ DPut H3 a y v H4 ∧ D.nx σ H4
noncomputable def sDAug (td ty tv : TE) (rd : V → V → Hp → VK → Prop) : TS := fun D σ H => td σ H fun x H1 => ty σ H1 fun y H2 => ∃ a v, x = .ref a ∧ DGet H2 a y (some v) ∧
  tv σ H2 fun y2 H3 => rd v y2 H3 fun z H4 => ∃ H5, DPut H4 a y z H5 ∧ D.nx σ H5
noncomputable def sDDel (td ty : TE) : TS := fun D σ H => td σ H fun x H1 => ty σ H1 fun y H2 => ∃ a kvs k, x = .ref a ∧ H2 a = some (.dK kvs) ∧ y = kV k ∧ (valV kvs k).isSome = true ∧ D.nx σ (upd H2 a (.dK (dropK kvs k)))
section
variable {X : Cx} {o i e value : Expr} {pos pos' tpos : Pos} {td ty tv : TE}
theorem pe_dget (hu : X.A.units + 1 < cLine) (ho : PE X o td) (hi : PE X i ty) (hs : NoSl i) : PE X (.Subscript o i pos) (tDGet td ty) := by
  intro pins s σ H Q I h
  refine subD_of PySem.F.slot_dict_getitem.lookup hs (thn (ho pins s σ H _ I h) fun u s1 ⟨x, H1, I1, rx, q1⟩ => thn (hi pins s1 σ H1 _ I1 q1) fun iv s2 ⟨y, H2, I2, ry, a, v, ex, g, q2⟩ => ?_)
  subst ex
  obtain rfl : u = Value.ref a := rx
  exact ⟨dict_typeIs I2 g, d_getItem hu I2 g ry fun w' s3 I3 rw' => ⟨v, H2, I3, rw', q2⟩⟩
theorem pc_dnotin (hu : X.A.units + 1 < cLine) (hi : PE X i ty) (ho : PE X o td) : PC X .NotIn i o (tDNotIn ty td) := by
  intro pins s σ H Q I h
  refine thn (hi pins s σ H _ I h) fun iv s1 ⟨y, H1, I1, ry, q1⟩ => thn (ho pins s1 σ H1 _ I1 q1) fun u s2 ⟨x, H2, I2, rx, a, ov, ex, g, q2⟩ => ?_
  subst ex
  obtain rfl : u = Value.ref a := rx
  exact d_notIn hu I2 g ry fun s3 I3 => ⟨.bl (!ov.isSome), H2, I3, rfl, q2⟩
theorem ps_dput (hu : X.A.units + 1 < cLine) (ho : PE X o td) (hi : PE X i ty) (hv : PE X value tv) (hs : swapsWith value (some (.Subscript o i pos')) pos.line X.env = pure false) :
    PS X (.Assign [.Subscript o i pos'] value pos) (sDPut td ty tv) := by
  intro pins s σ H D I h
  refine wpAny_Assign_Subscript (thn (hv pins s σ H _ I h) fun r s1 ⟨v, H1, I1, rv, q1⟩ => thn (ho pins s1 σ H1 _ I1 q1) fun u s2 ⟨x, H2, I2, rx, q2⟩ => thn (hi pins s2 σ H2 _ I2 q2) fun iv s3 ⟨y, H3, I3, ry, a, H4, ex, g, q3⟩ => ?_) hs
  subst ex
  obtain rfl : u = Value.ref a := rx
  exact d_setItem hu I3 g ry rv fun s4 I4 => ⟨σ, H4, I4, q3⟩
end
theorem dt_empty {P : Program} {w : World} {H : Hp} (h : Heap) (hb : sysModules < h.objs.size) : ObjOk P w H (h.push { cls := .type "dict", data := .dict #[] }) h.objs.size (.dT []) :=
  ⟨Nat.zero_le _, beq_eq_false_iff_ne.mpr (Ne.symm (Nat.ne_of_lt hb)), [], .nil, _, #[], 0, Heap.get?_push_size _ rfl, ⟨rfl, rfl, rfl⟩, rfl, rfl, List.nodup_nil⟩
noncomputable def tDNewK : TE := fun _ H Q => ∀ p, H p = none → Q (.ref p) (upd H p (.dK []))
noncomputable def tDNewT : TE := fun _ H Q => ∀ p, H p = none → Q (.ref p) (upd H p (.dT []))
section
variable {X : Cx} {pos : Pos}
theorem pe_dnewT : PE X (.Dict [] [] pos) tDNewT := fun pins s σ H Q I h =>
  wpAny_Dict_empty ⟨.ref s.heap.objs.size, _, I.laid (a := s.heap.objs.size) (o := .dT []) (t' := s.toks) (fun _ _ q => Heap.get?_push_of_some _ q) (Nat.le_refl _) (dt_empty s.heap I.big), rfl, h _ (I.hok.fresh (Nat.le_refl _))⟩
end
noncomputable def tPairs : List (TE × TE) → St → Hp → (List (V × V) → Hp → Prop) → Prop
  | [], _, H, Q => Q [] H
  | (tk, tv) :: r, σ, H, Q => tk σ H fun x H1 => tv σ H1 fun y H2 => tPairs r σ H2 fun ps H3 => Q ((x, y) :: ps) H3
noncomputable abbrev VV : List (V × V) → List (Value × Value) → Prop := Paired fun p q => RelV p.1 q.1 ∧ RelV p.2 q.2
noncomputable def PPs (X : Cx) (pos : Pos) (keys : List (Option Expr)) (values : List Expr) (trs : List (TE × TE)) : Prop :=
  ∀ (pins : List (Addr × Obj)) (s : Shared) (σ : St) (H : Hp) (Q : List (V × V) → Hp → Prop), Inv X pins σ H s → tPairs trs σ H Q →
    wpAny (model X.prog X.w) X.A (evalPairs (pairTrees keys values X.env pos)) (fun vs s' => ∃ ps H', Inv X pins σ H' s' ∧ VV ps vs ∧ Q ps H') X.xe s
noncomputable def mergeK (kvs more : List (Key × V)) : List (Key × V) := more.foldl (fun acc kv => putK acc kv.1 kv.2) kvs
noncomputable def tDisp (trs : List (TE × TE)) : TE := fun σ H Q => ∀ p, H p = none → tPairs trs σ (upd H p (.dK [])) fun ps H2 => H2 p = some (.dK []) ∧ ∃ kvs : List (Key × V), ps = kvs.map (fun kv => (kV kv.1, kv.2)) ∧ kvs.length ≤ 15 ∧ Q (.ref p) (upd H2 p (.dK (mergeK [] kvs)))
structure M1 (X : Cx) (o : Expr) (m : Str) (apos : Pos) (e : Expr) (cpos : Pos) : Prop where
  base : attributeBase o m X.env (eval o X.env) = eval o X.env
  few : ((backTo cpos (starEach [e] X.env)).all (fun x => !x.1) && (backToKw cpos (keywordEach [] X.env)).all (fun x => x.1.isSome)
    && decide (([e] : List Expr).length + ([] : List Keyword).length + (if ([] : List Keyword).isEmpty then 0 else 1) < 30)) = true
  line : (apos.endLine == cpos.line) = true
  trees : backTo cpos (starEach [e] X.env) = [(false, eval e X.env)]
structure M2 (X : Cx) (o : Expr) (m : Str) (apos : Pos) (e f : Expr) (cpos : Pos) : Prop where
  base : attributeBase o m X.env (eval o X.env) = eval o X.env
  few : ((backTo cpos (starEach [e, f] X.env)).all (fun x => !x.1) && (backToKw cpos (keywordEach [] X.env)).all (fun x => x.1.isSome)
    && decide (([e, f] : List Expr).length + ([] : List Keyword).length + (if ([] : List Keyword).isEmpty then 0 else 1) < 30)) = true
  line : (apos.endLine == cpos.line) = true
  trees : backTo cpos (starEach [e, f] X.env) = [(false, eval e X.env), (false, eval f X.env)]
noncomputable def IsD (H : Hp) (a : Addr) : Prop := (∃ kvs, Rd H a (.dK kvs)) ∨ ∃ kvs, Rd H a (.dT kvs)
section
variable {X : Cx} {pins : List (Addr × Obj)} {σ : St} {H : Hp} {s : Shared} {a : Addr} {y d : V} {u r : Value} {o : Option V} {A : Around} {E : Value → Shared → Prop}
end
noncomputable def tDGet1 (td ty : TE) : TE := fun σ H Q => td σ H fun x H1 => ∃ a, x = .ref a ∧ IsD H1 a ∧ ty σ H1 fun y H2 => ∃ o, DGet H2 a y o ∧ Q (o.getD .non) H2
noncomputable def tDGet2 (td ty tx : TE) : TE := fun σ H Q => td σ H fun x H1 => ∃ a, x = .ref a ∧ IsD H1 a ∧ ty σ H1 fun y H2 => tx σ H2 fun z H3 => ∃ o, DGet H3 a y o ∧ Q (o.getD z) H3
noncomputable def tDPop1 (td ty : TE) : TE := fun σ H Q => td σ H fun x H1 => ∃ a, x = .ref a ∧ IsD H1 a ∧ ty σ H1 fun y H2 => ∃ kvs k v, H2 a = some (.dK kvs) ∧ y = kV k ∧ valV kvs k = some v ∧ Q v (upd H2 a (.dK (dropK kvs k)))
noncomputable def tDPop2 (td ty tx : TE) : TE := fun σ H Q => td σ H fun x H1 => ∃ a, x = .ref a ∧ IsD H1 a ∧ ty σ H1 fun y H2 => tx σ H2 fun z H3 => ∃ kvs k, H3 a = some (.dK kvs) ∧ y = kV k ∧
  (∀ v, valV kvs k = some v → Q v (upd H3 a (.dK (dropK kvs k)))) ∧ (valV kvs k = none → Q z H3)
section
variable {X : Cx} {o e f : Expr} {apos cpos : Pos} {td ty tx : TE}
end
section
variable {X : Cx} {pins : List (Addr × Obj)} {σ : St} {H : Hp} {s : Shared} {a : Addr} {kvs : List (Key × V)} {A : Around} {E : Value → Shared → Prop}
end
section
variable {X : Cx} {pins : List (Addr × Obj)} {σ : St} {H : Hp} {s : Shared} {a : Addr} {y : V} {u : Value} {A : Around} {E : Value → Shared → Prop}
end
end L2
namespace Att
open PySem PySem.W PySem.Calls PyProof.Rows
theorem ints_of_wellAll {P : Params} {h : Heap} : ∀ (ns : List Int) (vs : List Value), WellAll P h vs (ns.map WData.int) → IntsAre vs ns := by
  intro ns
  induction ns with
  | nil =>
    intro vs w
    rw [List.map_nil] at w
    cases w
    exact .nil
  | cons n ns ih =>
    intro vs w
    rw [List.map_cons] at w
    cases w with
    | cons a b =>
      cases a
      exact .cons _ _ (ih _ b)
theorem script_of {l : OpenLaw} {n : Nat} (hn : l.most = some n) {P : Params} {h : Heap} {args : List WData} {vals : List Value}
    (hpre : l.row.toRowW.claim.pre args = true) (hwl : WellAll P h vals args) :
    ∃ a vs ns, vals = [Value.ref a] ∧ args = [WData.list (ns.map WData.int)] ∧ h.get? a = some { cls := .type "list", data := .seq vs.toArray } ∧ IntsAre vs ns ∧ ns.length ≤ n := by
  have hsh : WShape.hasAll [] args [.list .int] = true := (pre_splitW hpre).1
  have hc : l.pre.holds [] { args := args } = true := (pre_splitW hpre).2
  obtain ⟨d, r, rfl, h1, h2⟩ := hasAllW_cons hsh
  obtain rfl := hasAllW_nil h2
  obtain ⟨xs, rfl, h3⟩ := hasW_list h1
  obtain ⟨ns, rfl⟩ := items_int h3
  have hlen : ns.length ≤ n := by
    unfold OpenLaw.pre at hc
    have h4 : (WTm.not (.lt (.lit (.int (n : Int))) (.len (.arg 0)))).holds [] { args := [.list (ns.map .int)] } = true := by
      have h4 := (holds_andW hc).1
      rw [hn] at h4
      exact h4
    have h5 := condW_of h4 (w_not (w_lt w_lit (w_len_list (w_arg rfl))))
    rw [List.length_map] at h5
    refine Nat.le_of_not_lt fun q => ?_
    have q' : (n : Int) < ((ns.length : Nat) : Int) := by omega
    first
      | (rw [decide_eq_true q'] at h5; exact absurd h5 (by decide))
      | (simp at h5; omega)
  cases hwl with
  | cons w1 w2 =>
    cases w2
    cases w1 with
    | list ho hall => exact ⟨_, _, ns, rfl, rfl, ho, ints_of_wellAll ns _ hall, hlen⟩
theorem post_true (l : OpenLaw) (args : List WData) : l.row.toRowW.claim.post args (.bool true) args = true :=
  postW_of (r := l.row.toRowW) (X := (true == true))
    (show WShape.has [] (.bool true) .bool = true by first | rfl | decide | simp [WShape.has, WShape.arms, WShape.armsAll])
    (show (WTm.eq .res (.lit (.bool true))).value [] { args := args, res := some (.bool true), after := args } = some (.bool (true == true)) from w_eq_bool (w_res rfl) w_lit) rfl
theorem attach_call {l : OpenLaw} {n : Nat} {q : Program} {loose : List Str} {XP : (Str → Option Value) → Heap → Prop} {YP : World → Heap → Prop} {d : DefRec}
    (hn : l.most = some n) (hdf : d.params.defaults = [])
    (call : ∀ (w : World) (s₀ s₁ : Shared) (mg mb : Str → Option Value) (fa : Addr) (o : Obj) (pm cd doc : Value) (a : Addr) (vs : List Value) (ns : List Int),
      Ground q loose [] XP w s₀ mg mb s₁.heap → YP w s₁.heap →
      s₁.heap.get? fa = some o → o.data = .func (docDef d.name d.params d.body d.scope pm cd doc) → s₁.heap.CodeRec cd d.name → mg d.name = some (.ref fa) →
      s₁.heap.get? a = some { cls := .type "list", data := .seq vs.toArray } → IntsAre vs ns → ns.length ≤ n → s₁.gens = #[] →
      codeAny (model l.prog w) callerA (.call (.ref fa) ⟨[.ref a], []⟩) (fun r s' => r = .ok (.ret (.bool true)) ∧ OldK s₁.heap s'.heap ∧ s'.os = s₁.os ∧ AllBare s'.gens) s₁) :
    WalkO q loose XP YP l.row.toRowW d [] (fun f vs => PySem.call f vs) := by
  intro w s₀ s₁ mg mb G Y fa o pm cd doc dV kV ho hd hcd hD hmg hg args vals as hpre hlay hrd hwl hlo
  obtain rfl : dV = .none := Dflts.none hD hdf
  obtain rfl : kV = .none := Dflts.noKw hD
  obtain ⟨a, vs, ns, rfl, rfl, hobj, hints, hlen⟩ := script_of hn hpre hwl
  refine enter_call (codeAny_mono (call w s₀ s₁ mg mb fa o pm cd doc a vs ns G Y ho (fd_plain hd) hcd hmg hobj hints hlen hg) fun r s' hq => ?_)
  obtain ⟨rfl, h2, h3, h4⟩ := hq
  exact ⟨.inl ⟨.bool true, .bool true, [], rfl, fun _ => rfl, .bool true, post_true l _, fun _ => ⟨List.Pairwise.nil, fun _ hm => (nomatch hm)⟩⟩, h2, h3, h4⟩
section
variable {prog : Program} {w : World} {A : Around} {E : Value → Shared → Prop} {s : Shared} {K : Frag}
noncomputable def noObjs (h : Heap) : Heap := { h with objs := #[] }
noncomputable def ledger (h : Heap) (L d : Addr) : List (Addr × Obj) := (List.range h.objs.size).filterMap fun a => if a = L ∨ a = d then none else (h.get? a).map fun o => (a, o)
end
end Att
namespace L2
open PySem PySem.Spec PyProof.Rows
theorem vals_ints : ∀ {vs : List Value} {ns : List Int}, IntsAre vs ns → Vals (ns.map V.int) vs
  | _, _, .nil => .nil
  | _, _, .cons n t h => .cons ⟨t, rfl⟩ (vals_ints h)
noncomputable def Only (H : Hp) : Prop := ∀ b, H b = none ∨ ∃ o xs, H b = some (.frz o (.lst xs))
theorem law_call {P : Program} {w : World} {K : PySem.W.Frag} {mg mb : Str → Option Value} {CX : CXT} {k : Nat} {fa a : Addr} {fd : FuncData} {x : Str} {sp : Sp} {s₁ : Shared} {vs : List Value} {ns : List Int}
    (KX : K.In s₁.heap) (hns : s₁.heap.Ns mainGlobals mg) (hb : s₁.heap.Ns builtinsNs mb) (hbb : ∀ x : Str, x ≠ "__name__" → mb x = bootBuiltins x) (hlim : s₁.heap.NoLimit) (hg : s₁.gens = #[])
    (ha : s₁.heap.get? a = some { cls := .type "list", data := .seq vs.toArray }) (hi : IntsAre vs ns) (hl : ns.length ≤ sizeLine) (hr : Room k callerA)
    (F : ∀ base : Heap, K.In base → base.Ns mainGlobals mg → FnOk P w K mg base CX k fa fd [x] sp) (hbind : ∀ (s : Shared) (u : Value), BindsTo s fd ⟨[u], []⟩ [(x, u)])
    (hsp : ∀ H : Hp, Only H → SqL K H a (ns.map V.int) → sp [.ref a] H (fun v _ => v = .bl true) fun _ _ _ => False)
    (hCX : ∀ H e s', CX [] H s₁ (fun _ _ _ => False) e s' → False) :
    codeAny (model P w) callerA (.call (.ref fa) ⟨[.ref a], []⟩) (fun r s' => r = .ok (.ret (.bool true)) ∧ OldK s₁.heap s'.heap ∧ s'.os = s₁.os ∧ AllBare s'.gens) s₁ := by
  have rv := vals_ints hi
  have lenV := hi.length
  have core : ∀ H : Hp, Only H → SqL K H a (ns.map V.int) → HOk P w H s₁.heap → (∀ b, H b ≠ none → b = a) → (H a ≠ none → K.lookup a = none) →
      codeAny (model P w) callerA (.call (.ref fa) ⟨[.ref a], []⟩) (fun r s' => r = .ok (.ret (.bool true)) ∧ OldK s₁.heap s'.heap ∧ s'.os = s₁.os ∧ AllBare s'.gens) s₁ := by
    intro H hO hS hok hA hK
    have base_of : ∀ {b : Addr} {o : Obj}, s₁.heap.get? b = some o → H b = none → (hidT s₁.heap H).get? b = some o := fun e n => hidT_get e n
    have noA : ∀ {b : Addr} {o : Obj} {es : Array DictEntry} {ep : Nat}, s₁.heap.get? b = some o → o.data = .dict es ep → H b = none := fun {b o es ep} e d => by
      cases q : H b with
      | none => rfl
      | some u =>
        have e' : b = a := hA b (by rw [q]; simp)
        subst e'
        rw [ha] at e; cases e
        have d' : Data.seq vs.toArray _ = Data.dict es ep := d
        cases d'
    have nsK : ∀ {b : Addr} {m : Str → Option Value}, s₁.heap.Ns b m → (hidT s₁.heap H).Ns b m := fun {b m} ⟨o, es, ep, e, d, r⟩ => ⟨o, es, ep, base_of e (noA e d), d, r⟩
    have hKb : K.In (hidT s₁.heap H) := fun b o e => base_of (KX b o e) (by
      cases q : H b with
      | none => rfl
      | some u =>
        have e' : b = a := hA b (by rw [q]; simp)
        subst e'
        rw [hK (by rw [q]; simp)] at e; cases e)
    have hM : Mod K mg (hidT s₁.heap H) := ⟨hKb, nsK hns, ⟨mb, nsK hb, hbb⟩, let ⟨mc, h1, h2⟩ := hlim; ⟨mc, nsK h1, h2⟩⟩
    have e0 : Env0 P w K mg (hidT s₁.heap H) callerA [] s₁ H := ⟨rfl, hM, fun b o e => of_hidT e, Nat.le_of_eq (hidT_size _ _), trivial, fun b hb => absurd (show b ∈ ([] : List Addr) from hb) (by simp), hok, .of_eq hg⟩
    refine codeAny_mono ((F _ hKb (nsK hns)).run callerA [] s₁ H ⟨[.ref a], []⟩ [.ref a] [.ref a] _ _ hr e0 (hbind s₁ (.ref a)) (.cons rfl .nil) (hsp H hO hS)) fun r s' h => ?_
    cases r with
    | error e => exact (hCX H e s' h).elim
    | ok fl =>
      cases fl with
      | next => exact False.elim h
      | brk => exact False.elim h
      | cont => exact False.elim h
      | ret u =>
        obtain ⟨v, H', os, bare, un, hok', r', q⟩ := h
        have q' : v = .bl true := q
        subst q'
        obtain rfl : u = Value.bool true := r'
        refine ⟨rfl, OldK.of_keep fun b o e => ?_, os, bare⟩
        cases q : H b with
        | none => exact un.keep b o e q (by intro z; exact absurd (show b ∈ ([] : List Addr) from z) (by simp)) (by simp)
        | some u =>
          rcases hO b with z | ⟨ob, xs, z⟩
          · rw [q] at z; cases z
          · have z2 := un.frzs b ob _ z
            obtain ⟨e1, _⟩ := hok b _ z
            obtain ⟨e2, _⟩ := hok' b _ z2
            rw [e] at e1; cases e1
            exact e2
  cases hk : K.lookup a with
  | some o =>
    have e := KX a o hk
    rw [ha] at e
    cases e
    refine core (fun _ => none) (fun _ => .inl rfl) (.inr ⟨_, vs.toArray, _, hk, rfl, rfl, rfl, by rw [List.size_toArray, lenV]; exact hl, by simpa using rv⟩) (fun b u z => by have z' : (none : Option HO) = some u := z; cases z') (fun b z => absurd rfl z) fun z => absurd rfl z
  | none =>
    refine core (fun b => if b = a then some (.frz { cls := .type "list", data := .seq vs.toArray } (.lst (ns.map V.int))) else none) (fun b => ?_) (.inl (.inr ⟨{ cls := .type "list", data := .seq vs.toArray }, if_pos rfl⟩)) (fun b u z => ?_) (fun b z => ?_) fun _ => hk
    · by_cases hb : b = a
      · exact .inr ⟨_, _, if_pos hb⟩
      · exact .inl (if_neg hb)
    · by_cases hb : b = a
      · have z' := (if_pos hb).symm.trans z
        cases z'
        subst hb
        exact ⟨ha, by rw [List.length_map]; exact hl, vs, _, rv, ha⟩
      · have z' := (if_neg hb).symm.trans z
        cases z'
    · by_cases hb : b = a
      · exact hb
      · exact absurd (if_neg hb) z
end L2
namespace L2
open PySem PySem.Spec PyProof.Rows
noncomputable abbrev KOf {K : PySem.W.Frag} {h : Heap} (_ : K.In h) : PySem.W.Frag := K
theorem walk_of {l : PySem.W.OpenLaw} {n k : Nat} {q : Program} {loose : List Str} {XP : (Str → Option Value) → Heap → Prop} {YP : World → Heap → Prop} {d : DefRec} {K : Params → PySem.W.Frag} {CX : World → CXT} {sp : World → Sp} {x : Str}
    (hn : l.most = some n) (hn2 : n ≤ sizeLine) (hdf : d.params.defaults = []) (hr : Room k callerA)
    (hY : ∀ (w : World) (h : Heap), YP w h → (K w.params).In h)
    (F : ∀ (w : World) (mg : Str → Option Value) (fa : Addr) (h : Heap), (K w.params).In h → h.Ns mainGlobals mg → mg d.name = some (.ref fa) →
      ∃ fd : FuncData, (∀ (s : Shared) (u : Value), BindsTo s fd ⟨[u], []⟩ [(x, u)]) ∧
        ∀ base : Heap, (K w.params).In base → base.Ns mainGlobals mg → FnOk l.prog w (K w.params) mg base (CX w) k fa fd [x] (sp w))
    (hsp : ∀ (w : World) (H : Hp) (a : Addr) (ns : List Int), ns.length ≤ n → Only H → SqL (K w.params) H a (ns.map V.int) → sp w [.ref a] H (fun v _ => v = .bl true) fun _ _ _ => False)
    (hCX : ∀ (w : World) (H : Hp) (s : Shared) (e : Value) (s' : Shared), CX w [] H s (fun _ _ _ => False) e s' → False) :
    PySem.W.WalkO q loose XP YP l.row.toRowW d [] (fun f vs => PySem.call f vs) := by
  refine Att.attach_call hn hdf fun w s₀ s₁ mg mb fa o pm cd doc a vs ns G Y ho hd hcd hmg hobj hints hlen hg => ?_
  have KX := hY w _ Y
  obtain ⟨fd, hb, hF⟩ := F w mg fa _ KX G.T.g hmg
  exact law_call KX G.T.g G.T.b G.T.builtins G.T.nolimit hg hobj hints (Nat.le_trans hlen hn2) hr hF hb (fun H hO hS => hsp w H a ns hlen hO hS) fun H e s' => hCX w H s₁ e s'
theorem walk_ofK {l : PySem.W.OpenLaw} {n k : Nat} {q : Program} {loose : List Str} {XP : (Str → Option Value) → Heap → Prop} {YP : World → Heap → Prop} {d : DefRec} {K : Params → PySem.W.Frag} {CX : CXT} {sp : PySem.W.Frag → Sp} {x : Str}
    (hn : l.most = some n) (hn2 : n ≤ sizeLine) (hdf : d.params.defaults = []) (hr : Room k callerA)
    (hY : ∀ (w : World) (h : Heap), YP w h → (K w.params).In h)
    (F : ∀ (w : World) (mg : Str → Option Value) (fa : Addr) (h : Heap), (K w.params).In h → h.Ns mainGlobals mg → mg d.name = some (.ref fa) →
      ∃ fd : FuncData, (∀ (s : Shared) (u : Value), BindsTo s fd ⟨[u], []⟩ [(x, u)]) ∧
        ∀ base : Heap, (K w.params).In base → base.Ns mainGlobals mg → FnOk l.prog w (K w.params) mg base CX k fa fd [x] (sp (K w.params)))
    (hsp : ∀ (K : PySem.W.Frag) (H : Hp) (a : Addr) (ns : List Int), ns.length ≤ n → Only H → SqL K H a (ns.map V.int) → sp K [.ref a] H (fun v _ => v = .bl true) fun _ _ _ => False)
    (hCX : ∀ (H : Hp) (s : Shared) (e : Value) (s' : Shared), CX [] H s (fun _ _ _ => False) e s' → False) :
    PySem.W.WalkO q loose XP YP l.row.toRowW d [] (fun f vs => PySem.call f vs) :=
  walk_of (K := K) (CX := fun _ => CX) (sp := fun w => sp (K w.params)) hn hn2 hdf hr hY F (fun w H a ns h1 h2 h3 => hsp (K w.params) H a ns h1 h2 h3) fun _ H s e s' => hCX H s e s'
end L2
/- THE LAST THEOREM (shape; LID, My.* are yours):
   My.Adr: a structure of the addresses that your layer names (classes, functions); My.Txt K t: a structure (Prop) of the equations over K;
   My.txt_mk : {K} {implicit addresses ..} (e1 : nsIn K mainGlobals "law" = some (some (.ref f))) (e2 : K.lookup f = some ⟨oc, od, .func (fnOf "law" "law" params body scope dV kV doc pm an cdv ct), sl⟩) (e3 : codeIn K cdv "law" = true) .. : ∃ t, My.Txt K t
set_option maxRecDepth 100000 in
set_option maxHeartbeats 0 in
theorem PySem.Challenge.cw_LID_holds : PySem.Challenge.rw_LID.Holds := by
  w_on; o_law; k_head; (case hw => w_witness2)
  k_fill
  refine L2.walk_of (l := PySem.Challenge.rw_LID) (n := 63) (k := 40) (x := "script") (CX := fun w => ..) (sp := fun _ => My.sp_law) rfl (by decide) rfl ⟨rfl, by decide, by decide⟩ (fun w h Y => PySem.W.kIn_of Y) ?F ?S ?C
  case F =>
    intro w mg fa h KX G hmg
    have T : ∃ t, My.Txt (L2.KOf KX) t := by
      dsimp only [L2.KOf]                          -- K must stand as «<heap const> w.params» for k_is
      refine' My.txt_mk ?e1 ?e2 ?e3 ..
      (case e1 => PySem.W.k_is)                    -- in the order: a name -> its address -> its object -> its parts
      (case e2 => PySem.W.k_is)
      ..
    obtain ⟨t, T⟩ := T
    have e0 := hmg.symm.trans (PySem.W.mg_of KX G T.law)
    cases e0                                       -- fa is the law's own address
    exact ⟨_, fun s u => .of_eq rfl, fun base kb nb => My.law_fn T kb nb⟩     -- if «.of_eq rfl» comes too early: refine' ⟨_, ?b, fun base kb nb => My.law_fn T kb nb⟩; exact fun s u => .of_eq rfl
  case S => exact fun w H a ns hl hO hS => ..
  case C => exact ..
(the tactic k_is has no namespace: write k_is) -/
namespace L2
open PySem PySem.Spec PyProof.Rows
noncomputable def inClass (s : Stmt) (j : Nat) : Stmt := match s with
  | .ClassDef _ _ _ body _ _ _ _ _ _ _ => body.getD j (.Pass ⟨0, 0, 0, 0⟩)
  | _ => .Pass ⟨0, 0, 0, 0⟩
noncomputable def defArgs (s : Stmt) : Arguments := match s with
  | .FunctionDef _ a _ _ _ _ _ _ _ _ => a
  | _ => { posonlyargs := [], args := [], vararg := none, kwonlyargs := [], kw_defaults := [], kwarg := none, defaults := [] }
noncomputable def defBody (s : Stmt) : List Stmt := match s with
  | .FunctionDef _ _ b _ _ _ _ _ _ _ => b
  | _ => []
noncomputable def defScope (s : Stmt) : Scope := match s with
  | .FunctionDef _ _ _ _ _ _ sc _ _ _ => sc
  | _ => { kind := .function, names := [], isGenerator := false, isCoroutine := false }
noncomputable abbrev CX0 : CXT := fun _ _ _ _ _ _ => False
noncomputable abbrev E0 : XK := fun _ _ _ => False
theorem pass0 {X : Cx} : Passes CX0 X E0 := fun _ _ _ _ _ _ _ h => h.elim
structure Fun (K : PySem.W.Frag) (x qual : Str) (st : Stmt) (f : Addr) (fd : FuncData) : Prop where
  ex : ∃ (oc : Value) (od : Option Addr) (kV doc pm : Value) (an : Option Addr) (cdv ct : Value) (osl : Array (Option Value)),
    fd = PySem.W.fnOf x qual (defArgs st) (defBody st) (defScope st) .none kV doc pm an cdv ct ∧ K.lookup f = some ⟨oc, od, .func fd, osl⟩ ∧ PySem.W.codeIn K cdv qual = true
  kp : PySem.W.keepIn K (.ref f) = true
section
variable {P : Program} {w : World} {K : PySem.W.Frag} {mg : Str → Option Value} {base : Heap}
theorem Fun.ok {x qual : Str} {st : Stmt} {f : Addr} {fd : FuncData} {N ps : List Str} {k : Nat} {sp : Sp} (F : Fun K x qual st f fd) (S : FnScope N ps (defScope st)) (len : ∀ vs H Q E, sp vs H Q E → vs.length = ps.length)
    (hbody : ∀ (cdv : Value) (A : Around) (outer : List Env) (s : Shared) (H : Hp) (vs : List V) (Q : VK) (E : XK), Room k (A.deeper (envOfC qual (defScope st) s.heap.objs.size f cdv)) → sp vs H Q E →
      ∃ t, PSs (cxOf CX0 P w K mg base N qual (defScope st) f cdv A outer s H E).nox (defBody st) t ∧ t { nx := fun _ H' => Q .non H', rt := Q } (start N vs) H) : FnOk P w K mg base CX0 (k + 1) f fd ps sp := by
  obtain ⟨oc, od, kV, doc, pm, an, cdv, ct, osl, rfl, lk, hcd⟩ := F.ex
  refine fn_of lk hcd S len fun A outer s H vs Q E hr hsp => ?_
  obtain ⟨t, h, q⟩ := hbody cdv A outer s H vs Q E hr hsp
  exact ⟨t, h.nox, q⟩
theorem Fun.binds {x qual : Str} {st : Stmt} {f : Addr} {fd : FuncData} {ps : List Str} (F : Fun K x qual st f fd)
    (h : ∀ (kV doc pm : Value) (an : Option Addr) (cdv ct : Value) (us : List Value), us.length = ps.length → bindArgs (PySem.W.fnOf x qual (defArgs st) (defBody st) (defScope st) .none kV doc pm an cdv ct) ⟨us, []⟩ = pure (ps.zip us)) : Binds K fd ps [] := by
  obtain ⟨oc, od, kV, doc, pm, an, cdv, ct, osl, rfl, lk, hcd⟩ := F.ex
  exact .all (h kV doc pm an cdv ct)
theorem fun_mk {x qual : Str} {st : Stmt} {f : Addr} {oc : Value} {od an : Option Addr} {osl : Array (Option Value)} {kV doc pm cdv ct : Value} (l : K.lookup f = some ⟨oc, od, .func (PySem.W.fnOf x qual (defArgs st) (defBody st) (defScope st) .none kV doc pm an cdv ct), osl⟩)
    (c : PySem.W.codeIn K cdv qual = true) (k : PySem.W.keepIn K (.ref f) = true) : Fun K x qual st f (PySem.W.fnOf x qual (defArgs st) (defBody st) (defScope st) .none kV doc pm an cdv ct) := ⟨⟨oc, od, kV, doc, pm, an, cdv, ct, osl, rfl, l, c⟩, k⟩
end
theorem hu_of {A : Around} {k : Nat} (hr : Room k A) : A.units + 1 < cLine := Nat.lt_of_le_of_lt (Nat.add_le_add_left (by decide : 1 ≤ 64) _) hr.units
section
variable {X : Cx}
theorem pv (i : Nat) {x : Str} {pos : Pos} (hN : X.N[i]? = some x := by rfl) (hv : Vis X.env.scope x := by first | exact Or.inl rfl | exact Or.inr (Or.inl rfl) | exact Or.inr (Or.inr rfl)) (hd : (x == ("__debug__" : Str)) = false := by decide)
    (hcd : (x == ("__classdict__" : Str)) = false := by decide) : PE X (.Name x pos) (tVar i) := pe_var hN hv hd hcd
end
theorem ite2 {c A B : Prop} [Decidable c] (h1 : c → A) (h2 : ¬ c → B) : if c then A else B := by
  by_cases h : c
  · rw [if_pos h]
    exact h1 h
  · rw [if_neg h]
    exact h2 h
noncomputable def Same (H H' : Hp) : Prop := ∀ b o, H b = some o → H' b = some o
theorem Same.refl (H : Hp) : Same H H := fun _ _ h => h
theorem Same.trans {H H1 H2 : Hp} (a : Same H H1) (b : Same H1 H2) : Same H H2 := fun c o h => b c o (a c o h)
theorem Same.free {H H' : Hp} (e : Same H H') {l : Addr} (h : H' l = Option.none) : H l = Option.none := by
  cases q : H l with
  | none => rfl
  | some o =>
    rw [e l o q] at h
    cases h
theorem Same.seq {K : PySem.W.Frag} {H H' : Hp} {a : Addr} {xs : List V} (e : Same H H') (h : SqL K H a xs) : SqL K H' a xs := by
  rcases h with (h | ⟨o, h⟩) | h
  · exact .inl (.inl (e _ _ h))
  · exact .inl (.inr ⟨o, e _ _ h⟩)
  · exact .inr h
end L2
namespace L2
open PySem PySem.Spec PyProof.Rows
section
variable {X : Cx}
end
section
variable {κ : Type} [DecidableEq κ]
theorem valV_not {kvs : List (κ × V)} {k : κ} (h : valV kvs k = none) : ¬ k ∈ kvs.map (·.1) := by
  intro m
  obtain ⟨p, hp, e⟩ := List.mem_map.mp m
  have q : (kvs.any fun kv => decide (kv.1 = k)) = true := List.any_eq_true.mpr ⟨p, hp, decide_eq_true e⟩
  rw [valV_any, h] at q
  exact absurd q (by simp)
end
end L2
set_option Elab.async false
set_option linter.all false
set_option maxRecDepth 100000
set_option maxHeartbeats 4000000
namespace L2
open PySem PySem.Spec PyProof.Rows
noncomputable def clGo (cells : List (Str × Addr)) : List (Str × NameKind) → List (Str × Addr) → List (Str × Addr)
  | [], acc => acc
  | (n, k) :: r, acc => clGo cells r (if k == .free then (n, (cells.lookup n).getD 0) :: acc else acc)
theorem clGo_sound {cells : List (Str × Addr)} : ∀ {names : List (Str × NameKind)} {acc : List (Str × Addr)}, (∀ y ∈ names, y.2 = .free → ∃ c, cells.lookup y.1 = some c) → (∀ y c, acc.lookup y = some c → cells.lookup y = some c) →
    ∀ y c, (clGo cells names acc).lookup y = some c → cells.lookup y = some c
  | [], acc, _, h, y, c, e => h y c e
  | (n, k) :: r, acc, hf, h, y, c, e => by
    refine clGo_sound (names := r) (fun z hz => hf z (List.mem_cons_of_mem _ hz)) ?_ y c e
    intro z d q
    by_cases hk : (k == NameKind.free) = true
    · rw [if_pos hk, List.lookup_cons] at q
      obtain ⟨c', hc'⟩ := hf (n, k) List.mem_cons_self (by simpa using hk)
      cases hz : z == n with
      | true =>
        rw [hz] at q
        have hc' : cells.lookup n = some c' := hc'
        have q : some ((cells.lookup n).getD 0) = some d := q
        have : z = n := by simpa using hz
        rw [this, hc']
        rw [hc'] at q
        exact q
      | false =>
        rw [hz] at q
        exact h z d q
    · rw [if_neg hk] at q
      exact h z d q
theorem clGo_has {cells : List (Str × Addr)} : ∀ {names : List (Str × NameKind)} {acc : List (Str × Addr)} {y : Str}, ((y, NameKind.free) ∈ names ∨ ∃ c, acc.lookup y = some c) → ∃ c, (clGo cells names acc).lookup y = some c
  | [], acc, y, h => by
    rcases h with h | h
    · exact absurd h (by simp)
    · exact h
  | (n, k) :: r, acc, y, h => by
    refine clGo_has (names := r) ?_
    rcases h with h | ⟨c, h⟩
    · rcases List.mem_cons.mp h with e | h
      · right
        cases e
        refine ⟨(cells.lookup n).getD 0, ?_⟩
        rw [if_pos (by rfl), List.lookup_cons]
        simp
      · exact .inl h
    · right
      by_cases hk : (k == NameKind.free) = true
      · rw [if_pos hk, List.lookup_cons]
        cases y == n with
        | true => exact ⟨_, rfl⟩
        | false => exact ⟨c, h⟩
      · rw [if_neg hk]
        exact ⟨c, h⟩
theorem closureFor_is {scope : Scope} {env : Env} (h : ∀ y ∈ scope.names, y.2 = .free → ∃ c, env.cells.lookup y.1 = some c) : closureFor scope env = pure (clGo env.cells scope.names []) := by
  have go : ∀ (names : List (Str × NameKind)) (acc : List (Str × Addr)), (∀ y ∈ names, y.2 = .free → ∃ c, env.cells.lookup y.1 = some c) →
      (forIn names acc fun (x : Str × NameKind) r => (if (x.2 == NameKind.free) = true then cellOf env x.1 >>= fun c => pure (ForInStep.yield ((x.1, c) :: r)) else pure (ForInStep.yield r) : Sem (ForInStep (List (Str × Addr))))) = pure (clGo env.cells names acc) := by
    intro names
    induction names with
    | nil => intro acc _; rfl
    | cons x r ih =>
      intro acc hf
      obtain ⟨n, k⟩ := x
      rw [List.forIn_cons]
      dsimp only
      by_cases hk : (k == NameKind.free) = true
      · obtain ⟨c, hc⟩ := hf (n, k) List.mem_cons_self (by simpa using hk)
        have hc : env.cells.lookup n = some c := hc
        have ec : cellOf env n = pure c := by unfold cellOf; rw [hc]
        rw [if_pos hk, ec]
        have := ih ((n, c) :: acc) fun y hy => hf y (List.mem_cons_of_mem _ hy)
        unfold clGo
        rw [if_pos hk, hc]
        exact this
      · rw [if_neg hk]
        have := ih acc fun y hy => hf y (List.mem_cons_of_mem _ hy)
        unfold clGo
        rw [if_neg hk]
        exact this
  have := go scope.names [] h
  unfold closureFor
  first
    | exact this
    | (rw [← this]; rfl)
    | (simp only [bind_pure]; exact this)
noncomputable def blockCx (X : Cx) (scope : Scope) (Nc : List Str) (C : Addr) (s₀ : Shared) (H₀ : Hp) (fp : List Addr) : Cx :=
  { X with N := Nc, s₀ := s₀, H₀ := H₀, env := compEnvC scope (clGo X.env.cells scope.names []) C X.env, outer := X.stack, ex := fp, fn := fun _ => false, pn := [], xe := fun _ _ => False }
structure Block (sc out : Scope) (N : List Str) (x : Str) (frees : List Str) (ix : List Nat) : Prop where
  kind : sc.kind = .function
  outk : out.kind = .function
  len : frees.length = ix.length
  at' : ∀ (j : Nat) (y : Str), frees[j]? = some y → ∃ i : Nat, ix[j]? = some i ∧ N[i]? = some y ∧ out.names.lookup y = some .cell ∧ sc.names.lookup y = some .free
  loc : sc.names.lookup x = some .local
  nocell : ∀ y ∈ sc.names, y.2 ≠ .cell
  locals : ∀ y ∈ sc.names, y.2 = .local → sc.names.lookup y.1 = some .local
  free : ∀ y ∈ sc.names, y.2 = .free → out.names.lookup y.1 = some .cell
  nd : (x :: frees).Nodup
noncomputable def slots (σ : St) (ix : List Nat) : St := ix.map fun i => (σ[i]?).join
noncomputable def tAll : List TT → TT
  | [] => fun _ H Q => Q true H
  | t :: r => fun σ H Q => t σ H fun b H1 => if b = true then tAll r σ H1 Q else Q false H1
noncomputable def tComp (wi : TI) (ix : List Nat) (tc : TT) (te : TE) : TE := fun σ H Q => wi σ H fun J H1 => ∀ acc, H1 acc = none → ∃ W : Nat → Nat → Hp → Prop, (∃ m, W 0 m (upd H1 acc (.lst []))) ∧ ∀ i m H2, W i m H2 →
  (J.stop i H2 ∧ Q (.ref acc) H2) ∨ (J.go i H2 ∧ ∀ x H3, J.yld i H2 x H3 → tc (some x :: slots σ ix) H3 fun b H4 => if b = true then te (some x :: slots σ ix) H4 fun y H5 => ∃ ys, H5 acc = some (.lst ys) ∧ ys.length < sizeLine ∧
    ∃ m', m' < m ∧ W (i + 1) m' (upd H5 acc (.lst (ys ++ [y]))) else ∃ m', m' < m ∧ W (i + 1) m' H4)
theorem lookup_relabel_free {env : Env} (hk : env.scope.kind = .function) : ∀ {names : List (Str × NameKind)} {y : Str}, names.lookup y = some .free → env.kindOf y = some .cell →
    (names.map fun (n, k) => if (k == NameKind.free && env.scope.kind == .function && env.kindOf n == some .cell) then (n, NameKind.cell) else (n, k)).lookup y = some .cell
  | [], _, h, _ => by simp at h
  | (n, k) :: r, y, h, hc => by
    show List.lookup y ((if (k == NameKind.free && env.scope.kind == .function && env.kindOf n == some .cell) = true then (n, NameKind.cell) else (n, k)) :: _) = _
    cases hy : y == n with
    | true =>
      simp only [List.lookup_cons, hy] at h
      have hk' : k = .free := Option.some.inj h
      have : y = n := by simpa using hy
      subst this
      rw [if_pos (by rw [hk', hk, hc]; rfl)]
      simp [List.lookup_cons]
    | false =>
      simp only [List.lookup_cons, hy] at h
      have ih := lookup_relabel_free hk h hc
      split
      · simp only [List.lookup_cons, hy]; exact ih
      · simp only [List.lookup_cons, hy]; exact ih
theorem compLoop_any {prog : Program} {w : World} {A : Around} {R : Result → Shared → Prop} {s : Shared} {elt target iter : Expr} {ifs : List Expr} {scope : Scope} {pos : Pos} {it acc : Value} {env : Env} (I : Nat → Shared → Prop)
    (turn : ∀ n s, I n s → wpAny (model prog w) A (pyNext it) (fun r s₁ => match r with
      | none => R (.ok .next) s₁
      | some v => wpAny (model prog w) A (letOwnedTupleGo target it v) (fun _ s₁ => wpAny (model prog w) A (assign target env v) (fun _ s₂ =>
          wpAny (model prog w) A (forIn ifs true fun c r => if r = true then do let ok ← isTrue c env (eval c env); pure (ForInStep.yield ok) else pure (ForInStep.yield r)) (fun ok s₃ =>
            if ok = true then wpAny (model prog w) A (eval elt env) (fun x s₄ =>
              wpAny (model prog w) A (call (.builtin "list.append") [acc, x]) (fun _ s₅ => ∃ m, m < n ∧ I m s₅) (notedBy (model prog w) A env fun e s' => R (.error e) s') s₄) (notedBy (model prog w) A env fun e s' => R (.error e) s') s₃
            else ∃ m, m < n ∧ I m s₃) (notedBy (model prog w) A env fun e s' => R (.error e) s') s₂) (notedBy (model prog w) A env fun e s' => R (.error e) s') s₁) (notedBy (model prog w) A env fun e s' => R (.error e) s') s₁) (notedBy (model prog w) A env fun e s' => R (.error e) s') s)
    (n : Nat) (h : I n s) : codeAny (model prog w) A (.compLoop (.ListComp elt [⟨target, iter, ifs, 0⟩] scope pos) 0 it acc env) R s := by
  refine codeAny_loop rfl I (fun n s hI => ?_) n h
  show wpAny _ A ((compTurn (.ListComp elt [⟨target, iter, ifs, 0⟩] scope pos) 0 it acc env).onRaise (fun x => do noteFrame x env; theTreesLotGoes x)) _ _ s
  refine wpAny_noted ?_
  rw [compTurn_list]
  refine wpAny_bind (wpAny_standAt (wpAny_bind (wpAny_mono (turn n s hI) (fun r s₁ h₁ => ?_) fun _ _ h' => h')))
  cases r with
  | none => exact wpAny_pure h₁
  | some v =>
    refine wpAny_bind (wpAny_mono h₁ (fun _ s₁' h₁' => ?_) fun _ _ h' => h')
    refine wpAny_bind (wpAny_mono h₁' (fun _ s₂ h₂ => wpAny_bind (wpAny_mono h₂ (fun ok s₃ h₃ => ?_) fun _ _ h' => h')) fun _ _ h' => h')
    cases ok with
    | false => exact wpAny_pure ⟨rfl, h₃⟩
    | true =>
      exact wpAny_bind (wpAny_bind (wpAny_mono h₃ (fun x s₄ h₄ => wpAny_bind (wpAny_mono h₄ (fun _ s₅ h₅ => wpAny_pure (wpAny_pure ⟨rfl, h₅⟩)) fun _ _ h' => h')) fun _ _ h' => h'))
section
variable {X : Cx} {x : Str} {px pos : Pos} {elt iter : Expr} {ifs : List Expr} {scope : Scope} {frees : List Str} {ix : List Nat} {wi : TI} {tc : TT} {te : TE}
noncomputable def PTs (X : Cx) (ifs : List Expr) (t : TT) : Prop :=
  ∀ (pins : List (Addr × Obj)) (s : Shared) (σ : St) (H : Hp) (Q : Bool → Hp → Prop), Inv X pins σ H s → t σ H Q →
    wpAny (model X.prog X.w) X.A (forIn ifs true fun c r => if r = true then do let ok ← isTrue c X.env (eval c X.env); pure (ForInStep.yield ok) else pure (ForInStep.yield r)) (TP X pins σ Q) X.xe s
noncomputable def tYes : TT := fun _ H Q => Q true H
theorem pts_nil : PTs X [] tYes := fun pins s σ H Q I h => wpAny_pure ⟨H, I, h⟩
structure Apart (X : Cx) (pins : List (Addr × Obj)) (H : Hp) (C : Addr) : Prop where
  none : H C = none
  loc : C ≠ X.env.locals
  new : X.s₀.heap.objs.size ≤ C
  cell : ∀ x c, X.env.cells.lookup x = some c → c ≠ C
  pin : ∀ p ∈ X.pn ++ pins, p.1 ≠ C
theorem Inv.apart {pins : List (Addr × Obj)} {σ : St} {H H' : Hp} {s : Shared} {C : Addr} (I : Inv X pins σ H s) (h : s.heap.objs.size ≤ C) (n : H' C = none) : Apart X pins H' C := by
  have f := I.fpOk h n
  exact ⟨f.1, f.2.1, Nat.le_trans I.sz h, f.2.2.2.2.1, f.2.2.2.2.2⟩
theorem comp_run {pins : List (Addr × Obj)} {s₂ : Shared} {σ : St} {H₁ : Hp} {it : Addr} {fp : List Addr} {tn : Nat → Heap → Prop} {J : It} {RR : Value → Addr → Result → Shared → Prop} {E : Value → Shared → Prop} {KK : Addr → Hp → Prop}
    (B : Block scope X.env.scope X.N x frees ix) (hc : X.calm = true) (ht : ∀ C s₀ H₀ fp, PTs (blockCx X scope (x :: frees) C s₀ H₀ fp) ifs tc) (he : ∀ C s₀ H₀ fp, PE (blockCx X scope (x :: frees) C s₀ H₀ fp) elt te)
    (I₂ : Inv X pins σ H₁ s₂) (T : Turn X.prog X.w X.K (.Name x px) J fp it tn) (st₂ : tn 0 s₂.heap) (f₂ : ∀ b ∈ fp, FpOk X pins H₁ b)
    (q : ∀ acc, H₁ acc = none → ∃ W : Nat → Nat → Hp → Prop, (∃ m, W 0 m (upd H₁ acc (.lst []))) ∧ ∀ i m H2, W i m H2 →
      (J.stop i H2 ∧ KK acc H2) ∨ (J.go i H2 ∧ ∀ y H3, J.yld i H2 y H3 → tc (some y :: slots σ ix) H3 fun b H4 => if b = true then te (some y :: slots σ ix) H4 fun z H5 => ∃ ys, H5 acc = some (.lst ys) ∧ ys.length < sizeLine ∧
        ∃ m', m' < m ∧ W (i + 1) m' (upd H5 acc (.lst (ys ++ [z]))) else ∃ m', m' < m ∧ W (i + 1) m' H4))
    (hRR : ∀ acc C s' H', Inv X pins σ H' s' → KK acc H' → (∃ m, s'.heap.Ns C m) → Apart X pins H' C → RR (.ref acc) C (.ok .next) s') :
    wpAny (model X.prog X.w) X.A (newList []) (fun acc s₃ => wpAny (model X.prog X.w) X.A (newFunctionEnv scope X.env.globals (clGo X.env.cells scope.names []) [] X.env.qual none .none (some X.env)) (fun cenv s₄ =>
      codeAny (model X.prog X.w) X.A (.compStart (.ListComp elt [⟨.Name x px, iter, ifs, 0⟩] scope pos) 0 (.ref it) acc { cenv with scope := relabel scope X.env }) (RR acc cenv.locals) s₄) E s₃) E s₂ := by
  have frs_ok : ∀ y ∈ scope.names, y.2 = .free → ∃ c, X.env.cells.lookup y.1 = some c := fun y hy hk => I₂.ok.has y.1 (.inl (B.free y hy hk))
  have sound : ∀ y c, (clGo X.env.cells scope.names []).lookup y = some c → X.env.cells.lookup y = some c := clGo_sound frs_ok fun y c h => by simp at h
  refine wpAny_newObj_type ?_
  have hacc : H₁ s₂.heap.objs.size = none := I₂.hok.fresh (Nat.le_refl _)
  obtain ⟨W, ⟨m0, w0⟩, turn⟩ := q _ hacc
  have I₃ : Inv X pins σ (upd H₁ s₂.heap.objs.size (.lst [])) { s₂ with heap := s₂.heap.push { cls := .type "list", data := .seq ([] : List Value).toArray } } :=
    I₂.laid (t' := s₂.toks) (fun b u e => Heap.get?_push_of_some _ e) (Nat.le_refl _) ⟨Nat.zero_le _, [], 0, .nil, Heap.get?_push_size _ rfl⟩
  have f₃ : ∀ b ∈ fp, FpOk X pins (upd H₁ s₂.heap.objs.size (.lst [])) b := fun b hb => by
    obtain ⟨o, ho, _⟩ := T.obj 0 _ st₂ b hb
    have := f₂ b hb
    exact ⟨by rw [upd_ne (Nat.ne_of_lt (Heap.lt_size ho))]; exact this.1, this.2⟩
  have st₃ : tn 0 (s₂.heap.push { cls := .type "list", data := .seq ([] : List Value).toArray }) := T.keep 0 _ _ st₂ fun b hb o e => Heap.get?_push_of_some _ e
  generalize hs3 : ({ s₂ with heap := s₂.heap.push { cls := .type "list", data := .seq ([] : List Value).toArray } } : Shared) = s₃ at I₃
  have st₃ : tn 0 s₃.heap := by rw [← hs3]; exact st₃
  generalize s₂.heap.objs.size = acc at *
  show wpAny _ _ _ _ _ s₃
  generalize upd H₁ acc (.lst []) = H₃ at *
  refine wpAny_newFunctionEnv B.nocell (by intro y hy; simp at hy) (fun h₄ ns₄ sb₄ => ?_) B.kind
  try dsimp only at ns₄ sb₄ ⊢
  have keep₄ : ∀ b o, s₃.heap.get? b = some o → h₄.get? b = some o := fun b o e => (sb₄.2 b (Nat.ne_of_lt (Heap.lt_size e))).trans (Heap.get?_push_of_some _ e)
  have st₄ : tn 0 h₄ := T.keep 0 _ _ st₃ fun b hb o e => keep₄ b o e
  have freshC : H₃ s₃.heap.objs.size = none := I₃.hok.fresh (Nat.le_refl _)
  have objs : ∀ b ∈ fp, b < s₃.heap.objs.size := fun b hb => by
    obtain ⟨o, ho, _⟩ := T.obj 0 _ st₃ b hb
    exact Heap.lt_size ho
  have stk : ∀ b ∈ fp, b ∉ frs X.stack := fun b hb z => by
    have f := f₃ b hb
    rcases List.mem_cons.mp (I₃.stkSub b z) with e | e
    · exact f.2.1 e
    · exact f.2.2.1 e
  have Ok : (blockCx X scope (x :: frees) s₃.heap.objs.size s₃ H₃ fp).Ok := by
    refine ⟨I₃.ok.mod, B.kind, I₃.ok.glob, I₃.ok.blt, Nat.le_refl _, fun y z c h1 h2 => I₃.ok.inj y z c (sound y c h1) (sound z c h2), fun y hy => ?_, fun y c h => (nomatch h), I₃.ok.hd, I₃.ok.frames, .inl rfl,
      fun b hb => ⟨Nat.ne_of_lt (objs b hb), fun y c h => (f₃ b hb).2.2.2.2.1 y c (sound y c h)⟩, I₃.bs, Nat.le_trans I₃.ok.bsz I₃.sz, fun b o e hb => ?_, stk, I₃.stack, I₃.stkFree⟩
    · have hy : (relabel scope X.env).names.lookup y = some .cell ∨ (relabel scope X.env).names.lookup y = some .free := hy
      refine clGo_has (.inl ?_)
      have mem : ∃ k, (k = .cell ∨ k = .free) ∧ (y, k) ∈ (relabel scope X.env).names := by
        rcases hy with q | q
        · exact ⟨_, .inl rfl, PySem.mem_of_lookup q⟩
        · exact ⟨_, .inr rfl, PySem.mem_of_lookup q⟩
      obtain ⟨k, hk, hm⟩ := mem
      obtain ⟨⟨n, k0⟩, h0, e⟩ := List.mem_map.mp hm
      have nc := B.nocell (n, k0) h0
      dsimp only at e
      split at e
      · rename_i hh
        cases e
        have : (k0 == NameKind.free) = true := by
          cases hq : (k0 == NameKind.free) with
          | true => rfl
          | false => rw [hq] at hh; simp at hh
        have : k0 = .free := by simpa using this
        rw [this] at h0
        exact h0
      · cases e
        rcases hk with hk | hk
        · exact absurd hk nc
        · rw [hk] at h0; exact h0
    · rcases (f₃ b hb).2.2.2.1 with z | z
      · exact I₃.ok.noex b o e z
      · exact absurd (Nat.lt_of_lt_of_le (Heap.lt_size e) (Nat.le_trans I₃.ok.bsz z)) (Nat.lt_irrefl _)
  have Ic : Inv (blockCx X scope (x :: frees) s₃.heap.objs.size s₃ H₃ fp) [] (none :: slots σ ix) H₃ { s₃ with heap := h₄, toks := s₃.toks + ([] : List (Str × Value)).length } := by
    refine ⟨Ok, rfl, I₃.bare, Un.kept keep₄, ⟨_, ns₄, fun i y v e1 e2 e3 => ?_⟩, fun y c h => ?_, freshC, fun y c h => I₃.freeC y c (sound y c h), fun p hp => absurd (show p ∈ ([] : List (Addr × Obj)) from hp) (by simp), I₃.hok.kept keep₄, ?_⟩
    · cases i with
      | zero => cases e2
      | succ j =>
        have e1 : frees[j]? = some y := e1
        have e2 : (slots σ ix)[j]? = some (some v) := e2
        obtain ⟨i, hi, hN, hk, hf⟩ := B.at' j y e1
        have hv : σ[i]? = some (some v) := by
          unfold slots at e2
          rw [List.getElem?_map, hi] at e2
          have e2 : some ((σ[i]?).join) = some (some v) := e2
          have e2 := Option.some.inj e2
          cases q : σ[i]? with
          | none => rw [q] at e2; cases e2
          | some o => rw [q] at e2; exact congrArg some e2
        obtain ⟨m, hn, hl⟩ := I₃.loc
        obtain ⟨u, ru, lu⟩ := hl i y v hN hv (.inr (.inl hk))
        refine ⟨u, ru, .inr ⟨.inl ?_, ?_⟩⟩
        · exact lookup_relabel_free B.outk hf hk
        · rcases lu with ⟨k, _⟩ | ⟨_, c, hc', z⟩
          · exact absurd (show some NameKind.cell = some NameKind.local from hk.symm.trans k) (by decide)
          · obtain ⟨c', hc''⟩ := clGo_has (cells := X.env.cells) (acc := []) (.inl (PySem.mem_of_lookup hf))
            have q := sound y c' hc''
            rw [hc'] at q
            cases q
            obtain ⟨o, ho, hd⟩ := z
            exact ⟨c, hc'', o, keep₄ c o ho, hd⟩
    · obtain ⟨v, o, ho, hd⟩ := I₃.cell y c (sound y c h)
      exact ⟨v, o, keep₄ c o ho, hd⟩
    · show (none :: slots σ ix).length = (x :: frees).length
      rw [List.length_cons, List.length_cons, slots, List.length_map, B.len]
  have fpc : ∀ {H' : Hp} {pl : List (Addr × Obj)}, (∀ p ∈ pl, p.1 ∉ fp) → (∀ b ∈ fp, H' b = none) → ∀ b ∈ fp, FpOk (blockCx X scope (x :: frees) s₃.heap.objs.size s₃ H₃ fp) pl H' b := fun hp hn b hb =>
    ⟨hn b hb, Nat.ne_of_lt (objs b hb), stk b hb, .inl hb, fun y c h => (f₃ b hb).2.2.2.2.1 y c (sound y c h), fun p hpl z => hp p hpl (z ▸ hb)⟩
  have hxl : Loc (blockCx X scope (x :: frees) s₃.heap.objs.size s₃ H₃ fp).env.scope x := .inl (lookup_relabel_local B.loc)
  have loop : codeAny (model X.prog X.w) X.A (.compLoop (.ListComp elt [⟨.Name x px, iter, ifs, 0⟩] scope pos) 0 (.ref it) (.ref acc) (blockCx X scope (x :: frees) s₃.heap.objs.size s₃ H₃ fp).env) (RR (.ref acc) s₃.heap.objs.size)
      { s₃ with heap := h₄, toks := s₃.toks + ([] : List (Str × Value)).length } := by
    refine compLoop_any (fun n s' => ∃ i H', Inv (blockCx X scope (x :: frees) s₃.heap.objs.size s₃ H₃ fp) [] (none :: slots σ ix) H' s' ∧ tn i s'.heap ∧ (∀ b ∈ fp, H' b = none) ∧ W i n H') ?_ m0 ⟨0, H₃, Ic, st₄, fun b hb => (f₃ b hb).1, w0⟩
    rintro n s' ⟨i, H', I', st', fr', w'⟩
    rcases turn i n H' w' with ⟨stop, kk⟩ | ⟨go, step⟩
    · refine thn (T.done (blockCx X scope (x :: frees) s₃.heap.objs.size s₃ H₃ fp) rfl rfl rfl hc i [] s' _ H' _ I' (fpc (by simp) fr') st' stop) fun r s1 ⟨hr, I1⟩ => ?_
      subst hr
      obtain ⟨m, hn, _⟩ := I1.loc
      exact hRR acc _ s1 H' (I₃.call' (ch := fp) I1.os I1.base I1.hok I1.bare fun b hb => ⟨(f₃ b hb).2.2.2.1, (f₃ b hb).2.1, (f₃ b hb).2.2.2.2.1, (f₃ b hb).2.2.2.2.2⟩) kk ⟨m, hn⟩ (I₃.apart (Nat.le_refl _) I1.free)
    · refine thn (T.item (blockCx X scope (x :: frees) s₃.heap.objs.size s₃ H₃ fp) rfl rfl rfl hc i [] s' _ H' _ I' (fpc (by simp) fr') st' go) fun r s1 ⟨u, hr, h1⟩ => ?_
      subst hr
      refine thn h1 fun _ s2 ⟨v, H2, I2, rv, yv, st2, fr2⟩ => ?_
      have I2' := I2.pinned (fpc (by simp) fr2) (T.obj _ _ st2)
      have nofail : ∀ {α : Type} {t : Sem α} {Q : α → Shared → Prop} {E' : Value → Shared → Prop} {s : Shared}, wpAny (model X.prog X.w) X.A t Q (fun _ _ => False) s → wpAny (model X.prog X.w) X.A t Q E' s := fun h => wpAny_mono h (fun _ _ x => x) fun _ _ f => f.elim
      refine wpAny_assign_Name (store_ok (X := blockCx X scope (x :: frees) s₃.heap.objs.size s₃ H₃ fp) (i := 0) I2' B.nd rfl hxl rv (fun s3 I3 => ?_) (.inr (lookup_relabel_local B.loc)))
      refine nofail (thn (ht s₃.heap.objs.size s₃ H₃ fp _ s3 (some v :: slots σ ix) H2 _ I3 (step v H2 yv)) fun b s4 ⟨H4, I4, q4⟩ => ?_)
      have again : ∀ {σ7 : St} {H7 : Hp} {s7 : Shared} {k : Nat}, Inv (blockCx X scope (x :: frees) s₃.heap.objs.size s₃ H₃ fp) ([] ++ pinsAt fp s2.heap) (some v :: slots σ ix) H7 s7 → k < n → W (i + 1) k H7 →
          ∃ m, m < n ∧ ∃ i H', Inv (blockCx X scope (x :: frees) s₃.heap.objs.size s₃ H₃ fp) [] (none :: slots σ ix) H' s7 ∧ tn i s7.heap ∧ (∀ b ∈ fp, H' b = none) ∧ W i m H' := fun {σ7 H7 s7 k} I7 hk w7 => by
        refine ⟨k, hk, i + 1, H7, I7.unpinned.weak rfl (fun j z e => ?_), T.keep _ _ _ st2 fun b hb o e => (I7.pin (b, o) (List.mem_append_right _ (List.mem_append_right _ (mem_pinsAt hb e)))).1, fun b hb => ?_, w7⟩
        · cases j with
          | zero => cases e
          | succ j => exact e
        · obtain ⟨o, e, d⟩ := T.obj _ _ st2 b hb
          exact (I7.pin (b, o) (List.mem_append_right _ (List.mem_append_right _ (mem_pinsAt hb e)))).2.1
      cases b with
      | false =>
        rw [if_neg Bool.false_ne_true] at q4 ⊢
        obtain ⟨m', hm, w4⟩ := q4
        exact again (σ7 := []) I4 hm w4
      | true =>
        rw [if_pos rfl] at q4 ⊢
        refine nofail (thn (he s₃.heap.objs.size s₃ H₃ fp _ s4 (some v :: slots σ ix) H4 _ I4 q4) fun ue s5 ⟨z, H5, I5, r5, ys, hys, hlt, m', hm, w5⟩ => ?_)
        refine nofail (thn (mt_append (X := blockCx X scope (x :: frees) s₃.heap.objs.size s₃ H₃ fp) _ s5 _ H5 (.ref acc) [z] (.ref acc) [ue] (fun _ H6 => H6 = upd H5 acc (.lst (ys ++ [z]))) I5 rfl (.cons r5 .nil) ⟨acc, ys, z, rfl, rfl, hys, hlt, rfl⟩) fun _ s6 ⟨_, H6, I6, _, e6⟩ => ?_)
        subst e6
        exact again (σ7 := []) I6 hm w5
  exact codeAny_compStart_list loop (T.self X.A 0 _ _ _ st₄ loop)
noncomputable def EnvOk (X : Cx) (scope : Scope) (x : Str) (frees : List Str) (ix : List Nat) : Prop := Block scope X.env.scope X.N x frees ix
theorem pe_comp (B : Block scope X.env.scope X.N x frees ix) (hc : X.calm = true) (hi : PI X (.Name x px) iter wi) (ht : ∀ C s₀ H₀ fp, PTs (blockCx X scope (x :: frees) C s₀ H₀ fp) ifs tc) (he : ∀ C s₀ H₀ fp, PE (blockCx X scope (x :: frees) C s₀ H₀ fp) elt te)
    (hs : ∀ y, foldedSetIterable iter X.env y = pure y := by intro _; rfl) : PE X (.ListComp elt [⟨.Name x px, iter, ifs, 0⟩] scope pos) (tComp wi ix tc te) := by
  intro pins s σ H Q I h
  rw [eval_ListComp]
  refine wpAny_comprehension_free (use := none) rfl hs (closureFor_is fun y hy hk => I.ok.has y.1 (.inl (B.free y hy hk))) B.kind B.locals (thn (hi pins s σ H _ I h) fun v s1 h1 => thn h1 fun itv s2 h2 => ?_)
  obtain ⟨it, fp, tn, J, H2, e, I2, T, st2, f2, q⟩ := h2
  subst e
  refine comp_run (KK := fun acc H' => Q (.ref acc) H') B hc ht he I2 T st2 f2 q fun acc C s' H' I' k hn ap => ?_
  obtain ⟨m, hn⟩ := hn
  exact ⟨m, hn, fun h' sb => ⟨.ref acc, H', I'.turned (it := C) (t' := s'.toks) (fun b o hb e => (sb.2 b hb).trans e) ap.none ap.loc (.inr ap.new) ap.cell ap.pin, rfl, k⟩⟩
theorem ps_comp {i : Nat} {y : Str} {py spos : Pos} (B : Block scope X.env.scope X.N x frees ix) (hc : X.calm = true) (hN : X.N.Nodup) (hy : X.N[i]? = some y) (hl : X.env.scope.names.lookup y = some .local)
    (hi : PI X (.Name x px) iter wi) (ht : ∀ C s₀ H₀ fp, PTs (blockCx X scope (x :: frees) C s₀ H₀ fp) ifs tc) (he : ∀ C s₀ H₀ fp, PE (blockCx X scope (x :: frees) C s₀ H₀ fp) elt te)
    (hsw : swapsWith (.ListComp elt [⟨.Name x px, iter, ifs, 0⟩] scope pos) (some (.Name y py)) spos.line X.env = pure true := by rfl)
    (hs : ∀ z, foldedSetIterable iter X.env z = pure z := by intro _; rfl) :
    PS X (.Assign [.Name y py] (.ListComp elt [⟨.Name x px, iter, ifs, 0⟩] scope pos) spos) (fun D σ H => tComp wi ix tc te σ H fun v H1 => D.nx (σ.set i (some v)) H1) := by
  intro pins s σ H D I h
  rw [exec_Assign_Name_used _ _ _ _ hsw]
  refine wpAny_bind (wpAny_standAt (wpAny_bind ?_))
  show wpAny _ X.A (do let _ ← comprehension (.ListComp elt [⟨.Name x px, iter, ifs, 0⟩] scope pos) scope X.env _ (newList []) false (eval iter X.env) (some (assign (.Name y py) X.env))) _ _ s
  refine wpAny_bind (wpAny_mono (wpAny_comprehension_free (use := some (assign (.Name y py) X.env)) (Q := fun _ s' => SP X pins D .next s') rfl hs (closureFor_is fun z hz hk => I.ok.has z.1 (.inl (B.free z hz hk))) B.kind B.locals
    (thn (hi pins s σ H _ I h) fun v s1 h1 => thn h1 fun itv s2 h2 => ?_)) (fun _ s' hq => wpAny_pure (wpAny_pure hq)) fun _ _ e => e)
  obtain ⟨it, fp, tn, J, H2, e, I2, T, st2, f2, q⟩ := h2
  subst e
  refine comp_run (KK := fun acc H' => D.nx (σ.set i (some (.ref acc))) H') B hc ht he I2 T st2 f2 q fun acc C s' H' I' k hn ap => ?_
  obtain ⟨m, hn⟩ := hn
  show wpAny _ X.A (assign (.Name y py) X.env (.ref acc)) _ _ _
  refine wpAny_assign_Name (store_ok2 I' hN hy (.inl hl) (v := .ref acc) rfl (fun s'' I'' ch => ?_) (.inr hl))
  obtain ⟨a, sb, ha⟩ := ch
  have hCa : C ≠ a := fun z => by
    rcases ha with ha | ha
    · exact ap.loc (z.trans ha)
    · exact ap.cell y a ha z.symm
  exact ⟨m, hn.sameBut sb hCa, fun h' sb' => ⟨_, H', I''.turned (it := C) (t' := s''.toks) (fun b o hb e => (sb'.2 b hb).trans e) ap.none ap.loc (.inr ap.new) ap.cell ap.pin, k⟩⟩
end
end L2
set_option Elab.async false
set_option linter.all false
set_option maxRecDepth 100000
set_option maxHeartbeats 4000000
namespace L2
open PySem PySem.Spec PyProof.Rows
structure Callee (P : Program) (w : World) (K : PySem.W.Frag) (mg : Str → Option Value) (base : Heap) (x : Str) (k : Nat) (ps : List Str) (sp : Sp) : Prop where
  ex : ∃ f fd, mg x = some (.ref f) ∧ PySem.W.keepIn K (.ref f) = true ∧ Binds K fd ps [] ∧ FnOk P w K mg base CX0 k f fd ps sp
theorem pe_callC {X : Cx} {x : Str} {k n : Nat} {ps : List Str} {sp : Sp} {e : Expr} {es : List Expr} {t : TA} {p pos : Pos} (C : Callee X.prog X.w X.K X.mg X.base x k ps sp) (hr : Room n X.A) (hk : k ≤ n) (hg : Gl X x) (ha : PA X (e :: es) t)
    (hdb : (x == ("__debug__" : Str)) = false := by decide) (he : starEach (e :: es) X.env = (false, eval e X.env) :: starEach es X.env := by rfl) (hpl : (backTo pos (starEach es X.env)).any (·.1) = false := by rfl) :
    PE X (.Call (.Name x p) (e :: es) [] pos) (tCall sp [] E0 t) := by
  obtain ⟨f, fd, hm, hkp, hb, F⟩ := C.ex
  exact pe_call (F.mono hk) hr hg hm hkp hb .nil pass0 ha hdb he hpl
structure HasDef (K : PySem.W.Frag) (mg : Str → Option Value) (x : Str) (st : Stmt) : Prop where
  ex : ∃ f fd, Fun K x x st f fd ∧ mg x = some (.ref f)
theorem hasDef {K : PySem.W.Frag} {h : Heap} {mg : Str → Option Value} {x : Str} {st : Stmt} {f : Addr} {oc : Value} {od an : Option Addr} {osl : Array (Option Value)} {kV doc pm cdv ct : Value} (X : K.In h) (G : h.Ns mainGlobals mg)
    (a : PySem.W.nsIn K mainGlobals x = some (some (.ref f))) (l : K.lookup f = some ⟨oc, od, .func (PySem.W.fnOf x x (defArgs st) (defBody st) (defScope st) .none kV doc pm an cdv ct), osl⟩)
    (c : PySem.W.codeIn K cdv x = true) (k : PySem.W.keepIn K (.ref f) = true) : HasDef K mg x st := ⟨f, _, fun_mk l c k, PySem.W.mg_of X G a⟩
theorem HasDef.ok {P : Program} {w : World} {K : PySem.W.Frag} {mg : Str → Option Value} {base : Heap} {x : Str} {st : Stmt} {N ps : List Str} {n : Nat} {sp : Sp} (D : HasDef K mg x st) (S : FnScope N ps (defScope st))
    (hb : ∀ (kV doc pm : Value) (an : Option Addr) (cdv ct : Value) (us : List Value), us.length = ps.length → bindArgs (PySem.W.fnOf x x (defArgs st) (defBody st) (defScope st) .none kV doc pm an cdv ct) ⟨us, []⟩ = pure (ps.zip us))
    (len : ∀ vs H Q E, sp vs H Q E → vs.length = ps.length)
    (hbody : ∀ (f : Addr) (cdv : Value) (A : Around) (outer : List Env) (s : Shared) (H : Hp) (vs : List V) (Q : VK) (E : XK), Room n (A.deeper (envOfC x (defScope st) s.heap.objs.size f cdv)) → sp vs H Q E →
      ∃ t, PSs (cxOf CX0 P w K mg base N x (defScope st) f cdv A outer s H E).nox (defBody st) t ∧ t { nx := fun _ H' => Q .non H', rt := Q } (start N vs) H) : Callee P w K mg base x (n + 1) ps sp := by
  obtain ⟨f, fd, F, hm⟩ := D.ex
  exact ⟨f, fd, hm, F.kp, F.binds hb, F.ok S len fun cdv A outer s H vs Q E hr h => hbody f cdv A outer s H vs Q E hr h⟩
theorem Callee.imp {P : Program} {w : World} {K : PySem.W.Frag} {mg : Str → Option Value} {base : Heap} {x : Str} {k : Nat} {ps : List Str} {sp sp' : Sp} (C : Callee P w K mg base x k ps sp) (h : ∀ vs H Q E, sp' vs H Q E → sp vs H Q E) : Callee P w K mg base x k ps sp' := by
  obtain ⟨f, fd, hm, hkp, hb, F⟩ := C.ex
  exact ⟨f, fd, hm, hkp, hb, F.imp h⟩
noncomputable def GInt (mg : Str → Option Value) (x : Str) (n : Int) : Prop := ∃ t, mg x = some (.int n t)
noncomputable def GTup (K : PySem.W.Frag) (mg : Str → Option Value) (x : Str) (xs : List V) : Prop := ∃ a, mg x = some (.ref a) ∧ ∀ H : Hp, SqT K H a xs
theorem pe_globI {X : Cx} {x : Str} {n : Int} {pos : Pos} (h : GInt X.mg x n) (hg : Gl X x := by rfl) (hd : (x == ("__debug__" : Str)) = false := by decide) : PE X (.Name x pos) (tC (.int n)) := by
  obtain ⟨t, hm⟩ := h
  exact pe_glob hg hm ⟨t, rfl⟩ hd
noncomputable def tGT (K : PySem.W.Frag) (xs : List V) : TE := fun _ H Q => ∀ a, (∀ H, SqT K H a xs) → Q (.ref a) H
theorem pe_globT {X : Cx} {x : Str} {xs : List V} {pos : Pos} (h : GTup X.K X.mg x xs) (hg : Gl X x := by rfl) (hd : (x == ("__debug__" : Str)) = false := by decide) : PE X (.Name x pos) (tGT X.K xs) := by
  obtain ⟨a, hm, hs⟩ := h
  intro pins s σ H Q I q
  exact pe_glob hg hm (v := .ref a) rfl hd pins s σ H Q I (q a hs)
theorem glob_int {K : PySem.W.Frag} {h : Heap} {mg : Str → Option Value} {x : Str} {n : Int} {t : Tok} (X : K.In h) (G : h.Ns mainGlobals mg) (a : PySem.W.nsIn K mainGlobals x = some (some (.int n t))) : GInt mg x n := ⟨t, PySem.W.mg_of X G a⟩
theorem glob_tup {K : PySem.W.Frag} {h : Heap} {mg : Str → Option Value} {x : Str} {a : Addr} {d : Option Addr} {its : Array Value} {n : Nat} {sl : Array (Option Value)} {xs : List V} (X : K.In h) (G : h.Ns mainGlobals mg)
    (e : PySem.W.nsIn K mainGlobals x = some (some (.ref a))) (l : K.lookup a = some ⟨.type "tuple", d, .seq its n, sl⟩) (v : Vals xs its.toList) (z : its.size ≤ sizeLine) : GTup K mg x xs :=
  ⟨a, PySem.W.mg_of X G e, fun H => .inr ⟨_, its, n, l, rfl, rfl, z, v⟩⟩
noncomputable def spLaw (K : PySem.W.Frag) : Sp := fun vs H Q _ => ∃ (a : Addr) (ns : List Int), vs = [.ref a] ∧ SqL K H a (ns.map V.int) ∧ ns.length ≤ 63 ∧ ∀ H', Q (.bl true) H'
noncomputable def cell (ns : List Int) (k : Nat) : Int := ns.getD k 0
noncomputable def spCell (K : PySem.W.Frag) : Sp := fun vs H Q _ => ∃ (a : Addr) (ns : List Int) (k : Nat), vs = [.ref a, .int k] ∧ SqL K H a (ns.map V.int) ∧ Q (.int (cell ns k)) H
theorem law_walk {l : PySem.W.OpenLaw} {q : Program} {loose : List Str} {XP : (Str → Option Value) → Heap → Prop} {YP : World → Heap → Prop} {d : DefRec} {K : Params → PySem.W.Frag} {k : Nat} {st : Stmt} (hr : Room k callerA) (hn : l.most = some 63) (hdf : d.params.defaults = []) (hdn : d.name = "law")
    (hb : ∀ (kV doc pm : Value) (an : Option Addr) (cdv ct : Value) (u : Value), bindArgs (PySem.W.fnOf "law" "law" (defArgs st) (defBody st) (defScope st) .none kV doc pm an cdv ct) ⟨[u], []⟩ = pure [(("script" : Str), u)])
    (hY : ∀ (w : World) (h : Heap), YP w h → (K w.params).In h)
    (F : ∀ (w : World) (mg : Str → Option Value) (h : Heap), (K w.params).In h → h.Ns mainGlobals mg → HasDef (K w.params) mg "law" st ∧
      ∀ (base : Heap) (f : Addr) (fd : FuncData), Fun (K w.params) "law" "law" st f fd → FnOk l.prog w (K w.params) mg base CX0 k f fd ["script"] (spLaw (K w.params))) :
    PySem.W.WalkO q loose XP YP l.row.toRowW d [] (fun f vs => PySem.call f vs) := by
  refine walk_ofK (n := 63) (k := k) (x := "script") (CX := CX0) (sp := spLaw) hn (by decide) hdf hr hY (fun w mg fa h KX G hmg => ?_) (fun K H a ns hl _ hS => ⟨a, ns, rfl, hS, hl, fun _ => rfl⟩) (fun _ _ _ _ z => z)
  obtain ⟨D, ok⟩ := F w mg h KX G
  obtain ⟨f, fd, Fn, hm⟩ := D.ex
  rw [hdn, hm] at hmg
  cases hmg
  refine ⟨fd, fun s u => ?_, fun base _ _ => ok base _ fd Fn⟩
  obtain ⟨oc, od, kV, doc, pm, an, cdv, ct, osl, rfl, lk, hcd⟩ := Fn.ex
  exact .of_eq (hb kV doc pm an cdv ct u)
theorem bt_int : bootBuiltins "int" = some (.type "int") := by decide +kernel
theorem bt_list : bootBuiltins "list" = some (.type "list") := by decide +kernel
theorem bt_len : bootBuiltins "len" = some (.builtin "len") := by decide +kernel
theorem bt_isinstance : bootBuiltins "isinstance" = some (.builtin "isinstance") := by decide +kernel
theorem bt_min : bootBuiltins "min" = some (.builtin "min") := by decide +kernel
section
variable {CX : CXT} {P : Program} {w : World} {K : PySem.W.Frag} {mg : Str → Option Value} {base : Heap} {N : List Str} {qual : Str} {scope : Scope} {f : Addr} {cd : Value} {A : Around} {outer : List Env} {s : Shared} {H : Hp} {E : XK}
theorem cxK : (cxOf CX P w K mg base N qual scope f cd A outer s H E).K = K := rfl
theorem bkK {X : Cx} {Nc : List Str} {C : Addr} {s₀ : Shared} {H₀ : Hp} {fp : List Addr} : (blockCx X scope Nc C s₀ H₀ fp).K = X.K := rfl
theorem noxK {X : Cx} : X.nox.K = X.K := rfl
end
theorem pe_ty {X : Cx} {x : Str} {T : String} {pos : Pos} (hm : X.mg x = none) (hv : bootBuiltins x = some (.type T)) (hg : Gl X x := by rfl) (hn : x ≠ "__name__" := by decide) (hd : (x == ("__debug__" : Str)) = false := by decide) : PE X (.Name x pos) (tC (.ty T)) :=
  pe_bltn (v := .ty T) hg hm hv rfl hn hd
theorem same_new {H : Hp} {p : Addr} (h : H p = none) (o : HO) : Same H (upd H p o) := fun b u q => by rw [upd_ne (ne_of_none q h)]; exact q
end L2
set_option Elab.async false
set_option linter.all false
set_option maxRecDepth 100000
set_option maxHeartbeats 4000000
namespace L2
open PySem PySem.Spec PyProof.Rows
noncomputable def blockB (sc out : Scope) (N : List Str) (x : Str) (frees : List Str) (ix : List Nat) : Bool :=
  decide (sc.kind = .function) && decide (out.kind = .function) && decide (frees.length = ix.length) &&
  ((List.range frees.length).all fun j => match frees[j]?, ix[j]? with
    | some y, some i => decide (N[i]? = some y) && decide (out.names.lookup y = some .cell) && decide (sc.names.lookup y = some .free)
    | _, _ => false) &&
  decide (sc.names.lookup x = some .local) &&
  (sc.names.all fun y => decide (y.2 ≠ .cell) && (decide (y.2 ≠ .local) || decide (sc.names.lookup y.1 = some .local)) && (decide (y.2 ≠ .free) || decide (out.names.lookup y.1 = some .cell))) &&
  decide (x :: frees).Nodup
theorem Block.of {sc out : Scope} {N : List Str} {x : Str} {frees : List Str} {ix : List Nat} (h : blockB sc out N x frees ix = true) : Block sc out N x frees ix := by
  unfold blockB at h
  simp only [Bool.and_eq_true, decide_eq_true_eq, List.all_eq_true] at h
  obtain ⟨⟨⟨⟨⟨⟨h1, h2⟩, h3⟩, h4⟩, h5⟩, h6⟩, h7⟩ := h
  refine ⟨h1, h2, h3, fun j y hy => ?_, h5, fun y hy => (h6 y hy).1.1, fun y hy hl => ?_, fun y hy hl => ?_, h7⟩
  · have hj : j < frees.length := (List.getElem?_eq_some_iff.mp hy).1
    have q := h4 j (List.mem_range.mpr hj)
    rw [hy] at q
    cases e : ix[j]? with
    | none => rw [e] at q; cases q
    | some i =>
      rw [e] at q
      simp only [Bool.and_eq_true, decide_eq_true_eq] at q
      exact ⟨i, rfl, q.1.1, q.1.2, q.2⟩
  · have q := (h6 y hy).1.2
    rw [Bool.or_eq_true] at q
    rcases q with q | q
    · exact absurd hl (of_decide_eq_true q)
    · exact of_decide_eq_true q
  · have q := (h6 y hy).2
    rw [Bool.or_eq_true] at q
    rcases q with q | q
    · exact absurd hl (of_decide_eq_true q)
    · exact of_decide_eq_true q
theorem comp_range {wi : TI} {ix : List Nat} {te : TE} {σ : St} {H H1 : Hp} {Q : VK} {lo : Int} {n : Nat} (f : Nat → V) (hw : ∀ R : It → Hp → Prop, R (Itr lo n) H1 → wi σ H R) (hn : n < sizeLine)
    (he : ∀ (i : Nat) (H' : Hp) (R : VK), i < n → Same H1 H' → R (f i) H' → te (some (.int (lo + i)) :: slots σ ix) H' R) (q : ∀ acc, H1 acc = none → Q (.ref acc) (upd H1 acc (.lst ((List.range n).map f)))) :
    tComp wi ix tYes te σ H Q := by
  refine hw _ fun acc hacc => ⟨fun i m H2 => i ≤ n ∧ m = n - i ∧ H2 = upd H1 acc (.lst ((List.range i).map f)), ⟨n, Nat.zero_le _, by simp, by simp⟩, ?_⟩
  rintro i m H2 ⟨hi, rfl, rfl⟩
  by_cases hlt : i < n
  · refine .inr ⟨hlt, ?_⟩
    rintro x H3 ⟨rfl, rfl⟩
    unfold tYes
    dsimp only
    rw [if_pos rfl]
    refine he i _ _ hlt (same_new hacc _) ⟨_, upd_same, ?_, n - (i + 1), by omega, hlt, rfl, ?_⟩
    · rw [List.length_map, List.length_range]; omega
    · rw [upd_upd, List.range_succ, List.map_append]
      rfl
  · have e : i = n := by omega
    subst e
    exact .inl ⟨Nat.le_refl _, q acc hacc⟩
end L2
set_option Elab.async false
set_option linter.all false
set_option maxRecDepth 100000
set_option maxHeartbeats 4000000
namespace L2
open PySem
noncomputable def excRec (cls a0 x1 : Value) : Obj := { cls := cls, data := .fields #[a0, x1, .none, .none, .bool false, .none] }
structure Exc (B : Heap) (l : List Env) (e : Addr) (cls fl : Value) (h : Heap) : Prop where
  stays : B.StaysIn h
  new : B.get? e = none
  frames : h.FunFrames B l
  rcd : ∃ (a0 : Value) (T : Addr) (oT : Obj) (ts : Array Value), h.get? e = some (excRec cls a0 (.ref T)) ∧ B.get? T = none ∧ T ≠ e ∧ h.get? T = some oT ∧ oT.data = .fields ts ∧ ts[3]? = some fl
section
variable {M : Model} {A : Around} {E : Value → Shared → Prop} {s : Shared} {B : Heap} {env : Env} {outer : List Env} {L e : Addr} {cls a0 x1 head fl : Value} {hadNext : Bool} {Q : Unit → Shared → Prop}
theorem mapped (a0 x1 y : Value) (cls : Value) : Obj.mapFields (·.setIfInBounds 1 y) (excRec cls a0 x1) = excRec cls a0 y := rfl
theorem exc_entry (hfr : A.frames = some (env :: outer)) (hf : env.frame = some L) (st : B.StaysIn s.heap) (new : B.get? e = none) (fr : s.heap.FunFrames B (env :: outer)) (he : s.heap.get? e = some (excRec cls a0 x1))
    (h : ∀ h', Exc B (env :: outer) e cls (rawInt L) h' → s.heap.UpToSlots h' → Q () { s with heap := h' }) :
    wpAny M A (do setField (.ref e) 1 (← EntryCells.newEntry head (← frameOf env) .none (rawInt L) .none (← entryPlaceOf L hadNext))) Q E s := by
  have enf : e ∉ (env :: outer).filterMap (·.frame) := fun hm => by
    obtain ⟨_, o, ho, nf⟩ := fr.mem hm
    rw [he] at ho
    cases ho
    exact nf _ rfl
  refine wpAny_bind (wpAny_frameOf_fun hfr fr hf fun h1 so => ?_)
  refine wpAny_bind (wpAny_entryPlaceOf fun pl hpl => ?_)
  have he1 : h1.get? e = some (excRec cls a0 x1) := (so.2.1 e enf).trans he
  have st1 : B.StaysIn h1 := fun b o q => (so.2.1 b fun hm => by
    have := (fr.mem hm).1
    rw [q] at this
    cases this).trans (st b o q)
  unfold EntryCells.newEntry newFields
  refine wpAny_bind (wpAny_newObj_type ?_ (hpl.sizeOk5 _ _ _ _ _))
  generalize hN : ({ cls := .type "traceback", dict := none, data := .fields ([head, Value.ref L, .none, rawInt L, .none] ++ (if pl.isEmpty then List.replicate 6 Value.none else pl)).toArray } : Obj) = N
  have hNd : ∃ ts : Array Value, N.data = .fields ts ∧ ts[3]? = some (rawInt L) := ⟨_, by rw [← hN], by simp⟩
  have hNf : N.isFreed = false := by rw [← hN]; rfl
  have he2 : (h1.push N).get? e = some (excRec cls a0 x1) := Heap.get?_push_of_some _ he1
  refine wpAny_setField he2 rfl (show 1 < 6 by decide) ?_
  have he3 := Heap.get?_update_self (Obj.mapFields (·.setIfInBounds 1 (Value.ref h1.objs.size))) he2 rfl
  rw [mapped] at he3
  have hTe : h1.objs.size ≠ e := Nat.ne_of_gt (Heap.lt_size he1)
  have keep : ∀ b o, b ≠ e → h1.get? b = some o → ((h1.push N).update e (Obj.mapFields (·.setIfInBounds 1 (Value.ref h1.objs.size)))).get? b = some o := fun b o nb q => by
    rw [Heap.get?_update_other _ _ (Ne.symm nb)]
    exact Heap.get?_push_of_some _ q
  have noe : ∀ b o, s.heap.get? b = some o → (∀ vs, o.data ≠ .fields vs) → b ≠ e := fun b o q nf z => by
    rw [z, he] at q
    cases q
    exact nf _ rfl
  refine h _ ⟨fun b o q => keep b o (fun z => by rw [z, new] at q; cases q) (st1 b o q), new, fr.of_keeps fun b o q nf => ?_, ?_⟩ fun b o q nf => ?_
  · obtain ⟨sl, q1⟩ := so.2.2 b o q
    exact ⟨_, keep b _ (noe b o q nf) q1, rfl⟩
  · obtain ⟨ts, d1, d2⟩ := hNd
    refine ⟨a0, h1.objs.size, N, ts, he3, st1.fresh, hTe, ?_, d1, d2⟩
    rw [Heap.get?_update_other _ _ (Ne.symm hTe)]
    exact Heap.get?_push_size _ hNf
  · obtain ⟨sl, q1⟩ := so.2.2 b o q
    exact ⟨sl, keep b _ (noe b o q nf) q1⟩
theorem note_made (hfr : A.frames = some (env :: outer)) (hf : env.frame = some L) (st : B.StaysIn s.heap) (new : B.get? e = none) (fr : s.heap.FunFrames B (env :: outer)) (he : s.heap.get? e = some (excRec cls a0 .none))
    (h : ∀ h', Exc B (env :: outer) e cls (rawInt L) h' → s.heap.UpToSlots h' → Q () { s with heap := h' }) : wpAny M A (noteFrame (.ref e) env) Q E s := by
  unfold noteFrame
  simp only [hf]
  refine wpAny_bind (wpAny_field (i := 1) (x := .none) he rfl rfl ?_)
  rw [if_neg (by decide)]
  exact exc_entry hfr hf st new fr he h
theorem note_come (hfr : A.frames = some (env :: outer)) (hf : env.frame = some L) (X : Exc B (env :: outer) e cls .none s.heap)
    (h : ∀ h', Exc B (env :: outer) e cls (rawInt L) h' → s.heap.UpToSlots h' → Q () { s with heap := h' }) : wpAny M A (noteFrame (.ref e) env) Q E s := by
  obtain ⟨st, new, fr, b0, T, oT, ts, he, nT, Te, hT, dT, h3⟩ := X
  unfold noteFrame
  simp only [hf]
  refine wpAny_bind (wpAny_field (i := 1) (x := .ref T) he rfl rfl ?_)
  rw [if_pos (show (Value.ref T != Value.none) = true from by simp)]
  refine wpAny_bind (wpAny_field hT dT h3 ?_)
  rw [if_neg (show ¬ ((Value.none == rawInt L) = true) from by simp [rawInt])]
  refine wpAny_bind (wpAny_setField hT dT (Array.getElem?_eq_some_iff.mp h3).1 ?_)
  have oth : ∀ b, b ≠ T → (s.heap.update T (Obj.mapFields (·.setIfInBounds 3 Value.none))).get? b = s.heap.get? b := fun b nb => Heap.get?_update_other _ _ (Ne.symm nb)
  have noT : ∀ b o, s.heap.get? b = some o → (∀ vs, o.data ≠ .fields vs) → b ≠ T := fun b o q nf z => by
    rw [z, hT] at q
    cases q
    exact nf ts dT
  refine exc_entry (s := { s with heap := s.heap.update T (Obj.mapFields (·.setIfInBounds 3 Value.none)) }) hfr hf (fun b o q => (oth b fun z => by rw [z, nT] at q; cases q).trans (st b o q)) new
    (fr.of_keeps fun b o q nf => ⟨o, (oth b (noT b o q nf)).trans q, rfl⟩) ((oth e (Ne.symm Te)).trans he) fun h' X' U => h h' X' fun b o q nf => U b o ((oth b (noT b o q nf)).trans q) nf
theorem flight_none (X : Exc B outer e cls fl s.heap) (h : ∀ h', Exc B outer e cls .none h' → s.heap.UpToSlots h' → Q () { s with heap := h' }) : wpAny M A (setFlight (.ref e) none) Q E s := by
  obtain ⟨st, new, fr, b0, T, oT, ts, he, nT, Te, hT, dT, h3⟩ := X
  have h3s : 3 < ts.size := (Array.getElem?_eq_some_iff.mp h3).1
  unfold setFlight
  refine wpAny_bind (wpAny_field (i := 1) (x := .ref T) he rfl rfl ?_)
  rw [if_pos (show (Value.ref T != Value.none) = true from by simp)]
  refine wpAny_setField hT dT h3s ?_
  have oth : ∀ b, b ≠ T → (s.heap.update T (Obj.mapFields (·.setIfInBounds 3 ((none : Option Addr).elim Value.none fun f => rawInt f)))).get? b = s.heap.get? b := fun b nb => Heap.get?_update_other _ _ (Ne.symm nb)
  have noT : ∀ b o, s.heap.get? b = some o → (∀ vs, o.data ≠ .fields vs) → b ≠ T := fun b o q nf z => by
    rw [z, hT] at q
    cases q
    exact nf ts dT
  refine h _ ⟨fun b o q => (oth b fun z => by rw [z, nT] at q; cases q).trans (st b o q), new, fr.of_keeps fun b o q nf => ⟨o, (oth b (noT b o q nf)).trans q, rfl⟩, b0, T, _, _, (oth e (Ne.symm Te)).trans he, nT, Te,
    Heap.get?_update_self _ hT (Obj.isFreed_of_fields (Obj.data_mapFields dT _)), Obj.data_mapFields dT _, by simp [h3s]⟩ fun b o q nf => ⟨o.slots, (oth b (noT b o q nf)).trans q⟩
theorem Exc.cut (X : Exc B (env :: outer) e cls fl s.heap) : Exc B outer e cls fl s.heap := ⟨X.stays, X.new, X.frames.2.2, X.rcd⟩
theorem leave_made (hfr : A.frames = some (env :: outer)) (hf : env.frame = some L) (st : B.StaysIn s.heap) (new : B.get? e = none) (fr : s.heap.FunFrames B (env :: outer)) (he : s.heap.get? e = some (excRec cls a0 .none))
    (h : ∀ h', Exc B outer e cls .none h' → s.heap.UpToSlots h' → Q () { s with heap := h' }) : wpAny M A (leaving env (.ref e)) Q E s := by
  unfold leaving
  refine wpAny_bind (note_made hfr hf st new fr he fun h1 X1 U1 => ?_)
  exact flight_none (s := { s with heap := h1 }) X1 fun h2 X2 U2 => h h2 (Exc.cut (s := { s with heap := h2 }) X2) (U1.trans U2)
theorem leave_come (hfr : A.frames = some (env :: outer)) (hf : env.frame = some L) (X : Exc B (env :: outer) e cls .none s.heap)
    (h : ∀ h', Exc B outer e cls .none h' → s.heap.UpToSlots h' → Q () { s with heap := h' }) : wpAny M A (leaving env (.ref e)) Q E s := by
  unfold leaving
  refine wpAny_bind (note_come hfr hf X fun h1 X1 U1 => ?_)
  exact flight_none (s := { s with heap := h1 }) X1 fun h2 X2 U2 => h h2 (Exc.cut (s := { s with heap := h2 }) X2) (U1.trans U2)
end
end L2
set_option Elab.async false
set_option linter.all false
set_option maxRecDepth 100000
set_option maxHeartbeats 4000000
namespace L2
open PySem
section
variable {prog : Program} {w : World} {A : Around} {E : Value → Shared → Prop} {s₁ : Shared}
end
end L2
set_option Elab.async false
set_option linter.all false
set_option maxRecDepth 100000
set_option maxHeartbeats 4000000
namespace L2
open PySem PySem.Spec PyProof.Rows
theorem ObjOk.is {P : Program} {w : World} {H : Hp} {h : Heap} {a : Addr} {o : HO} (x : ObjOk P w H h a o) : ∃ ob, h.get? a = some ob := by
  cases o with
  | lst xs => obtain ⟨_, _, _, _, e⟩ := x; exact ⟨_, e⟩
  | tup xs => obtain ⟨_, _, _, _, e, _⟩ := x; exact ⟨_, e⟩
  | dK kvs => obtain ⟨_, _, _, _, _, _, _, e, _⟩ := x; exact ⟨_, e⟩
  | dT kvs => obtain ⟨_, _, _, _, _, _, _, e, _⟩ := x; exact ⟨_, e⟩
  | set S n => obtain ⟨_, _, _, _, e, _⟩ := x; exact ⟨_, e⟩
  | ins C dx fs => obtain ⟨_, _, _, e, _⟩ := x; exact ⟨_, e⟩
  | own y => exact x
  | xd fs => obtain ⟨_, ⟨_, _, _, e, _⟩, _⟩ := x; exact ⟨_, e⟩
  | rng lo hi => obtain ⟨_, _, _, e⟩ := x; exact ⟨_, e⟩
  | frz ob u => exact ⟨_, x.1⟩
  | tbl ps => exact ⟨_, x⟩
  | met f y => exact ⟨_, x⟩
  | ext φ => exact x.2.1
structure Flew (P : Program) (w : World) (outer : List Env) (H : Hp) (s : Shared) (a C : Addr) (B : Heap) (H' : Hp) (s' : Shared) : Prop where
  os : s'.os = s.os
  bare : AllBare s'.gens
  un : Un (frs outer) [] H H' s.heap s'.heap
  hok : HOk P w H' B
  inB : ∀ b o, s.heap.get? b = some o → H b = none → b ∉ frs outer → B.get? b = some o
  thB : ∀ b o, s.heap.get? b = some o → b ∉ frs outer → ∃ o', B.get? b = some o'
  exc : Exc B outer a (.ref C) .none s'.heap
noncomputable def CX1 (P : Program) (w : World) : CXT := fun outer H s E e s' => ∃ (a C : Addr) (B : Heap) (H' : Hp), e = .ref a ∧ Flew P w outer H s a C B H' s' ∧ E (.ref C) none H'
theorem Flew.free {P : Program} {w : World} {outer : List Env} {H H' : Hp} {s s' : Shared} {a C : Addr} {B : Heap} (F : Flew P w outer H s a C B H' s') : H' a = none := by
  cases q : H' a with
  | none => rfl
  | some o =>
    obtain ⟨ob, e⟩ := (F.hok a o q).is
    rw [F.exc.new] at e
    cases e
theorem un_on {l : List Env} {H H' : Hp} {h h1 h2 B : Heap} (un : Un (frs l) [] H H' h h1) (inB : ∀ b o, h.get? b = some o → H b = none → b ∉ frs l → B.get? b = some o) (thB : ∀ b o, h.get? b = some o → b ∉ frs l → ∃ o', B.get? b = some o')
    (fr : h1.FunFrames B l) (st : B.StaysIn h2) (up : h1.UpToSlots h2) : Un (frs l) [] H H' h h2 where
  keep := fun b o e n nf _ => st b o (inB b o e n nf)
  slot := fun b o e n hf hx => by
    obtain ⟨sl, q⟩ := un.slot b o e n hf hx
    obtain ⟨_, o', ho', nf⟩ := fr.mem hf
    rw [q] at ho'
    cases ho'
    obtain ⟨sl', q'⟩ := up b _ q nf
    exact ⟨sl', q'⟩
  free := un.free
  there := fun b o e hx => by
    by_cases hf : b ∈ frs l
    · obtain ⟨_, o', ho', nf⟩ := fr.mem hf
      obtain ⟨sl, q⟩ := up b o' ho' nf
      exact ⟨_, q⟩
    · obtain ⟨o', q⟩ := thB b o e hf
      exact ⟨o', st b o' q⟩
  tups := un.tups
  frzs := un.frzs
  tbls := un.tbls
section
variable {X : Cx} {pins : List (Addr × Obj)} {σ : St} {H H' : Hp} {s s' : Shared} {a C : Addr} {B : Heap}
theorem Inv.noframe (I : Inv X pins σ H s) {b : Addr} {o : Obj} (e : X.s₀.heap.get? b = some o) (nf : b ∉ X.fs) : b ∉ frs X.stack := fun z => by
  rcases List.mem_cons.mp (I.stkSub b z) with q | q
  · exact absurd (Nat.lt_of_lt_of_le (Heap.lt_size e) I.ok.above) (by rw [q]; exact Nat.lt_irrefl _)
  · exact nf q
theorem flew_out (I : Inv X pins σ H s) (hex : X.ex = []) (un : Un (frs X.stack) [] H H' s.heap s'.heap) (os : s'.os = s.os) (bare : AllBare s'.gens) (hok : HOk X.prog X.w H' B)
    (inB : ∀ b o, s.heap.get? b = some o → H b = none → b ∉ frs X.stack → B.get? b = some o) (thB : ∀ b o, s.heap.get? b = some o → b ∉ frs X.stack → ∃ o', B.get? b = some o') (x : Exc B X.outer a (.ref C) .none s'.heap) :
    Flew X.prog X.w X.outer X.H₀ X.s₀ a C B H' s' := by
  have J : Inv X pins σ H' s' := I.call' os un (hok.kept x.stays) bare (fun _ z => nomatch z)
  have nx : ∀ b, b ∉ X.ex := fun b z => by rw [hex] at z; exact nomatch z
  refine ⟨J.os, J.bare, by have := J.base; rw [hex] at this; exact this, hok, fun b o e n nf => ?_, fun b o e nf => ?_, x⟩
  · exact inB b o (I.base.keep b o e n nf (nx b)) (I.base.free b o e n (nx b)) (I.noframe e nf)
  · obtain ⟨o', e'⟩ := I.base.there b o e (nx b)
    exact thB b o' e' (I.noframe e nf)
end
section
variable {P : Program} {w : World} {K : PySem.W.Frag} {mg : Str → Option Value} {base : Heap} {N : List Str} {qual : Str} {scope : Scope} {f : Addr} {cd : Value} {A : Around} {outer : List Env} {s₀ : Shared} {H₀ : Hp} {E : XK}
theorem pass1 : Passes (CX1 P w) (cxOf (CX1 P w) P w K mg base N qual scope f cd A outer s₀ H₀ E) E := by
  rintro pins σ H s e s' I ⟨a, C, B, H', rfl, F, q⟩
  refine leave_come (s := s') (env := (cxOf (CX1 P w) P w K mg base N qual scope f cd A outer s₀ H₀ E).env) (outer := outer) I.ok.frames rfl F.exc fun h' x u => ?_
  exact ⟨a, C, B, H', rfl, flew_out (s' := { s' with heap := h' }) I rfl (un_on F.un F.inB F.thB F.exc.frames x.stays u) F.os F.bare F.hok F.inB F.thB x, q⟩
noncomputable def Raises (X : Cx) (E : XK) : Prop := ∀ (pins : List (Addr × Obj)) (σ : St) (H : Hp) (s : Shared) (h' : Heap) (a C : Addr) (vs : List Value), Inv X pins σ H s → Heap.MadeExcOf s.heap h' a (.ref C) vs → E (.ref C) none H → X.xe (.ref a) { s with heap := h' }
theorem raise1 : Raises (cxOf (CX1 P w) P w K mg base N qual scope f cd A outer s₀ H₀ E) E := by
  intro pins σ H s h' a C vs I mk q
  obtain ⟨t, he, _, _⟩ := mk.there
  have st : (PySem.W.hideAll s.heap (frs (envOfC qual scope s₀.heap.objs.size f cd :: outer))).StaysIn h' := fun b o e => mk.keeps b o (PySem.W.of_hideAll _ e)
  have new : (PySem.W.hideAll s.heap (frs (envOfC qual scope s₀.heap.objs.size f cd :: outer))).get? a = none := by
    cases e : (PySem.W.hideAll s.heap (frs (envOfC qual scope s₀.heap.objs.size f cd :: outer))).get? a with
    | none => rfl
    | some o =>
      have := PySem.W.of_hideAll _ e
      rw [mk.new] at this
      cases this
  have fr0 : s.heap.FunFrames (PySem.W.hideAll s.heap (frs (envOfC qual scope s₀.heap.objs.size f cd :: outer))) (envOfC qual scope s₀.heap.objs.size f cd :: outer) :=
    PySem.W.funFrames_hide I.stack fun env he b hb => List.mem_filterMap.mpr ⟨env, he, hb⟩
  have fr : h'.FunFrames (PySem.W.hideAll s.heap (frs (envOfC qual scope s₀.heap.objs.size f cd :: outer))) (envOfC qual scope s₀.heap.objs.size f cd :: outer) := fr0.of_keeps fun b o e _ => ⟨o, mk.keeps b o e, rfl⟩
  refine leave_made (s := { s with heap := h' }) (env := envOfC qual scope s₀.heap.objs.size f cd) (outer := outer) I.ok.frames rfl st new fr he fun h'' x u => ?_
  have inB : ∀ b o, s.heap.get? b = some o → b ∉ frs (envOfC qual scope s₀.heap.objs.size f cd :: outer) → (PySem.W.hideAll s.heap (frs (envOfC qual scope s₀.heap.objs.size f cd :: outer))).get? b = some o := fun b o e nf => PySem.W.hideAll_get _ e nf
  refine ⟨a, C, _, H, rfl, flew_out (s' := { s with heap := h'' }) I rfl (un_on (Un.kept mk.keeps) (fun b o e _ nf => inB b o e nf) (fun b o e nf => ⟨o, inB b o e nf⟩) fr x.stays u) rfl I.bare (fun b o e => ?_) (fun b o e _ nf => inB b o e nf) (fun b o e nf => ⟨o, inB b o e nf⟩) x, q⟩
  refine (I.hok b o e).stay (fun c v hc r => inB c v r fun z => ?_) (fun _ r => r) fun _ _ r => r
  have nc := I.stkFree c z
  rcases hc with rfl | hc
  · rw [e] at nc; cases nc
  · rw [hc] at nc; cases nc
end
def VEB : List Value := [.type "ValueError", .type "Exception", .type "BaseException", .type "object"]
structure ErrC (K : PySem.W.Frag) (mg : Str → Option Value) (x : Str) (C : Addr) : Prop where
  at' : mg x = some (.ref C)
  ok : PySem.W.excIn K C VEB "ValueError.__new__" = true
theorem errObj {K : PySem.W.Frag} {h : Heap} {C : Addr} {bmB : List Value} {newId : String} (X : K.In h) (q : PySem.W.excIn K C bmB newId = true) :
    ∃ bm N nm qn bs hd sn sub ab col dd k0 k1 k2 k3 k5 mN, h.get? C = some (excClassObj nm qn C N bs bm hd sn sub ab col dd k0 k1 k2 k3 k5 newId) ∧ h.Ns N mN ∧ mN "__init__" = none ∧ OwnTail h bmB bm := by
  unfold PySem.W.excIn at q
  split at q
  · rename_i dd cl sl look
    split at q
    · rename_i C1 bm k0 k1 k2 k3 n k5 hmro hsl
      simp only [Bool.and_eq_true, beq_iff_eq, Bool.not_eq_true'] at q
      obtain ⟨⟨⟨⟨⟨rfl, rfl⟩, nodel⟩, tl⟩, nsok⟩, noinit⟩ := q
      obtain ⟨c1, c2, c3, c4, c5, c6, c7, c8, c9, c10, c11⟩ := cl
      dsimp only at hmro nodel nsok noinit
      subst hmro nodel
      have e : sl = #[k0, k1, k2, k3, some (.builtin n), k5] := by
        obtain ⟨l⟩ := sl
        simp only at hsl
        rw [hsl]
      subst e
      exact ⟨bm, _, _, _, _, _, _, _, _, _, dd, k0, k1, k2, k3, k5, _, X _ _ look, .of_isNs (PySem.W.isNs_of_in X nsok), PySem.W.nsMap_none_of_in X nsok noinit, PySem.W.tail_of_in X tl⟩
    · cases q
  · cases q
section
variable {X : Cx} {E : XK} {x : Str} {C : Addr} {e : Expr} {es : List Expr} {ta : TA} {np cpos pos : Pos}
noncomputable def tRaise (E : XK) (C : Addr) (ta : TA) : TS := fun _ σ H => ta σ H fun vs H1 => vs.length ≤ sizeLine ∧ E (.ref C) none H1
theorem ps_raise (hE : Raises X E) (hc : X.calm = true) (R : ErrC X.K X.mg x C) (hg : Gl X x) (ha : PA X (e :: es) ta)
    (hd : (x == ("__debug__" : Str)) = false := by decide) (he : starEach (e :: es) X.env = (false, eval e X.env) :: starEach es X.env := by rfl) (hpl : (backTo cpos (starEach es X.env)).any (·.1) = false := by rfl) :
    PS X (.Raise (some (.Call (.Name x np) (e :: es) [] cpos)) none pos) (tRaise E C ta) := by
  intro pins s σ H D I h
  obtain ⟨bm, N, nm, qn, bs, hd', sn, sub, ab, col, dd, k0, k1, k2, k3, k5, mN, hC, hN, hni, T⟩ := errObj I.mod.kin R.ok
  refine wpAny_Raise_call_subT (C := C) (nm := nm) (q := qn) (N := N) (bs := bs) (bm := bm) (hdct := hd') (sn := sn) (sub := sub) (ab := ab) (col := col) (dd := dd) (k0 := k0) (k1 := k1) (k2 := k2) (k3 := k3) (k5 := k5) PySem.F.excBase_ValueError (mN := mN)
    (T.hasType PySem.F.excBase_ValueError.hasBase) (I.ok.hd hc) (by rw [he]; exact (show (false || (backTo cpos (starEach es X.env)).any (·.1)) = false from by rw [hpl]; rfl)) hni (ld_glob I hg R.at' ⟨rfl, ?_⟩ hd)
  have h1 := ha cpos pins s σ H _ I h
  rw [he] at h1 ⊢
  refine Calls.evalArgs_plain (wpAny_mono h1 (fun vs s2 q2 => ?_) fun _ _ y => y)
  obtain ⟨xs, H2, I2, r2, len, q⟩ := q2
  exact ⟨rfl, by rw [← r2.length]; exact len, I2.bk _ _ hC, hN.keeps I2.bk, T.keeps I2.bk, fun h' z mk => hE pins σ H2 s2 h' z C _ I2 mk q⟩
end
structure CalleeX (P : Program) (w : World) (K : PySem.W.Frag) (mg : Str → Option Value) (base : Heap) (x : Str) (k : Nat) (ps : List Str) (sp : Sp) : Prop where
  ex : ∃ f fd, mg x = some (.ref f) ∧ PySem.W.keepIn K (.ref f) = true ∧ Binds K fd ps [] ∧ FnOk P w K mg base (CX1 P w) k f fd ps sp
theorem pe_callX {X : Cx} {E : XK} {x : Str} {k n : Nat} {ps : List Str} {sp : Sp} {e : Expr} {es : List Expr} {t : TA} {p pos : Pos} (C : CalleeX X.prog X.w X.K X.mg X.base x k ps sp) (hp : Passes (CX1 X.prog X.w) X E) (hr : Room n X.A) (hk : k ≤ n) (hg : Gl X x) (ha : PA X (e :: es) t)
    (hdb : (x == ("__debug__" : Str)) = false := by decide) (he : starEach (e :: es) X.env = (false, eval e X.env) :: starEach es X.env := by rfl) (hpl : (backTo pos (starEach es X.env)).any (·.1) = false := by rfl) :
    PE X (.Call (.Name x p) (e :: es) [] pos) (tCall sp [] E t) := by
  obtain ⟨f, fd, hm, hkp, hb, F⟩ := C.ex
  exact pe_call (F.mono hk) hr hg hm hkp hb .nil hp ha hdb he hpl
theorem HasDef.okX {P : Program} {w : World} {K : PySem.W.Frag} {mg : Str → Option Value} {base : Heap} {x : Str} {st : Stmt} {N ps : List Str} {n : Nat} {sp : Sp} (D : HasDef K mg x st) (S : FnScope N ps (defScope st))
    (hb : ∀ (kV doc pm : Value) (an : Option Addr) (cdv ct : Value) (us : List Value), us.length = ps.length → bindArgs (PySem.W.fnOf x x (defArgs st) (defBody st) (defScope st) .none kV doc pm an cdv ct) ⟨us, []⟩ = pure (ps.zip us))
    (len : ∀ vs H Q E, sp vs H Q E → vs.length = ps.length)
    (hbody : ∀ (f : Addr) (cdv : Value) (A : Around) (outer : List Env) (s : Shared) (H : Hp) (vs : List V) (Q : VK) (E : XK), Room n (A.deeper (envOfC x (defScope st) s.heap.objs.size f cdv)) → sp vs H Q E →
      ∃ t, PSs (cxOf (CX1 P w) P w K mg base N x (defScope st) f cdv A outer s H E) (defBody st) t ∧ t { nx := fun _ H' => Q .non H', rt := Q } (start N vs) H) : CalleeX P w K mg base x (n + 1) ps sp := by
  obtain ⟨f, fd, F, hm⟩ := D.ex
  refine ⟨f, fd, hm, F.kp, F.binds hb, ?_⟩
  obtain ⟨oc, od, kV, doc, pm, an, cdv, ct, osl, rfl, lk, hcd⟩ := F.ex
  exact fn_of lk hcd S len fun A outer s H vs Q E hr h => hbody f cdv A outer s H vs Q E hr h
theorem CalleeX.calm {P : Program} {w : World} {K : PySem.W.Frag} {mg : Str → Option Value} {base : Heap} {x : Str} {k : Nat} {ps : List Str} {sp : Sp} (C : CalleeX P w K mg base x k ps sp) : Callee P w K mg base x k ps (fun vs H Q _ => sp vs H Q E0) := by
  obtain ⟨f, fd, hm, hkp, hb, F⟩ := C.ex
  refine ⟨f, fd, hm, hkp, hb, fun vs H Q E h => F.len vs H Q E0 h, fun A outer s H args us vs Q E hr e0 bt r h => codeAny_mono (F.run A outer s H args us vs Q E0 hr e0 bt r h) fun res s' q => ?_⟩
  cases res with
  | ok fl => cases fl <;> exact q
  | error e =>
    obtain ⟨_, _, _, _, _, _, z⟩ := q
    exact z.elim
theorem CalleeX.imp {P : Program} {w : World} {K : PySem.W.Frag} {mg : Str → Option Value} {base : Heap} {x : Str} {k : Nat} {ps : List Str} {sp sp' : Sp} (C : CalleeX P w K mg base x k ps sp) (h : ∀ vs H Q E, sp' vs H Q E → sp vs H Q E) : CalleeX P w K mg base x k ps sp' := by
  obtain ⟨f, fd, hm, hkp, hb, F⟩ := C.ex
  exact ⟨f, fd, hm, hkp, hb, F.imp h⟩
theorem Callee.x {P : Program} {w : World} {K : PySem.W.Frag} {mg : Str → Option Value} {base : Heap} {x : Str} {k : Nat} {ps : List Str} {sp : Sp} (C : Callee P w K mg base x k ps sp) : CalleeX P w K mg base x k ps sp := by
  obtain ⟨f, fd, hm, hkp, hb, F⟩ := C.ex
  refine ⟨f, fd, hm, hkp, hb, F.len, fun A outer s H args us vs Q E hr e0 bt r h => codeAny_mono (F.run A outer s H args us vs Q E hr e0 bt r h) fun res s' q => ?_⟩
  cases res with
  | ok fl => cases fl <;> exact q
  | error e => exact False.elim q
end L2
set_option Elab.async false
set_option linter.all false
set_option maxRecDepth 100000
set_option maxHeartbeats 4000000
namespace L2
open PySem PySem.Spec PyProof.Rows
noncomputable def excO (a C : Addr) (a0 x1 : Value) : HO := .frz (excRec (.ref C) a0 x1) (.ext fun h => ∃ a0 x1, h.get? a = some (excRec (.ref C) a0 x1))
noncomputable abbrev bCx (X : Cx) (pins : List (Addr × Obj)) (xe : Value → Shared → Prop) : Cx := { X with pn := X.pn ++ pins, xe := xe }
noncomputable abbrev hCx (X : Cx) (a : Addr) : Cx := { X with A := X.A.mark (some (.ref a)), calm := false, xe := fun _ _ => False }
section
variable {X : Cx} {pins pl : List (Addr × Obj)} {σ : St} {H H' : Hp} {s s' : Shared} {a C : Addr} {B : Heap} {xe : Value → Shared → Prop}
theorem Inv.toB (I : Inv X pins σ H s) : Inv (bCx X pins xe) [] σ H s :=
  ⟨⟨I.ok.mod, I.ok.kind, I.ok.glob, I.ok.blt, I.ok.above, I.ok.inj, I.ok.has, I.ok.cab, I.ok.hd, I.ok.frames, I.ok.stk, I.ok.exf, I.ok.bs, I.ok.bsz, I.ok.noex, I.ok.exfs, I.ok.funs, I.ok.frf⟩, I.os, I.bare, I.base, I.loc, I.cell, I.free, I.freeC,
    fun p hp => I.pin p (by simpa using hp), I.hok, I.len⟩
theorem Inv.ofB (I : Inv (bCx X pins xe) pl σ H s) : Inv X pins σ H s :=
  ⟨⟨I.ok.mod, I.ok.kind, I.ok.glob, I.ok.blt, I.ok.above, I.ok.inj, I.ok.has, I.ok.cab, I.ok.hd, I.ok.frames, I.ok.stk, I.ok.exf, I.ok.bs, I.ok.bsz, I.ok.noex, I.ok.exfs, I.ok.funs, I.ok.frf⟩, I.os, I.bare, I.base, I.loc, I.cell, I.free, I.freeC,
    fun p hp => I.pin p (List.mem_append_left _ hp), I.hok, I.len⟩
theorem Inv.wishB {xe' : Value → Shared → Prop} (I : Inv (bCx X pins xe) pl σ H s) : Inv (bCx X pins xe') pl σ H s :=
  ⟨⟨I.ok.mod, I.ok.kind, I.ok.glob, I.ok.blt, I.ok.above, I.ok.inj, I.ok.has, I.ok.cab, I.ok.hd, I.ok.frames, I.ok.stk, I.ok.exf, I.ok.bs, I.ok.bsz, I.ok.noex, I.ok.exfs, I.ok.funs, I.ok.frf⟩, I.os, I.bare, I.base, I.loc, I.cell, I.free, I.freeC,
    I.pin, I.hok, I.len⟩
theorem Inv.toH (I : Inv X pins σ H s) (a : Addr) : Inv (hCx X a) pins σ H s :=
  ⟨⟨I.ok.mod, I.ok.kind, I.ok.glob, I.ok.blt, I.ok.above, I.ok.inj, I.ok.has, I.ok.cab, (fun z => nomatch z), I.ok.frames, I.ok.stk, I.ok.exf, I.ok.bs, I.ok.bsz, I.ok.noex, I.ok.exfs, I.ok.funs, I.ok.frf⟩, I.os, I.bare, I.base, I.loc, I.cell, I.free, I.freeC,
    I.pin, I.hok, I.len⟩
theorem Inv.ofH (hd : X.calm = true → X.A.handled = none) (I : Inv (hCx X a) pins σ H s) : Inv X pins σ H s :=
  ⟨⟨I.ok.mod, I.ok.kind, I.ok.glob, I.ok.blt, I.ok.above, I.ok.inj, I.ok.has, I.ok.cab, hd, I.ok.frames, I.ok.stk, I.ok.exf, I.ok.bs, I.ok.bsz, I.ok.noex, I.ok.exfs, I.ok.funs, I.ok.frf⟩, I.os, I.bare, I.base, I.loc, I.cell, I.free, I.freeC,
    I.pin, I.hok, I.len⟩
theorem SP.ofB {D : Ends} {f : Flow} (h : SP (bCx X pins xe) [] D f s') : SP X pins D f s' := by
  cases f with
  | next => obtain ⟨σ', H', I, q⟩ := h; exact ⟨σ', H', I.ofB, q⟩
  | brk => obtain ⟨σ', H', I, q⟩ := h; exact ⟨σ', H', I.ofB, q⟩
  | cont => obtain ⟨σ', H', I, q⟩ := h; exact ⟨σ', H', I.ofB, q⟩
  | ret u => obtain ⟨v, σ', H', I, r, q⟩ := h; exact ⟨v, σ', H', I.ofB, r, q⟩
theorem Flew.inv {h5 : Heap} (I : Inv X pins σ H s) (F : Flew X.prog X.w X.stack H s a C B H' s') (x : Exc B X.stack a (.ref C) .none h5) (up : s'.heap.UpToSlots h5) :
    ∃ a0 x1, Inv X pins σ (upd H' a (excO a C a0 x1)) { s' with heap := h5 } := by
  obtain ⟨a0, T, oT, ts, he, _, _, _, _, _⟩ := x.rcd
  refine ⟨a0, .ref T, ?_⟩
  have fr := F.free
  have un := un_on F.un F.inB F.thB F.exc.frames x.stays up
  have new : ∀ o, s.heap.get? a ≠ some o := fun o e => by
    by_cases hf : a ∈ frs X.stack
    · obtain ⟨_, o', ho', nf⟩ := x.frames.mem hf
      rw [he] at ho'
      cases ho'
      exact nf _ rfl
    · obtain ⟨o', q⟩ := F.thB a o e hf
      rw [x.new] at q
      cases q
  have ne : ∀ b u, H' b = some u → b ≠ a := fun b u e z => by rw [z, fr] at e; cases e
  refine I.call' (ch := []) (s' := { s' with heap := h5 }) F.os ⟨un.keep, un.slot, fun b o e n hx => ?_, un.there, fun b xs e => ?_, fun b o u e => ?_, fun b ps e => ?_⟩ (fun b u e => ?_) F.bare (fun _ z => nomatch z)
  · have : b ≠ a := fun z => new o (z ▸ e)
    rw [upd_ne this]
    exact un.free b o e n hx
  · have q := un.tups b xs e
    rw [upd_ne (ne b _ q)]
    exact q
  · have q := un.frzs b o u e
    rw [upd_ne (ne b _ q)]
    exact q
  · obtain ⟨more, q⟩ := un.tbls b ps e
    exact ⟨more, by rw [upd_ne (ne b _ q)]; exact q⟩
  · by_cases hb : b = a
    · subst hb
      rw [upd_same] at e
      cases e
      exact ⟨he, ⟨_, _, he⟩, ⟨_, he⟩, fun h1 h2 ⟨y0, y1, q⟩ k => ⟨y0, y1, k _ q⟩⟩
    · rw [upd_ne hb] at e
      refine (F.hok b u e).stay (fun c v _ q => x.stays c v q) (fun c q => ?_) fun c xs q => ?_
      · rw [upd_ne (ne c _ q)]; exact q
      · rw [upd_ne (ne c _ q)]; exact q
theorem name_goes {M : Model} {A : Around} {E : Value → Shared → Prop} {i : Nat} {n : Str} {pos : Pos} {Q : Unit → Shared → Prop} (I : Inv X pins σ H s) (hN : X.N.Nodup) (hi : X.N[i]? = some n) (hl : X.env.scope.names.lookup n = some .local)
    (k : ∀ s', Inv X pins (σ.set i none) H s' → Q () s') : wpAny M A (do bindName X.env n .none; unbindBehindTheSuite X.env n pos) Q E s := by
  obtain ⟨m, hn, hm⟩ := id I.loc
  have hcls : (X.env.scope.kind == .class || (X.env.scope.kind == .module && X.env.locals != X.env.globals)) = false := by rw [I.ok.kind]; rfl
  refine wpAny_nameGoes_keeps hl hn hcls fun h' v hn' hs => k _ ?_
  obtain ⟨oL, _, _, hoL, _⟩ := id hn
  have low : ∀ b o, X.s₀.heap.get? b = some o → b ≠ X.env.locals := fun b o e => Nat.ne_of_lt (Nat.lt_of_lt_of_le (Heap.lt_size e) I.ok.above)
  refine ⟨I.ok, I.os, I.bare, ⟨fun b o e n hb hx => ?_, fun b o e n hb hx => ?_, I.base.free, fun b o e hx => ?_, I.base.tups, I.base.frzs, I.base.tbls⟩, ⟨_, hn', fun j y v' e1 e2 e3 => ?_⟩, fun y c e => ?_, I.free, I.freeC, fun p hp => ?_, fun b ob e => ?_, by simpa using I.len⟩
  · exact (hs.2 b (low b o e)).trans (I.base.keep b o e n hb hx)
  · obtain ⟨sl, e1⟩ := I.base.slot b o e n hb hx
    exact ⟨sl, (hs.2 b (low b o e)).trans e1⟩
  · obtain ⟨o', e1⟩ := I.base.there b o e hx
    exact ⟨o', (hs.2 b (low b o e)).trans e1⟩
  · by_cases hj : j = i
    · subst hj
      have : j < σ.length := by
        rcases Nat.lt_or_ge j σ.length with z | z
        · exact z
        · rw [List.getElem?_eq_none (by simpa using z)] at e2; cases e2
      rw [List.getElem?_set_self this] at e2
      cases e2
    · rw [List.getElem?_set_ne (Ne.symm hj)] at e2
      obtain ⟨u, r, q⟩ := hm j y v' e1 e2 e3
      refine ⟨u, r, ?_⟩
      rcases q with ⟨q, e⟩ | ⟨q, c, e, z⟩
      · have : y ≠ n := fun z => hj (nodup_ix hN e1 (z ▸ hi))
        exact .inl ⟨q, by simp [this, e]⟩
      · exact .inr ⟨q, c, e, z.sameBut hs (I.cne y c e)⟩
  · obtain ⟨w', z⟩ := I.cell y c e
    exact ⟨w', z.sameBut hs (I.cne y c e)⟩
  · obtain ⟨e, n, nl, nf, d⟩ := I.pin p hp
    exact ⟨(hs.2 p.1 nl).trans e, n, nl, nf, d⟩
  · refine (I.hok b ob e).stay (fun c w' hc q => (hs.2 c ?_).trans q) (fun _ q => q) fun _ _ q => q
    intro z
    have f := I.free
    rw [← z] at f
    rcases hc with rfl | hc
    · rw [f] at e; cases e
    · rw [f] at hc; cases hc
end
noncomputable def endsH (D : Ends) (i : Nat) : Ends := { nx := fun σ' H' => D.nx (σ'.set i none) H', rt := D.rt, bk := fun σ' H' => D.bk (σ'.set i none) H', ct := fun σ' H' => D.ct (σ'.set i none) H' }
noncomputable def xTry (K : PySem.W.Frag) (C0 : Addr) (n i : Nat) (ts : Addr → TS) (D : Ends) : XK := fun cls _ H' => ∃ C, cls = .ref C ∧ PySem.W.exmOne K (.ref C) (.ref C0) = some true ∧
  ∀ a a0 x1, H' a = none → ts a (endsH D i) ((List.replicate n none).set i (some (.ref a))) (upd H' a (excO a C a0 x1))
noncomputable def tTry (K : PySem.W.Frag) (C0 : Addr) (n i : Nat) (tb : XK → TS) (ts : Addr → TS) : TS := fun D σ H => tb (xTry K C0 n i ts D) D σ H
theorem ps_try {X : Cx} {x n : Str} {C0 : Addr} {i : Nat} {body suite : List Stmt} {b0 : Stmt} {np hpos pos : Pos} {tb : XK → TS} {ts : Addr → TS} (hst : X.stack = X.env :: X.outer) (hfr : X.env.frame = some X.env.locals) (hN : X.N.Nodup) (hi : X.N[i]? = some n)
    (hl : X.env.scope.names.lookup n = some .local) (hx : X.mg x = some (.ref C0)) (hg : Gl X x) (hb : ∀ (pn : List (Addr × Obj)) (xe : Value → Shared → Prop) (E : XK), Passes (CX1 X.prog X.w) { X with pn := pn, xe := xe } E → PSs { X with pn := pn, xe := xe } body (tb E))
    (hs : ∀ a, PSs (hCx X a) (b0 :: suite) (ts a)) (hd : (x == ("__debug__" : Str)) = false := by decide) :
    PS X (.Try body [.ExceptHandler (some (.Name x np)) (some n) (b0 :: suite) hpos] [] [] pos) (tTry X.K C0 X.N.length i tb ts) := by
  intro pins s σ H D I h
  refine wpAny_Try_except ?_
  refine wpAny_mono (hb (X.pn ++ pins) (fun e s' => ∃ pl σ1 H1 s1, Inv (bCx X pins fun _ _ => False) pl σ1 H1 s1 ∧ CX1 X.prog X.w X.stack H1 s1 (xTry X.K C0 X.N.length i ts D) e s') _ (fun pl σ1 H1 s1 e s' I1 q => ⟨pl, σ1, H1, s1, I1.wishB, q⟩) [] s σ H D I.toB h) (fun f s1 q => ?_) fun e s1 q => ?_
  · have q := SP.ofB q
    cases f with
    | next => exact wpAny_execs_nil q
    | brk => exact q
    | cont => exact q
    | ret u => exact q
  · obtain ⟨pl, σ1, H1, s0, I0, a, C, B, H', rfl, F, C', hC, hm, q⟩ := q
    cases hC
    have J0 : Inv X pins σ1 H1 s0 := I0.ofB
    have fx := F.exc
    rw [hst] at fx
    refine note_come (s := s1) (by rw [J0.ok.frames, hst]) hfr fx fun h4 x4 u4 => ?_
    refine flight_none (s := { s1 with heap := h4 }) x4 fun h5 x5 u5 => ?_
    obtain ⟨_, _, J5⟩ := F.inv (h5 := h5) J0 (by rw [hst]; exact x5) (u4.trans u5)
    have k5 := J5.kIn
    have LT : PySem.W.Looks (model X.prog X.w) h5 (typeOf (.ref a)) (.ref C) := by
      obtain ⟨a0, T, _, _, he, _⟩ := x5.rcd
      have : PySem.W.InstAt h5 a (excRec (.ref C) a0 (.ref T)) C none := ⟨he, rfl, rfl, trivial⟩
      exact this.type
    refine wpAny_handleBy_cons (codeAny_handlers_test (ld_glob (J5.toH a) hg hx ?_ hd)) (by intro z; cases z)
    refine PySem.W.exm_one k5 LT hm _ _ _ _ (fun _ _ z => z) ?_
    refine codeAny_handlers_suite_as ?_
    refine flight_none (s := { s1 with heap := h5 }) x5 fun h6 x6 u6 => ?_
    obtain ⟨z0, z1, J6⟩ := F.inv (h5 := h6) J0 (by rw [hst]; exact x6) ((u4.trans u5).trans u6)
    have J6 := J6.weak (σ' := List.replicate X.N.length none) (by rw [List.length_replicate]; exact J6.len.symm) (fun j v z => by
      rw [List.getElem?_replicate] at z
      split at z <;> cases z)
    refine store_ok (X := hCx X a) (i := i) (J6.toH a) hN hi (.inl hl) (v := .ref a) rfl (fun s7 J7 => ?_) (.inr hl)
    refine wpAny_mono (hs a pins s7 _ _ (endsH D i) J7 (q a z0 z1 F.free)) (fun f s8 q8 => ?_) fun _ _ z => z.elim
    have back : ∀ {σ8 : St} {H8 : Hp}, Inv (hCx X a) pins σ8 H8 s8 → Inv X pins σ8 H8 s8 := fun J => J.ofH J0.ok.hd
    cases f with
    | next =>
      obtain ⟨σ8, H8, J8, z⟩ := q8
      exact name_goes (back J8) hN hi hl fun s9 J9 => ⟨_, _, J9, z⟩
    | brk =>
      obtain ⟨σ8, H8, J8, z⟩ := q8
      exact name_goes (back J8) hN hi hl fun s9 J9 => ⟨_, _, J9, z⟩
    | cont =>
      obtain ⟨σ8, H8, J8, z⟩ := q8
      exact name_goes (back J8) hN hi hl fun s9 J9 => ⟨_, _, J9, z⟩
    | ret u =>
      obtain ⟨v, σ8, H8, J8, r, z⟩ := q8
      exact name_goes (back J8) hN hi hl fun s9 J9 => ⟨v, _, _, J9, r, z⟩
structure ExcCls (K : PySem.W.Frag) (C : Addr) : Prop where
  ga : PySem.W.findIn K (.ref C) "__getattribute__" = some (some (.builtin "BaseException.__getattribute__"))
  gh : PySem.W.findIn K (.ref C) "__getattr__" = some none
  cls : PySem.W.hasDictIn K C = true
  ha : PySem.W.findIn K (.ref C) "__class__" = some (some (.builtin "object.__class__"))
  hn : PySem.W.specialIn K (.builtin "object.__class__") "__get__" = some (some (.builtin "getset_descriptor.__get__"))
  htk : PySem.W.takesIn K (.builtin "object.__class__") = some true
  hm : PySem.W.mroIn K C (.type "object") = some true
  hb : PySem.W.mroIn K C (.type "BaseException") = some true
section
variable {K : PySem.W.Frag} {prog : Program} {w : World} {A : Around} {E : Value → Shared → Prop} {s : Shared} {x C : Addr} {ox : Obj}
theorem exc_entry_class {tk : Tok} {Q : Fin → Shared → Prop} (Z : ExcCls K C) (X : K.In s.heap) (I : PySem.W.InstAt s.heap x ox C none) (k : Q (.done (.ret (.ref C))) s) :
    wpAny (model prog w) A (Builtin.«object.__getattribute__» ⟨[.ref x, .str "__class__" tk], []⟩) Q E s := by
  obtain ⟨h, g, d, t, os⟩ := s
  have hf : PySem.W.findObj K C none "__class__" = some (.bind (.builtin "getset_descriptor.__get__") (.builtin "object.__class__")) := by
    obtain ⟨cd, hc, _⟩ := PySem.W.any_some Z.cls
    unfold PySem.W.findObj
    rw [hc, Option.bind_some, Z.ha, Option.bind_some]
    simp [Z.hn, Z.htk]
  have L0 := I.type (M := model prog w)
  have L1 := PySem.W.looks_find (M := model prog w) X I hf
  refine wpAny_bind (wpAny_pure (wpAny_bind (wpAny_pure (wpAny_bind (L0.at (wpAny_bind (L1.at ?_)))))))
  refine wpAny_bind (wpAny_call (PySem.W.class_get (ox := ox) (od := none) X I Z.hm ?_))
  exact wpAny_pure k
theorem exc_ga {nameV : Value} {Q : Unit → Shared → Prop} {M : Model} (Z : ExcCls K C) (X : K.In s.heap) (I : PySem.W.InstAt s.heap x ox C none) (k : Q () s) : wpAny M A (checkBuiltinCall "BaseException.__getattribute__" ⟨[.ref x, nameV], []⟩) Q E s := by
  obtain ⟨h, g, d, t, os⟩ := s
  have L0 := I.type (M := M)
  have L1 := PySem.W.looks_mroIn (M := M) X Z.hb
  have LI : PySem.W.Looks M h (isInstance (.ref x) (.type "BaseException")) true := L0.andThen L1
  have k1 : builtinKind "BaseException.__getattribute__" = some .slot := by decide +kernel
  have k2 : splitId "BaseException.__getattribute__" = some ("BaseException", "__getattribute__") := by decide +kernel
  have k3 := F.args_bexc_ga (.ref x) nameV
  simp only [checkBuiltinCall, k1, k2]
  refine wpAny_bind (wpAny_bind (L0.at (L1.at ?_)))
  rw [if_neg (by decide)]
  exact wpAny_of_eq (a := ()) k3 k
theorem exc_class {Q : Option Value → Shared → Prop} (Z : ExcCls K C) (X : K.In s.heap) (I : PySem.W.InstAt s.heap x ox C none) (k : Q (some (.ref C)) { s with toks := s.toks + 1 }) : wpAny (model prog w) A (getAttr? (.ref x) "__class__") Q E s := by
  obtain ⟨h, g, d, t, os⟩ := s
  have L0 := I.type (M := model prog w)
  have L1 := PySem.W.looks_findIn (M := model prog w) X Z.ga
  have L2 := PySem.W.looks_findIn (M := model prog w) X Z.gh
  unfold getAttr? getAttrBy? getAttrBy
  refine wpAny_bind (wpAny_mkText (wpAny_bind (wpAny_attempt (wpAny_holding (wpAny_bind (L0.at (wpAny_bind (L1.at ?_))))))))
  dsimp only
  have no : (onTheHeap (Value.ref C) && Value.builtin "BaseException.__getattribute__" == Value.builtin "object.__getattribute__") = false := by
    have : (Value.builtin "BaseException.__getattribute__" == Value.builtin "object.__getattribute__") = false := by decide +kernel
    rw [this, Bool.and_false]
  rw [no, if_neg Bool.false_ne_true]
  unfold getAttrByItsOwn hookBefore
  refine wpAny_bind ?_
  rw [if_pos (show onTheHeap (Value.ref C) = true from rfl)]
  refine L2.at ?_
  refine wpAny_bind (wpAny_attempt (wpAny_holding ?_))
  unfold callGetattribute
  rw [if_neg (by simp)]
  unfold boundAndCalled
  refine wpAny_bind (wpAny_of_eq (F.attr_ValueError.ga.bind (.ref x)) ?_)
  refine wpAny_call (codeAny_call_builtin F.attr_ValueError.ga.plain F.entry_bexc_ga (exc_ga (s := ⟨h, g, d, t + 1, os⟩) Z X I (exc_entry_class (s := ⟨h, g, d, t + 1, os⟩) Z X I ?_)))
  exact PySem.W.handed_on rfl (wpAny_pure k)
end
theorem kitx_exc {K : PySem.W.Frag} {x C : Addr} (Z : ExcCls K C) : PySem.W.KitX K (.ref x) (.ref C) (fun h => ∃ a0 x1, h.get? x = some (excRec (.ref C) a0 x1)) where
  ty := fun _ h _ ⟨a0, x1, e⟩ => (show PySem.W.InstAt h x (excRec (.ref C) a0 x1) C none from ⟨e, rfl, rfl, trivial⟩).type
  it := fun _ _ X _ => by
    obtain ⟨cd, hc, _⟩ := PySem.W.any_some Z.cls
    unfold PySem.W.clsIn at hc
    split at hc
    · rename_i look
      intro A' Q' E' s' k q
      unfold isType loadHead
      exact wpAny_bind (wpAny_loadPart (k _ _ (X _ _ look)) (wpAny_pure q))
    · cases hc
  ne := fun h tp dd its n sl X htp => by
    obtain ⟨cd, hc, _⟩ := PySem.W.any_some Z.cls
    refine Bool.eq_false_iff.mpr fun q => ?_
    have e : C = tp := Value.ref.inj (beq_iff_eq.mp q)
    subst e
    unfold PySem.W.clsIn at hc
    split at hc
    · rename_i look
      have z := (X _ _ look).symm.trans htp
      cases z
    · cases hc
  ca := fun {prog w A E Q s} X p k => by
    obtain ⟨a0, x1, e⟩ := p
    exact exc_class Z X (show PySem.W.InstAt s.heap x (excRec (.ref C) a0 x1) C none from ⟨e, rfl, rfl, trivial⟩) k
noncomputable def asked : V → Option Value
  | .ref D => some (.ref D)
  | .ty T => some (.type T)
  | _ => none
noncomputable def rIsx (K : PySem.W.Frag) : List V → Hp → VK → Prop := fun xs H Q => ∃ a C a0 x1 c u b, xs = [.ref a, c] ∧ H a = some (excO a C a0 x1) ∧ ExcCls K C ∧ asked c = some u ∧ PySem.W.kitOne K (.ref C) u = some b ∧ Q (.bl b) H
theorem call_isx {X : Cx} : CallR X (.builtin "isinstance") (rIsx X.K) := by
  intro pins s σ H xs us Q I r h
  obtain ⟨a, C, y0, y1, c, u, b, rfl, ha, Z, hc, hb, q⟩ := h
  obtain ⟨u1, v1, rfl, ru, rv⟩ := vals2 r
  cases ru
  have e : v1 = u := by
    cases c with
    | ref D => cases hc; exact rv
    | ty T => cases hc; exact rv
    | _ => cases hc
  subst e
  have ok : ∃ a0 x1, s.heap.get? a = some (excRec (.ref C) a0 x1) := (I.hok a _ ha).2.1
  exact PySem.W.kia_one (kitx_exc Z) I.kIn ok hb (fun z => nomatch z) fun tk => ⟨.bl b, H, I.tok tk, rfl, q⟩
noncomputable def GRef (mg : Str → Option Value) (x : Str) (a : Addr) : Prop := mg x = some (.ref a)
theorem pe_globR {X : Cx} {x : Str} {a : Addr} {pos : Pos} (h : GRef X.mg x a) (hg : Gl X x := by rfl) (hd : (x == ("__debug__" : Str)) = false := by decide) : PE X (.Name x pos) (tC (.ref a)) := pe_glob hg h rfl hd
end L2
set_option Elab.async false
set_option linter.all false
set_option maxRecDepth 100000
set_option maxHeartbeats 4000000
namespace L2
open PySem PySem.Spec PyProof.Rows
structure RoomX (k : Nat) (A : Around) : Prop where
  dp : A.depth + 3 * k + 5 < recursionLimit
  un : A.units + 16 * k + 200 < cLine
theorem RoomX.deeper {k : Nat} {A : Around} (r : RoomX (k + 1) A) (env : Env) : RoomX k (A.deeper env) := ⟨by have := r.dp; show A.depth + 1 + 3 * k + 5 < _; omega, by have := r.un; show A.units + 3 + 16 * k + 200 < _; omega⟩
theorem RoomX.depth {k : Nat} {A : Around} (r : RoomX k A) : A.depth < recursionLimit := by have := r.dp; omega
theorem RoomX.mono {j k : Nat} {A : Around} (r : RoomX k A) (h : j ≤ k) : RoomX j A := ⟨by have := r.dp; omega, by have := r.un; omega⟩
theorem Room.x {k : Nat} {A : Around} (r : Room k A) (h : Option Value) : RoomX k (A.mark h) := ⟨r.dp, r.un⟩
noncomputable def QuietAt (A : Around) (H : Hp) : Prop := ∃ e cls a0 x1 u, A.handled = some (.ref e) ∧ H e = some (.frz (excRec cls a0 x1) u)
noncomputable abbrev Quiet (X : Cx) : Prop := QuietAt X.A X.H₀
noncomputable abbrev cxOfH (CX : CXT) (P : Program) (w : World) (K : PySem.W.Frag) (mg : Str → Option Value) (base : Heap) (N : List Str) (qual : Str) (scope : Scope) (f : Addr) (cd : Value) (A : Around) (outer : List Env) (s : Shared) (H : Hp) (E : XK) : Cx :=
  { cxOf CX P w K mg base N qual scope f cd A outer s H E with calm := false }
structure FnOkH (P : Program) (w : World) (K : PySem.W.Frag) (mg : Str → Option Value) (base : Heap) (CX : CXT) (k : Nat) (f : Addr) (fd : FuncData) (ps : List Str) (sp : Sp) : Prop where
  len : ∀ vs H Q E, sp vs H Q E → vs.length = ps.length
  run : ∀ (A : Around) (outer : List Env) (s : Shared) (H : Hp) (args : Args) (us : List Value) (vs : List V) (Q : VK) (E : XK), RoomX k A → QuietAt A H → Env0 P w K mg base A outer s H → BindsTo s fd args (ps.zip us) → Vals vs us → sp vs H Q E →
    codeAny (model P w) A (.call (.ref f) args) (CR CX outer P w H s Q E) s
theorem inv_startH {CX : CXT} {P : Program} {w : World} {K : PySem.W.Frag} {mg : Str → Option Value} {base : Heap} {N ps : List Str} {qual : Str} {scope : Scope} {f : Addr} {cd : Value} {A : Around} {outer : List Env} {s s1 : Shared} {H : Hp} {E : XK} {us : List Value} {vs : List V}
    (S : FnScope N ps scope) (e0 : Env0 P w K mg base A outer s H) (hl : vs.length = ps.length) (r : Vals vs us)
    (x : InCallC s s.heap.objs.size (bindL (envOfC qual scope s.heap.objs.size f cd).kindOf (ps.zip us) fun _ => none) (cellsFrom (s.heap.objs.size + 1) scope.names []) (bindC (envOfC qual scope s.heap.objs.size f cd).kindOf (ps.zip us) fun _ => none) s1) :
    Inv (cxOfH CX P w K mg base N qual scope f cd A outer s H E) [] (start N vs) H s1 := by
  have hpl : ps.length ≤ N.length := by have := congrArg List.length S.pre; rw [List.length_take] at this; omega
  obtain ⟨h1, tk, rfl, hk⟩ := x.done
  have noA : ∀ b : Addr, b ∉ (cxOfH CX P w K mg base N qual scope f cd A outer s H E).ex := fun b z => absurd (show b ∈ ([] : List Addr) from z) (by simp)
  refine ⟨⟨e0.mod, S.kind, rfl, rfl, Nat.le_refl _, fun y z c h1 h2 => ?_, fun y hy => ?_, fun y c _ h => ?_, (fun z => nomatch z), Around.frames_deeper e0.frames, .inr ⟨rfl, rfl⟩, fun b z => absurd z (noA b), e0.bs, e0.bsz, fun b _ _ => noA b, fun b z => absurd z (noA b), e0.funs, e0.frf⟩,
    rfl, e0.bare, Un.kept hk, ⟨_, x.toInCall.ns, fun i y v h1 h2 h3 => ?_⟩, fun y c h => ⟨_, x.cell y c h⟩, e0.hok.fresh (Nat.le_refl _), fun y c h => ?_, fun p hp => absurd (show p ∈ ([] : List (Addr × Obj)) from hp) (by simp), e0.hok.kept hk, ?_⟩
  · exact name_of_addr x.apart (PySem.mem_of_lookup h1) (PySem.mem_of_lookup h2)
  · have hy : scope.names.lookup y = some .cell ∨ scope.names.lookup y = some .free := hy
    rcases hy with hy | hy
    · exact cell_has hy
    · exact absurd rfl (S.nofree _ (PySem.mem_of_lookup hy))
  · exact Nat.le_of_lt (x.above y c (PySem.mem_of_lookup h))
  · have hi : i < vs.length := by
      unfold start at h2
      by_cases hi : i < vs.length
      · exact hi
      · rw [List.getElem?_append_right (by simpa using hi)] at h2
        rw [List.getElem?_replicate] at h2
        split at h2 <;> cases h2
    have ha : vs[i]? = some v := by
      unfold start at h2
      rw [List.getElem?_append_left (by simpa using hi), List.getElem?_map] at h2
      cases e : vs[i]? with
      | none => rw [e] at h2; cases h2
      | some a => rw [e] at h2; cases h2; rfl
    obtain ⟨u, hu, rv⟩ := r.get ha
    have hp : ps[i]? = some y := by
      rw [← S.pre, List.getElem?_take_of_lt (by omega)]; exact h1
    have ndP : ps.Nodup := by rw [← S.pre]; exact S.nd.sublist (List.take_sublist _ _)
    refine ⟨u, rv, ?_⟩
    rcases S.par y (List.mem_of_getElem? hp) with k | k
    · exact .inl ⟨k, bindL_get ndP hp hu k⟩
    · obtain ⟨c, e⟩ := cell_has (n := s.heap.objs.size + 1) k
      refine .inr ⟨.inl k, c, e, ?_⟩
      have q := x.cell y c e
      rw [bindC_get ndP hp hu (by show scope.names.lookup y ≠ _; rw [k]; decide)] at q
      exact q
  · exact e0.hok.fresh (Nat.le_of_lt (x.above y c (PySem.mem_of_lookup h)))
  · unfold start
    show _ = N.length
    rw [List.length_append, List.length_map, List.length_replicate]
    omega
theorem fn_ofH {CX : CXT} {P : Program} {w : World} {K : PySem.W.Frag} {mg : Str → Option Value} {base : Heap} {k : Nat} {f : Addr} {name qual : Str} {params : Arguments} {body : List Stmt} {scope : Scope} {dV kV doc pm cdv ct oc : Value} {an od : Option Addr}
    {osl : Array (Option Value)} {N ps : List Str} {sp : Sp} (lk : K.lookup f = some ⟨oc, od, .func (PySem.W.fnOf name qual params body scope dV kV doc pm an cdv ct), osl⟩) (hcd : PySem.W.codeIn K cdv qual = true) (S : FnScope N ps scope)
    (len : ∀ vs H Q E, sp vs H Q E → vs.length = ps.length)
    (hbody : ∀ (A : Around) (outer : List Env) (s : Shared) (H : Hp) (vs : List V) (Q : VK) (E : XK), RoomX k (A.deeper (envOfC qual scope s.heap.objs.size f cdv)) → QuietAt A H → sp vs H Q E →
      ∃ t, PSs (cxOfH CX P w K mg base N qual scope f cdv A outer s H E) body t ∧ t { nx := fun _ H' => Q .non H', rt := Q } (start N vs) H) :
    FnOkH P w K mg base CX (k + 1) f (PySem.W.fnOf name qual params body scope dV kV doc pm an cdv ct) ps sp := by
  refine ⟨len, fun A outer s H args us vs Q E hr hq0 e0 hb r hsp => ?_⟩
  have hl := len _ _ _ _ hsp
  have KX : K.In s.heap := e0.mod.kin.keeps fun b o e => (e0.bs b o e).1
  have lim : s.heap.NoLimit := e0.mod.nolimit.keeps fun b o e => (e0.bs b o e).1
  have hkind : ∀ y ∈ ps.zip us, scope.names.lookup y.1 = some .local ∨ (scope.names.lookup y.1 = some .cell ∧ ((cellsFrom (s.heap.objs.size + 1) scope.names []).lookup y.1).isSome = true) := fun ⟨n, v⟩ hy => by
    rcases S.par n (List.of_mem_zip hy).1 with q | q
    · exact .inl q
    · exact .inr ⟨q, PySem.W.cellsFrom_some _ _ _ (.inl q)⟩
  refine codeAny_call_function hr.depth (KX _ _ lk) rfl S.co S.gen rfl (PySem.W.codeRec_of KX hcd) (hb _ _ _ _ ?_)
  refine wpAny_newFunctionEnv_cells S.kind hkind fun env he s1 x => ?_
  subst he
  refine ⟨lim.keeps x.toInCall.keep, codeAny_func ?_⟩
  obtain ⟨t, ht, hq⟩ := hbody A outer s H vs Q E (hr.deeper _) hq0 hsp
  have I : Inv (cxOfH CX P w K mg base N qual scope f cdv A outer s H E) [] (start N vs) H s1 := inv_startH S e0 hl r x
  refine wpAny_mono (ht [] s1 (start N vs) H _ I hq) (fun fl s' hs => ?_) fun e s' hs => hs
  have fin : ∀ {σ' : St} {H' : Hp} {v : V} {u : Value}, Inv (cxOfH CX P w K mg base N qual scope f cdv A outer s H E) [] σ' H' s' → RelV v u → Q v H' → CE outer P w H s Q u s' :=
    fun {σ' H' v u} J rv q => ⟨v, H', J.os, J.bare, J.base, J.hok, rv, q⟩
  cases fl with
  | ret u =>
    obtain ⟨v, σ', H', J, rv, q⟩ := hs
    exact fin J rv q
  | next =>
    obtain ⟨σ', H', J, q⟩ := hs
    exact fin (v := V.non) (u := Value.none) J rfl q
  | brk =>
    obtain ⟨_, _, _, q⟩ := hs
    exact False.elim q
  | cont =>
    obtain ⟨_, _, _, q⟩ := hs
    exact False.elim q
structure TurnQ (P : Program) (w : World) (K : PySem.W.Frag) (tg : Expr) (J : It) (fp : List Addr) (it : Addr) (tn : Nat → Heap → Prop) : Prop where
  mem : it ∈ fp
  obj : ∀ i h, tn i h → ∀ b ∈ fp, ∃ o, h.get? b = some o ∧ ∀ v, o.data ≠ .cell v
  keep : ∀ i h h', tn i h → (∀ b ∈ fp, ∀ o, h.get? b = some o → h'.get? b = some o) → tn i h'
  item : ∀ (X : Cx), X.prog = P → X.w = w → X.K = K → Quiet X → ∀ (i : Nat) (pins : List (Addr × Obj)) (s : Shared) (σ : St) (H : Hp) (E : Value → Shared → Prop), Inv X pins σ H s → (∀ b ∈ fp, FpOk X pins H b) → tn i s.heap → J.go i H →
    wpAny (model P w) X.A (pyNext (.ref it)) (fun r s1 => ∃ u, r = some u ∧
      wpAny (model P w) X.A (letOwnedTupleGo tg (.ref it) u) (fun _ s2 => ∃ x H', Inv X pins σ H' s2 ∧ RelV x u ∧ J.yld i H x H' ∧ tn (i + 1) s2.heap ∧ ∀ b ∈ fp, H' b = none) E s1) E s
  done : ∀ (X : Cx), X.prog = P → X.w = w → X.K = K → Quiet X → ∀ (i : Nat) (pins : List (Addr × Obj)) (s : Shared) (σ : St) (H : Hp) (E : Value → Shared → Prop), Inv X pins σ H s → (∀ b ∈ fp, FpOk X pins H b) → tn i s.heap → J.stop i H →
    wpAny (model P w) X.A (pyNext (.ref it)) (fun r s1 => r = none ∧ Inv X pins σ H s1) E s
  self : ∀ (A : Around) (i : Nat) (s : Shared) (Q : Value → Shared → Prop) (E : Value → Shared → Prop), tn i s.heap → Q (.ref it) s → wpAny (model P w) A (pyIter (.ref it)) Q E s
noncomputable def PIQE (X : Cx) (pins : List (Addr × Obj)) (σ : St) (tg : Expr) (R : It → Hp → Prop) (itv : Value) (s2 : Shared) : Prop :=
  ∃ (it : Addr) (fp : List Addr) (tn : Nat → Heap → Prop) (J : It) (H' : Hp), itv = .ref it ∧ Inv X pins σ H' s2 ∧ TurnQ X.prog X.w X.K tg J fp it tn ∧ tn 0 s2.heap ∧ (∀ b ∈ fp, FpOk X pins H' b) ∧ R J H'
noncomputable def PIQ (X : Cx) (tg iter : Expr) (wi : TI) : Prop :=
  ∀ (pins : List (Addr × Obj)) (s : Shared) (σ : St) (H : Hp) (R : It → Hp → Prop), Inv X pins σ H s → wi σ H R →
    wpAny (model X.prog X.w) X.A (eval iter X.env) (fun v s1 => wpAny (model X.prog X.w) X.A (pyIter v) (PIQE X pins σ tg R) X.xe s1) X.xe s
section
variable {X : Cx} {tg : Expr}
end
section
variable {P : Program} {w : World} {K : PySem.W.Frag} {mg : Str → Option Value} {base : Heap}
structure CalleeH (P : Program) (w : World) (K : PySem.W.Frag) (mg : Str → Option Value) (base : Heap) (x : Str) (k : Nat) (ps : List Str) (sp : Sp) : Prop where
  ex : ∃ f fd, mg x = some (.ref f) ∧ PySem.W.keepIn K (.ref f) = true ∧ Binds K fd ps [] ∧ FnOkH P w K mg base CX0 k f fd ps sp
theorem HasDef.okH {x : Str} {st : Stmt} {N ps : List Str} {n : Nat} {sp : Sp} (D : HasDef K mg x st) (S : FnScope N ps (defScope st))
    (hb : ∀ (kV doc pm : Value) (an : Option Addr) (cdv ct : Value) (us : List Value), us.length = ps.length → bindArgs (PySem.W.fnOf x x (defArgs st) (defBody st) (defScope st) .none kV doc pm an cdv ct) ⟨us, []⟩ = pure (ps.zip us))
    (len : ∀ vs H Q E, sp vs H Q E → vs.length = ps.length)
    (hbody : ∀ (f : Addr) (cdv : Value) (A : Around) (outer : List Env) (s : Shared) (H : Hp) (vs : List V) (Q : VK) (E : XK), RoomX n (A.deeper (envOfC x (defScope st) s.heap.objs.size f cdv)) → QuietAt A H → sp vs H Q E →
      ∃ t, PSs (cxOfH CX0 P w K mg base N x (defScope st) f cdv A outer s H E).nox (defBody st) t ∧ t { nx := fun _ H' => Q .non H', rt := Q } (start N vs) H) : CalleeH P w K mg base x (n + 1) ps sp := by
  obtain ⟨f, fd, F, hm⟩ := D.ex
  refine ⟨f, fd, hm, F.kp, F.binds hb, ?_⟩
  obtain ⟨oc, od, kV, doc, pm, an, cdv, ct, osl, rfl, lk, hcd⟩ := F.ex
  refine fn_ofH lk hcd S len fun A outer s H vs Q E hr hq h => ?_
  obtain ⟨t, ht, q⟩ := hbody f cdv A outer s H vs Q E hr hq h
  exact ⟨t, PSs.nox ht, q⟩
end
noncomputable def tCallH (A : Around) (sp : Sp) (t : TA) : TE := fun σ H Q => t σ H fun vs H1 => QuietAt A H1 ∧ sp (vs ++ []) H1 Q E0
theorem pe_callH {X : Cx} {x : Str} {k n : Nat} {ps : List Str} {sp : Sp} {e : Expr} {es : List Expr} {t : TA} {p pos : Pos} (C : CalleeH X.prog X.w X.K X.mg X.base x k ps sp) (hr : RoomX n X.A) (hk : k ≤ n) (hg : Gl X x) (ha : PA X (e :: es) t)
    (hdb : (x == ("__debug__" : Str)) = false := by decide) (he : starEach (e :: es) X.env = (false, eval e X.env) :: starEach es X.env := by rfl) (hpl : (backTo pos (starEach es X.env)).any (·.1) = false := by rfl) :
    PE X (.Call (.Name x p) (e :: es) [] pos) (tCallH X.A sp t) := by
  obtain ⟨f, fd, hm, hkp, hb, F⟩ := C.ex
  intro pins s σ H Q I h
  refine wpAny_Call_Name_kw (ld_glob I hg hm ?_ hdb)
  refine PySem.W.callWith_K (h₀ := X.base) I.ok.mod.kin hkp (thn (ha pos pins s σ H _ I h) fun us s1 ⟨vs, H1, I1, r, hq0, q⟩ => ⟨I1.kIn, ?_⟩) he hpl
  have r2 : Vals (vs ++ []) (us ++ []) := r.append .nil
  have hl : (us ++ []).length = ps.length := by rw [← r2.length]; exact F.len _ _ _ _ q
  refine wpAny_call (codeAny_mono (F.run X.A X.stack s1 H1 ⟨us, []⟩ (us ++ []) (vs ++ []) Q E0 (hr.mono hk) hq0 I1.env0 (hb s1 us I1.kIn hl) r2 q) fun r s' hq => ?_)
  cases r with
  | error e => exact hq.elim
  | ok fl =>
    cases fl with
    | ret u => exact I1.after hq
    | next => exact hq.elim
    | brk => exact hq.elim
    | cont => exact hq.elim
end L2
set_option maxHeartbeats 4000000
namespace Nim
noncomputable def N (d : Nat) : Nat := 2 ^ (2 ^ d)
theorem N_pos (d : Nat) : 0 < N d := Nat.two_pow_pos _
theorem N_succ (d : Nat) : N (d + 1) = N d * N d := by
  unfold N; rw [← Nat.pow_add, Nat.pow_succ]; congr 1; omega
theorem two_le_N (d : Nat) : 2 ≤ N d := by
  unfold N
  calc 2 = 2 ^ 1 := rfl
    _ ≤ 2 ^ (2 ^ d) := Nat.pow_le_pow_right (by decide) (Nat.one_le_two_pow)
theorem xor_lt {d a b : Nat} (ha : a < N d) (hb : b < N d) : a ^^^ b < N d := Nat.xor_lt_two_pow ha hb
theorem xor_div (a b d : Nat) : (a ^^^ b) / N d = a / N d ^^^ b / N d := Nat.xor_div_two_pow
theorem xor_mod (a b d : Nat) : (a ^^^ b) % N d = a % N d ^^^ b % N d := Nat.xor_mod_two_pow
theorem xor_mul (a b d : Nat) : (a ^^^ b) * N d = a * N d ^^^ b * N d := by
  unfold N; rw [← Nat.shiftLeft_eq, ← Nat.shiftLeft_eq, ← Nat.shiftLeft_eq, Nat.shiftLeft_xor_distrib]
theorem pack_div {d x y : Nat} (hy : y < N d) : (x * N d ^^^ y) / N d = x := by
  rw [xor_div, Nat.mul_div_cancel _ (N_pos d), Nat.div_eq_of_lt hy, Nat.xor_zero]
theorem pack_mod {d x y : Nat} (hy : y < N d) : (x * N d ^^^ y) % N d = y := by
  rw [xor_mod, Nat.mul_mod_left, Nat.mod_eq_of_lt hy, Nat.zero_xor]
theorem pack_eq {d x y : Nat} (hy : y < N d) : x * N d ^^^ y = x * N d + y := by
  have h1 := pack_div (x := x) hy
  have h2 := pack_mod (x := x) hy
  have h3 := Nat.div_add_mod (x * N d ^^^ y) (N d)
  rw [h1, h2, Nat.mul_comm] at h3
  exact h3.symm
theorem pack_lt {d x y : Nat} (hx : x < N d) (hy : y < N d) : x * N d ^^^ y < N (d + 1) := by
  rw [pack_eq hy, N_succ]
  have h : (x + 1) * N d ≤ N d * N d := Nat.mul_le_mul_right _ hx
  rw [Nat.add_mul, Nat.one_mul] at h
  omega
theorem unpack {d a : Nat} : (a / N d) * N d ^^^ a % N d = a := by
  rw [pack_eq (Nat.mod_lt _ (N_pos d)), Nat.mul_comm]; exact Nat.div_add_mod a (N d)
theorem div_lt {d a : Nat} (h : a < N (d + 1)) : a / N d < N d := by
  rw [N_succ] at h; exact Nat.div_lt_of_lt_mul h
theorem mod_lt {d a : Nat} : a % N d < N d := Nat.mod_lt _ (N_pos d)
theorem half_lt (d : Nat) : N d / 2 < N d := Nat.div_lt_self (N_pos d) (by decide)
noncomputable def nim : Nat → Nat → Nat → Nat
  | 0, a, b => a * b
  | d + 1, a, b =>
    (nim d (a / N d ^^^ a % N d) (b / N d ^^^ b % N d) ^^^ nim d (a % N d) (b % N d)) * N d
      ^^^ nim d (nim d (a / N d) (b / N d)) (N d / 2) ^^^ nim d (a % N d) (b % N d)
structure Fld (n : Nat) (m : Nat → Nat → Nat) : Prop where
  lt : ∀ {a b}, a < n → b < n → m a b < n
  comm : ∀ {a b}, a < n → b < n → m a b = m b a
  add : ∀ {a b c}, a < n → b < n → c < n → m a (b ^^^ c) = m a b ^^^ m a c
  assoc : ∀ {a b c}, a < n → b < n → c < n → m (m a b) c = m a (m b c)
  one : ∀ {a}, a < n → m 1 a = a
theorem Fld.zero {n m a} (h : Fld n m) (ha : a < n) (hn : 0 < n) : m a 0 = 0 := by
  have e := h.add ha hn hn
  rw [Nat.xor_self, Nat.xor_self] at e
  exact e
theorem xor_cancel (x y : Nat) : (x ^^^ y) ^^^ y = x := by rw [Nat.xor_assoc, Nat.xor_self, Nat.xor_zero]
theorem fld0 : Fld (N 0) (nim 0) := by
  have e : N 0 = 2 := rfl
  have two : ∀ {a : Nat}, a < N 0 → a = 0 ∨ a = 1 := by intro a h; rw [e] at h; omega
  refine ⟨?_, ?_, ?_, ?_, ?_⟩
  · intro a b ha hb; rcases two ha with rfl | rfl <;> rcases two hb with rfl | rfl <;> decide
  · intro a b ha hb; exact Nat.mul_comm a b
  · intro a b c ha hb hc; rcases two ha with rfl | rfl <;> rcases two hb with rfl | rfl <;> rcases two hc with rfl | rfl <;> decide
  · intro a b c ha hb hc; exact Nat.mul_assoc a b c
  · intro a ha; exact Nat.one_mul a
theorem nim_succ {d : Nat} (F : Fld (N d) (nim d)) {a b : Nat} (ha : a < N (d + 1)) (hb : b < N (d + 1)) :
    nim (d + 1) a b = (nim d (a / N d) (b / N d) ^^^ nim d (a / N d) (b % N d) ^^^ nim d (a % N d) (b / N d)) * N d
      ^^^ (nim d (nim d (a / N d) (b / N d)) (N d / 2) ^^^ nim d (a % N d) (b % N d)) := by
  have a1 := div_lt ha
  have a0 : a % N d < N d := mod_lt
  have b1 := div_lt hb
  have b0 : b % N d < N d := mod_lt
  show (nim d (a / N d ^^^ a % N d) (b / N d ^^^ b % N d) ^^^ nim d (a % N d) (b % N d)) * N d
      ^^^ nim d (nim d (a / N d) (b / N d)) (N d / 2) ^^^ nim d (a % N d) (b % N d) = _
  rw [Nat.xor_assoc (_ * N d)]
  congr 2
  rw [F.add (xor_lt a1 a0) b1 b0, F.comm (xor_lt a1 a0) b1, F.comm (xor_lt a1 a0) b0, F.add b1 a1 a0, F.add b0 a1 a0,
    F.comm b1 a1, F.comm b1 a0, F.comm b0 a1, F.comm b0 a0]
  generalize nim d (a / N d) (b / N d) = p
  generalize nim d (a / N d) (b % N d) = q
  generalize nim d (a % N d) (b / N d) = r
  generalize nim d (a % N d) (b % N d) = t
  rw [← Nat.xor_assoc, xor_cancel, Nat.xor_assoc, Nat.xor_assoc, Nat.xor_comm r q]
theorem fldS {d : Nat} (F : Fld (N d) (nim d)) : Fld (N (d + 1)) (nim (d + 1)) := by
  have Hlt : ∀ {a b}, a < N (d + 1) → b < N (d + 1) → nim (d + 1) a b < N (d + 1) := by
    intro a b ha hb
    have a1 := div_lt ha
    have a0 : a % N d < N d := mod_lt
    have b1 := div_lt hb
    have b0 : b % N d < N d := mod_lt
    rw [nim_succ F ha hb]
    exact pack_lt (xor_lt (xor_lt (F.lt a1 b1) (F.lt a1 b0)) (F.lt a0 b1)) (xor_lt (F.lt (F.lt a1 b1) (half_lt d)) (F.lt a0 b0))
  refine ⟨Hlt, ?_, ?_, ?_, ?_⟩
  · intro a b ha hb
    have a1 := div_lt ha
    have a0 : a % N d < N d := mod_lt
    have b1 := div_lt hb
    have b0 : b % N d < N d := mod_lt
    rw [nim_succ F ha hb, nim_succ F hb ha, F.comm a1 b1, F.comm a1 b0, F.comm a0 b1, F.comm a0 b0]
    congr 2
    rw [Nat.xor_assoc, Nat.xor_assoc, Nat.xor_comm (nim d (b % N d) _)]
  · intro a b c ha hb hc
    have a1 := div_lt ha
    have a0 : a % N d < N d := mod_lt
    have b1 := div_lt hb
    have b0 : b % N d < N d := mod_lt
    have c1 := div_lt hc
    have c0 : c % N d < N d := mod_lt
    have k := half_lt d
    rw [nim_succ F ha (xor_lt hb hc), nim_succ F ha hb, nim_succ F ha hc, xor_div, xor_mod,
      F.add a1 b1 c1, F.add a1 b0 c0, F.add a0 b1 c1, F.add a0 b0 c0,
      F.comm (xor_lt (F.lt a1 b1) (F.lt a1 c1)) k, F.add k (F.lt a1 b1) (F.lt a1 c1), F.comm k (F.lt a1 b1), F.comm k (F.lt a1 c1)]
    simp only [xor_mul]
    ac_rfl
  · intro a b c ha hb hc
    have a1 := div_lt ha
    have a0 : a % N d < N d := mod_lt
    have b1 := div_lt hb
    have b0 : b % N d < N d := mod_lt
    have c1 := div_lt hc
    have c0 : c % N d < N d := mod_lt
    have k := half_lt d
    have lab := xor_lt (F.lt (F.lt a1 b1) k) (F.lt a0 b0)
    have lbc := xor_lt (F.lt (F.lt b1 c1) k) (F.lt b0 c0)
    rw [nim_succ F (Hlt ha hb) hc, nim_succ F ha (Hlt hb hc), nim_succ F ha hb, nim_succ F hb hc]
    rw [pack_div lab, pack_mod lab, pack_div lbc, pack_mod lbc]
    generalize a / N d = x1 at *
    generalize a % N d = x0 at *
    generalize b / N d = y1 at *
    generalize b % N d = y0 at *
    generalize c / N d = z1 at *
    generalize c % N d = z0 at *
    generalize N d / 2 = e at *
    have add3 : ∀ {u v w t : Nat}, u < N d → v < N d → w < N d → t < N d → nim d (u ^^^ v ^^^ w) t = nim d u t ^^^ nim d v t ^^^ nim d w t := by
      intro u v w t hu hv hw ht
      rw [F.comm (xor_lt (xor_lt hu hv) hw) ht, F.add ht (xor_lt hu hv) hw, F.add ht hu hv, F.comm hu ht, F.comm hv ht, F.comm hw ht]
    have add3' : ∀ {u v w t : Nat}, u < N d → v < N d → w < N d → t < N d → nim d t (u ^^^ v ^^^ w) = nim d t u ^^^ nim d t v ^^^ nim d t w := by
      intro u v w t hu hv hw ht
      rw [F.add ht (xor_lt hu hv) hw, F.add ht hu hv]
    have add2 : ∀ {u v t : Nat}, u < N d → v < N d → t < N d → nim d (u ^^^ v) t = nim d u t ^^^ nim d v t := by
      intro u v t hu hv ht
      rw [F.comm (xor_lt hu hv) ht, F.add ht hu hv, F.comm hu ht, F.comm hv ht]
    have sw : ∀ {u v : Nat}, u < N d → v < N d → nim d (nim d u e) v = nim d (nim d u v) e := by
      intro u v hu hv
      rw [F.assoc hu k hv, F.comm k hv, ← F.assoc hu hv k]
    have p11 := F.lt a1 b1
    have p10 := F.lt a1 b0
    have p01 := F.lt a0 b1
    have p00 := F.lt a0 b0
    have q11 := F.lt b1 c1
    have q10 := F.lt b1 c0
    have q01 := F.lt b0 c1
    have q00 := F.lt b0 c0
    rw [add3 p11 p10 p01 c1, add3 p11 p10 p01 c0, add2 (F.lt p11 k) p00 c1, add2 (F.lt p11 k) p00 c0,
      add3' q11 q10 q01 a1, add3' q11 q10 q01 a0, F.add a1 (F.lt q11 k) q00, F.add a0 (F.lt q11 k) q00]
    rw [sw p11 c1, sw p11 c0, ← F.assoc a1 q11 k, ← F.assoc a0 q11 k]
    rw [F.assoc a1 b1 c1, F.assoc a1 b0 c1, F.assoc a0 b1 c1, F.assoc a1 b1 c0, F.assoc a1 b0 c0, F.assoc a0 b1 c0, F.assoc a0 b0 c1, F.assoc a0 b0 c0]
    rw [add3 (F.lt a1 q11) (F.lt a1 q01) (F.lt a0 q11) k, add3 (F.lt a1 q11) (F.lt a1 q10) (F.lt a1 q01) k]
    simp only [xor_mul]
    ac_rfl
  · intro a ha
    have a1 := div_lt ha
    have a0 : a % N d < N d := mod_lt
    have one_lt : 1 < N d := by have := two_le_N d; omega
    have o1 : (1 : Nat) < N (d + 1) := by have := two_le_N (d + 1); omega
    rw [nim_succ F o1 ha, Nat.div_eq_of_lt one_lt, Nat.mod_eq_of_lt one_lt]
    have z := N_pos d
    rw [F.comm z a1, F.zero a1 z, F.comm z a0, F.zero a0 z, F.one a1, F.one a0, F.comm z (half_lt d), F.zero (half_lt d) z]
    rw [Nat.xor_zero, Nat.zero_xor, Nat.zero_xor]
    exact unpack
theorem fld : ∀ d, Fld (N d) (nim d)
  | 0 => fld0
  | d + 1 => fldS (fld d)
theorem xor_and_add : ∀ (n a b : Nat), a ≤ n → (a ^^^ b) + 2 * (a &&& b) = a + b := by
  intro n
  induction n with
  | zero => intro a b h; have : a = 0 := by omega
            subst this; simp
  | succ n ih =>
    intro a b h
    by_cases h0 : a = 0
    · subst h0; simp
    · have i := ih (a / 2) (b / 2) (by omega)
      have x1 : (a ^^^ b) / 2 = a / 2 ^^^ b / 2 := Nat.xor_div_two
      have x2 : (a &&& b) / 2 = a / 2 &&& b / 2 := Nat.and_div_two
      have y1 : (a ^^^ b) % 2 = a % 2 ^^^ b % 2 := by
        have := @Nat.xor_mod_two_pow a b 1; simpa using this
      have y2 : (a &&& b) % 2 = a % 2 &&& b % 2 := by
        have := @Nat.and_mod_two_pow a b 1; simpa using this
      rw [← x1, ← x2] at i
      have d1 := Nat.div_add_mod (a ^^^ b) 2
      have d2 := Nat.div_add_mod (a &&& b) 2
      have e : (a % 2 ^^^ b % 2) + 2 * (a % 2 &&& b % 2) = a % 2 + b % 2 := by
        rcases Nat.mod_two_eq_zero_or_one a with p | p <;> rcases Nat.mod_two_eq_zero_or_one b with q | q <;> rw [p, q] <;> decide
      rw [y1] at d1
      rw [y2] at d2
      omega
noncomputable def xI (x y : Int) : Int := ((x.toNat ^^^ y.toNat : Nat) : Int)
theorem xI_nonneg (x y : Int) : 0 ≤ xI x y := Int.natCast_nonneg _
theorem xI_lt {x y : Int} (k : Nat) (hx : x < 2 ^ k) (hy : y < 2 ^ k) : xI x y < 2 ^ k := by
  have e : ((2 ^ k : Nat) : Int) = 2 ^ k := by simp
  have p : 0 < 2 ^ k := Nat.two_pow_pos k
  have a : x.toNat < 2 ^ k := by omega
  have b : y.toNat < 2 ^ k := by omega
  have c := Nat.xor_lt_two_pow a b
  unfold xI
  omega
theorem N4 : N 4 = 65536 := by decide
theorem N3 : N 3 = 256 := by decide
theorem N2 : N 2 = 16 := by decide
theorem N1 : N 1 = 4 := by decide
theorem N0 : N 0 = 2 := by decide
noncomputable def pI (a b d : Int) : Int := ((nim (d.toNat % 5) (a.toNat % N (d.toNat % 5)) (b.toNat % N (d.toNat % 5)) : Nat) : Int)
theorem pI_nonneg (a b d : Int) : 0 ≤ pI a b d := Int.natCast_nonneg _
theorem pI_nat {a b d : Nat} (hd : d < 5) (ha : a < N d) (hb : b < N d) : pI (a : Int) (b : Int) (d : Int) = ((nim d a b : Nat) : Int) := by
  unfold pI
  rw [Int.toNat_natCast, Int.toNat_natCast, Int.toNat_natCast, Nat.mod_eq_of_lt hd, Nat.mod_eq_of_lt ha, Nat.mod_eq_of_lt hb]
theorem pI_lt (a b d : Int) : pI a b d < ((N (d.toNat % 5) : Nat) : Int) := by
  unfold pI
  exact Int.ofNat_lt.mpr ((fld _).lt mod_lt mod_lt)
theorem pI_lt0 (a b : Int) : pI a b 0 < 2 := by have := pI_lt a b 0; simpa [N] using this
theorem pI_lt1 (a b : Int) : pI a b 1 < 4 := by have := pI_lt a b 1; simpa [N] using this
theorem pI_lt2 (a b : Int) : pI a b 2 < 16 := by have := pI_lt a b 2; simpa [N] using this
theorem pI_lt3 (a b : Int) : pI a b 3 < 256 := by have := pI_lt a b 3; simpa [N] using this
theorem small {d a b : Nat} (ha : a < N d) (hb : b < N d) (h : a < 2 ∨ b < 2) : nim d a b = a * b := by
  have F := fld d
  have z := N_pos d
  rcases h with h | h
  · rcases (show a = 0 ∨ a = 1 by omega) with rfl | rfl
    · rw [F.comm z hb, F.zero hb z, Nat.zero_mul]
    · rw [F.one hb, Nat.one_mul]
  · rcases (show b = 0 ∨ b = 1 by omega) with rfl | rfl
    · rw [F.zero ha z, Nat.mul_zero]
    · rw [F.comm ha (by have := two_le_N d; omega), F.one ha, Nat.mul_one]
theorem pI_small {a b d : Int} (a0 : 0 ≤ a) (b0 : 0 ≤ b) (d0 : 0 ≤ d) (hd : d < 5) (ha : a.toNat < N d.toNat) (hb : b.toNat < N d.toNat) (h : a < 2 ∨ b < 2) :
    a * b = pI a b d := by
  obtain ⟨a, rfl⟩ := Int.eq_ofNat_of_zero_le a0
  obtain ⟨b, rfl⟩ := Int.eq_ofNat_of_zero_le b0
  obtain ⟨d, rfl⟩ := Int.eq_ofNat_of_zero_le d0
  simp only [Int.toNat_natCast] at ha hb
  rw [pI_nat (by omega) ha hb, small ha hb (by omega)]
  exact (Int.natCast_mul a b).symm
theorem xI_nat (a b : Nat) : xI (a : Int) (b : Int) = ((a ^^^ b : Nat) : Int) := rfl
theorem pI_turn {a b : Int} (e : Nat) (he : e < 4) (a0 : 0 ≤ a) (b0 : 0 ≤ b) (ha : a.toNat < N (e + 1)) (hb : b.toNat < N (e + 1)) (B : Int) (hB : B = (N e : Nat)) :
    xI (xI (xI (pI (xI (a / B) (a % B)) (xI (b / B) (b % B)) e) (pI (a % B) (b % B) e) * B) (pI (pI (a / B) (b / B) e) (B / 2) e)) (pI (a % B) (b % B) e)
      = pI a b ((e : Int) + 1) := by
  obtain ⟨a, rfl⟩ := Int.eq_ofNat_of_zero_le a0
  obtain ⟨b, rfl⟩ := Int.eq_ofNat_of_zero_le b0
  simp only [Int.toNat_natCast] at ha hb
  subst hB
  have a1 := div_lt ha
  have a2 : a % N e < N e := mod_lt
  have b1 := div_lt hb
  have b2 : b % N e < N e := mod_lt
  have k := half_lt e
  have F := fld e
  have he5 : e < 5 := by omega
  have c1 : ((a : Int) / (N e : Nat)) = ((a / N e : Nat) : Int) := rfl
  have c2 : ((a : Int) % (N e : Nat)) = ((a % N e : Nat) : Int) := rfl
  have c3 : ((b : Int) / (N e : Nat)) = ((b / N e : Nat) : Int) := rfl
  have c4 : ((b : Int) % (N e : Nat)) = ((b % N e : Nat) : Int) := rfl
  have c5 : (((N e : Nat) : Int) / 2) = ((N e / 2 : Nat) : Int) := rfl
  have c6 : ((e : Int) + 1) = ((e + 1 : Nat) : Int) := rfl
  rw [c1, c2, c3, c4, c5, c6, xI_nat, xI_nat, pI_nat he5 (xor_lt a1 a2) (xor_lt b1 b2), pI_nat he5 a2 b2, pI_nat he5 a1 b1, pI_nat he5 (F.lt a1 b1) k,
    xI_nat, ← Int.natCast_mul, xI_nat, xI_nat, pI_nat (by omega) ha hb]
  rfl
theorem turn1 {a b : Int} (a0 : 0 ≤ a) (b0 : 0 ≤ b) (ha : a < 4) (hb : b < 4) :
    xI (xI (xI (pI (xI (a / 2) (a % 2)) (xI (b / 2) (b % 2)) 0) (pI (a % 2) (b % 2) 0) * 2) (pI (pI (a / 2) (b / 2) 0) 1 0)) (pI (a % 2) (b % 2) 0) = pI a b 1 :=
  pI_turn 0 (by decide) a0 b0 (by rw [N1]; omega) (by rw [N1]; omega) 2 (by decide)
theorem turn2 {a b : Int} (a0 : 0 ≤ a) (b0 : 0 ≤ b) (ha : a < 16) (hb : b < 16) :
    xI (xI (xI (pI (xI (a / 4) (a % 4)) (xI (b / 4) (b % 4)) 1) (pI (a % 4) (b % 4) 1) * 4) (pI (pI (a / 4) (b / 4) 1) 2 1)) (pI (a % 4) (b % 4) 1) = pI a b 2 :=
  pI_turn 1 (by decide) a0 b0 (by rw [N2]; omega) (by rw [N2]; omega) 4 (by decide)
theorem turn3 {a b : Int} (a0 : 0 ≤ a) (b0 : 0 ≤ b) (ha : a < 256) (hb : b < 256) :
    xI (xI (xI (pI (xI (a / 16) (a % 16)) (xI (b / 16) (b % 16)) 2) (pI (a % 16) (b % 16) 2) * 16) (pI (pI (a / 16) (b / 16) 2) 8 2)) (pI (a % 16) (b % 16) 2) = pI a b 3 :=
  pI_turn 2 (by decide) a0 b0 (by rw [N3]; omega) (by rw [N3]; omega) 16 (by decide)
theorem turn4 {a b : Int} (a0 : 0 ≤ a) (b0 : 0 ≤ b) (ha : a < 65536) (hb : b < 65536) :
    xI (xI (xI (pI (xI (a / 256) (a % 256)) (xI (b / 256) (b % 256)) 3) (pI (a % 256) (b % 256) 3) * 256) (pI (pI (a / 256) (b / 256) 3) 128 3)) (pI (a % 256) (b % 256) 3) = pI a b 4 :=
  pI_turn 3 (by decide) a0 b0 (by rw [N4]; omega) (by rw [N4]; omega) 256 (by decide)
noncomputable def tI (a b : Int) : Int := pI a b 4
theorem F4 : Fld 65536 (nim 4) := by have := fld 4; rwa [N4] at this
end Nim
set_option maxHeartbeats 4000000
namespace Row
noncomputable def xs {α : Type} (f : α → Nat) : List α → Nat
  | [] => 0
  | a :: r => f a ^^^ xs f r
theorem xs_append {α : Type} (f : α → Nat) : ∀ l r : List α, xs f (l ++ r) = xs f l ^^^ xs f r
  | [], r => by simp [xs]
  | a :: l, r => by simp [xs, xs_append f l r, Nat.xor_assoc]
theorem xs_congr {α : Type} {f g : α → Nat} : ∀ {l : List α}, (∀ a ∈ l, f a = g a) → xs f l = xs g l
  | [], _ => rfl
  | a :: l, h => by
    simp only [xs]
    rw [h a List.mem_cons_self, xs_congr fun b hb => h b (List.mem_cons_of_mem _ hb)]
theorem xs_lt {α : Type} {f : α → Nat} {k : Nat} : ∀ {l : List α}, (∀ a ∈ l, f a < 2 ^ k) → xs f l < 2 ^ k
  | [], _ => Nat.two_pow_pos k
  | a :: l, h => Nat.xor_lt_two_pow (h a List.mem_cons_self) (xs_lt fun b hb => h b (List.mem_cons_of_mem _ hb))
theorem xs_testBit {α : Type} (f : α → Nat) (i : Nat) : ∀ l : List α, (xs f l).testBit i = true → ∃ a ∈ l, (f a).testBit i = true
  | [], h => by simp [xs] at h
  | a :: l, h => by
    cases e : (f a).testBit i with
    | true => exact ⟨a, List.mem_cons_self, e⟩
    | false =>
      simp only [xs, Nat.testBit_xor, e, Bool.false_xor] at h
      obtain ⟨b, hb, q⟩ := xs_testBit f i l h
      exact ⟨b, List.mem_cons_of_mem _ hb, q⟩
noncomputable def mexGo (S : List Nat) : Nat → Nat → Nat
  | 0, n => n
  | k + 1, n => if n ∈ S then mexGo S k (n + 1) else n
noncomputable def mex (S : List Nat) : Nat := mexGo S S.length 0
theorem len_ge : ∀ (n : Nat) {S : List Nat}, (∀ m, m < n → m ∈ S) → n ≤ S.length
  | 0, _, _ => Nat.zero_le _
  | n + 1, S, h => by
    have hn : n ∈ S := h n (Nat.lt_succ_self n)
    have i := len_ge n (S := S.erase n) fun m hm => (List.mem_erase_of_ne (Nat.ne_of_lt hm)).mpr (h m (Nat.lt_succ_of_lt hm))
    rw [List.length_erase_of_mem hn] at i
    have := List.length_pos_of_mem hn
    omega
theorem mexGo_all {S : List Nat} : ∀ (k n : Nat), (∀ m, m < n → m ∈ S) → ∀ m, m < mexGo S k n → m ∈ S
  | 0, n, h => h
  | k + 1, n, h => by
    unfold mexGo
    by_cases c : n ∈ S
    · rw [if_pos c]
      exact mexGo_all k (n + 1) fun m hm => (Nat.lt_succ_iff_lt_or_eq.mp hm).elim (h m) fun e => e ▸ c
    · rw [if_neg c]
      exact h
theorem mexGo_not {S : List Nat} : ∀ (k n : Nat), (∀ m, m < n → m ∈ S) → S.length ≤ n + k → mexGo S k n ∉ S
  | 0, n, h, hl => by
    unfold mexGo
    intro c
    have := len_ge (n + 1) (S := S) fun m hm => (Nat.lt_succ_iff_lt_or_eq.mp hm).elim (h m) fun e => e ▸ c
    omega
  | k + 1, n, h, hl => by
    unfold mexGo
    by_cases c : n ∈ S
    · rw [if_pos c]
      exact mexGo_not k (n + 1) (fun m hm => (Nat.lt_succ_iff_lt_or_eq.mp hm).elim (h m) fun e => e ▸ c) (by omega)
    · rw [if_neg c]
      exact c
theorem mex_all {S : List Nat} {m : Nat} (h : m < mex S) : m ∈ S := mexGo_all S.length 0 (fun _ h => absurd h (Nat.not_lt_zero _)) m h
theorem mex_not (S : List Nat) : mex S ∉ S := mexGo_not S.length 0 (fun _ h => absurd h (Nat.not_lt_zero _)) (by omega)
theorem mex_le (S : List Nat) : mex S ≤ S.length := len_ge _ fun _ h => mex_all h
theorem mex_is {S : List Nat} {n : Nat} (h1 : ∀ m, m < n → m ∈ S) (h2 : n ∉ S) : mex S = n := by
  rcases Nat.lt_trichotomy (mex S) n with h | h | h
  · exact absurd (h1 _ h) (mex_not S)
  · exact h
  · exact absurd (mex_all h) h2
theorem mex_congr {S T : List Nat} (h : ∀ m, m ∈ S ↔ m ∈ T) : mex S = mex T :=
  mex_is (fun _ hm => (h _).mpr (mex_all hm)) (fun q => mex_not T ((h _).mp q))
noncomputable abbrev Rule := Nat × Nat
noncomputable def shapes (r : Rule) (last : Nat) : List (List Nat) :=
  (List.range' 1 r.2).flatMap fun many =>
    if r.1 = 2 then (if many ≤ last + 1 then [(List.range many).map fun k => last + 1 - many + k] else [])
    else if r.1 = 0 ∨ many = r.2 then
      (if many = 1 then [[last]] else []) ++ (if many = 2 then (List.range last).map fun one => [one, last] else []) ++
      (if many = 3 then (List.range last).flatMap fun one => (List.range' (one + 1) (last - (one + 1))).map fun two => [one, two, last] else [])
    else []
noncomputable def IsShape (last : Nat) (s : List Nat) : Prop := ∃ a : List Nat, s = a ++ [last] ∧ (∀ p ∈ a, p < last) ∧ a.Pairwise (· < ·)
theorem shapes_is {r : Rule} {last : Nat} {s : List Nat} (h : s ∈ shapes r last) : IsShape last s := by
  unfold shapes at h
  obtain ⟨many, hm, h⟩ := List.mem_flatMap.mp h
  rw [List.mem_range'_1] at hm
  by_cases c : r.1 = 2
  · rw [if_pos c] at h
    by_cases d : many ≤ last + 1
    · rw [if_pos d] at h
      have h := List.mem_singleton.mp h
      obtain ⟨k, rfl⟩ : ∃ k, many = k + 1 := ⟨many - 1, by omega⟩
      refine ⟨(List.range k).map fun j => last + 1 - (k + 1) + j, ?_, ?_, ?_⟩
      · rw [h, List.range_succ, List.map_append]
        simp
        omega
      · intro p hp
        obtain ⟨j, hj, rfl⟩ := List.mem_map.mp hp
        have := List.mem_range.mp hj
        omega
      · rw [List.pairwise_map]
        exact List.Pairwise.imp (fun h => by omega) List.pairwise_lt_range
    · rw [if_neg d] at h
      exact absurd h (by simp)
  · rw [if_neg c] at h
    by_cases d : r.1 = 0 ∨ many = r.2
    · rw [if_pos d] at h
      rcases List.mem_append.mp h with h | h
      · rcases List.mem_append.mp h with h | h
        · split at h
          · exact ⟨[], by simpa using h, by simp, by simp⟩
          · exact absurd h (by simp)
        · split at h
          · obtain ⟨one, ho, rfl⟩ := List.mem_map.mp h
            exact ⟨[one], rfl, by simpa using List.mem_range.mp ho, by simp⟩
          · exact absurd h (by simp)
      · split at h
        · obtain ⟨one, ho, h⟩ := List.mem_flatMap.mp h
          obtain ⟨two, ht, rfl⟩ := List.mem_map.mp h
          rw [List.mem_range'_1] at ht
          have ho := List.mem_range.mp ho
          exact ⟨[one, two], rfl, by intro p hp; simp at hp; omega, by simp; omega⟩
        · exact absurd h (by simp)
    · rw [if_neg d] at h
      exact absurd h (by simp)
noncomputable def at0 (told : List Nat) (p : Nat) : Nat := told.getD p 0
noncomputable def reach (r : Rule) (told : List Nat) (last : Nat) : List Nat := (shapes r last).map fun s => xs (at0 told) s.dropLast
noncomputable def nums (r : Rule) : Nat → List Nat
  | 0 => []
  | n + 1 => nums r n ++ [mex (reach r (nums r n) n)]
theorem nums_length (r : Rule) : ∀ n, (nums r n).length = n
  | 0 => rfl
  | n + 1 => by simp [nums, nums_length r n]
noncomputable def num (r : Rule) (p : Nat) : Nat := mex (reach r (nums r p) p)
theorem nums_at (r : Rule) : ∀ {n p : Nat}, p < n → at0 (nums r n) p = num r p
  | 0, p, h => absurd h (Nat.not_lt_zero _)
  | n + 1, p, h => by
    unfold at0
    by_cases c : p < n
    · have ih := nums_at r c
      unfold at0 at ih
      rw [List.getD_eq_getElem?_getD] at ih ⊢
      show ((nums r n ++ _)[p]?).getD 0 = _
      rw [List.getElem?_append_left (by rw [nums_length]; exact c)]
      exact ih
    · have e : p = n := by omega
      subst e
      rw [List.getD_eq_getElem?_getD]
      show ((nums r p ++ [num r p])[p]?).getD 0 = _
      rw [List.getElem?_append_right (by rw [nums_length]; exact Nat.le_refl _), nums_length]
      simp
theorem reach_eq (r : Rule) (last : Nat) {n : Nat} (h : last ≤ n) : reach r (nums r n) last = (shapes r last).map fun s => xs (num r) s.dropLast := by
  unfold reach
  apply List.map_congr_left
  intro s hs
  obtain ⟨a, rfl, hl, _⟩ := shapes_is hs
  rw [List.dropLast_concat]
  exact xs_congr fun p hp => nums_at r (by have := hl p hp; omega)
theorem num_eq (r : Rule) (p : Nat) : num r p = mex ((shapes r p).map fun s => xs (num r) s.dropLast) := by
  rw [num, reach_eq r p (Nat.le_refl _)]
theorem turn_not_zero {r : Rule} {last : Nat} {s : List Nat} (h : s ∈ shapes r last) : xs (num r) s ≠ 0 := by
  obtain ⟨a, rfl, _, _⟩ := shapes_is h
  intro e
  rw [xs_append] at e
  have e2 : xs (num r) a = num r last := by
    have e1 : xs (num r) [last] = num r last := by simp [xs]
    rw [e1] at e
    have := congrArg (· ^^^ num r last) e
    simp only [Nat.xor_assoc, Nat.xor_self, Nat.xor_zero, Nat.zero_xor] at this
    exact this
  have m : num r last ∈ (shapes r last).map fun s => xs (num r) s.dropLast :=
    List.mem_map.mpr ⟨_, h, by simpa using e2⟩
  have := mex_not ((shapes r last).map fun s => xs (num r) s.dropLast)
  rw [← num_eq] at this
  exact this m
theorem xor_lt_self {a v : Nat} (hv : v ≠ 0) (h : a.testBit v.log2 = true) : a ^^^ v < a := by
  have e1 : v / 2 ^ v.log2 = 1 := by
    have l1 := Nat.log2_self_le hv
    have l2 : v < 2 ^ (v.log2 + 1) := Nat.lt_log2_self
    rw [Nat.pow_succ] at l2
    exact Nat.div_eq_of_lt_le (by omega) (by omega)
  have odd : a / 2 ^ v.log2 % 2 = 1 := by
    rw [Nat.testBit_eq_decide_div_mod_eq] at h
    exact of_decide_eq_true h
  generalize v.log2 = k at e1 odd
  have q : (a ^^^ v) / 2 ^ k = a / 2 ^ k ^^^ 1 := by rw [Nat.xor_div_two_pow, e1]
  have q2 : (a / 2 ^ k ^^^ 1) / 2 = a / 2 ^ k / 2 := by rw [Nat.xor_div_two]; simp
  have q3 : (a / 2 ^ k ^^^ 1) % 2 = 0 := by
    have := @Nat.xor_mod_two_pow (a / 2 ^ k) 1 1
    simp only [Nat.pow_one] at this
    rw [this, odd]
    all_goals rfl
  have lt : (a ^^^ v) / 2 ^ k < a / 2 ^ k := by rw [q]; omega
  exact Nat.lt_of_not_le fun z => absurd (Nat.div_le_div_right (c := 2 ^ k) z) (by omega)
theorem turn_to_zero {r : Rule} {heads : List Nat} (h : xs (num r) heads ≠ 0) : ∃ last ∈ heads, ∃ s ∈ shapes r last, xs (num r) s = xs (num r) heads := by
  obtain ⟨p, hp, hb⟩ := xs_testBit (num r) _ heads (Nat.testBit_log2 h)
  have lt := xor_lt_self h hb
  rw [num_eq r p] at lt
  obtain ⟨s, hs, e⟩ := List.mem_map.mp (mex_all lt)
  rw [← num_eq] at e
  refine ⟨p, hp, s, hs, ?_⟩
  obtain ⟨a, rfl, _, _⟩ := shapes_is hs
  rw [List.dropLast_concat] at e
  rw [xs_append, e]
  simp only [xs, Nat.xor_zero]
  rw [Nat.xor_comm, ← Nat.xor_assoc, Nat.xor_self, Nat.zero_xor]
end Row
set_option maxHeartbeats 4000000
namespace Nim
noncomputable def NoZero (n : Nat) (m : Nat → Nat → Nat) : Prop := ∀ a b, a < n → b < n → m a b = 0 → a = 0 ∨ b = 0
noncomputable def NoRoot (d : Nat) : Prop := ∀ t, t < N d → nim d t t ^^^ t ≠ N d / 2
noncomputable def noRootB (d n : Nat) : Bool := (List.range n).all fun t => nim d t t ^^^ t != N d / 2
noncomputable def tab : List (List Nat) := [[0, 0, 0, 0, 0, 0, 0, 0, 0, 0, 0, 0, 0, 0, 0, 0, 0],
  [0, 1, 2, 3, 4, 5, 6, 7, 8, 9, 10, 11, 12, 13, 14, 15, 16],
  [0, 2, 3, 1, 8, 10, 11, 9, 12, 14, 15, 13, 4, 6, 7, 5, 32],
  [0, 3, 1, 2, 12, 15, 13, 14, 4, 7, 5, 6, 8, 11, 9, 10, 48],
  [0, 4, 8, 12, 6, 2, 14, 10, 11, 15, 3, 7, 13, 9, 5, 1, 64],
  [0, 5, 10, 15, 2, 7, 8, 13, 3, 6, 9, 12, 1, 4, 11, 14, 80],
  [0, 6, 11, 13, 14, 8, 5, 3, 7, 1, 12, 10, 9, 15, 2, 4, 96],
  [0, 7, 9, 14, 10, 13, 3, 4, 15, 8, 6, 1, 5, 2, 12, 11, 112],
  [0, 8, 12, 4, 11, 3, 7, 15, 13, 5, 1, 9, 6, 14, 10, 2, 128],
  [0, 9, 14, 7, 15, 6, 1, 8, 5, 12, 11, 2, 10, 3, 4, 13, 144],
  [0, 10, 15, 5, 3, 9, 12, 6, 1, 11, 14, 4, 2, 8, 13, 7, 160],
  [0, 11, 13, 6, 7, 12, 10, 1, 9, 2, 4, 15, 14, 5, 3, 8, 176],
  [0, 12, 4, 8, 13, 1, 9, 5, 6, 10, 2, 14, 11, 7, 15, 3, 192],
  [0, 13, 6, 11, 9, 4, 15, 2, 14, 3, 8, 5, 7, 10, 1, 12, 208],
  [0, 14, 7, 9, 5, 11, 2, 12, 10, 4, 13, 3, 15, 1, 8, 6, 224],
  [0, 15, 5, 10, 1, 14, 4, 11, 2, 13, 7, 8, 3, 12, 6, 9, 240],
  [0, 16, 32, 48, 64, 80, 96, 112, 128, 144, 160, 176, 192, 208, 224, 240, 24]]
noncomputable def tb (a b : Nat) : Nat := (tab.getD a []).getD b 0
noncomputable def maskD (a b c : Nat) : Nat → Nat
  | 0 => 0
  | d + 1 => maskD a b c d ||| 1 <<< (tb c b ^^^ tb a d ^^^ tb c d)
noncomputable def maskC (a b : Nat) : Nat → Nat
  | 0 => 0
  | c + 1 => maskC a b c ||| maskD a b c b
end Nim
namespace Row
open Nim
noncomputable def cross (as bs : List Nat) : List (Nat × Nat) := as.flatMap fun x => bs.map fun y => (x, y)
noncomputable def num2 (rx ry : Rule) (p : Nat × Nat) : Nat := nim 4 (num rx p.1) (num ry p.2)
end Row
set_option maxHeartbeats 4000000
namespace Row
noncomputable def Sorted (l : List Nat) : Prop := l.Pairwise (· < ·)
theorem sorted_ext : ∀ {l r : List Nat}, Sorted l → Sorted r → (∀ a, a ∈ l ↔ a ∈ r) → l = r
  | [], [], _, _, _ => rfl
  | [], b :: r, _, _, h => absurd ((h b).mpr List.mem_cons_self) (by simp)
  | a :: l, [], _, _, h => absurd ((h a).mp List.mem_cons_self) (by simp)
  | a :: l, b :: r, hl, hr, h => by
    obtain ⟨hl1, hl2⟩ := List.pairwise_cons.mp hl
    obtain ⟨hr1, hr2⟩ := List.pairwise_cons.mp hr
    have e : a = b := by
      rcases List.mem_cons.mp ((h a).mp List.mem_cons_self) with q | q
      · exact q
      · rcases List.mem_cons.mp ((h b).mpr List.mem_cons_self) with z | z
        · exact z.symm
        · have := hr1 a q
          have := hl1 b z
          omega
    subst e
    rw [sorted_ext hl2 hr2 fun c => ?_]
    constructor
    · intro hc
      rcases List.mem_cons.mp ((h c).mp (List.mem_cons_of_mem _ hc)) with q | q
      · have := hl1 c hc; omega
      · exact q
    · intro hc
      rcases List.mem_cons.mp ((h c).mpr (List.mem_cons_of_mem _ hc)) with q | q
      · have := hr1 c hc; omega
      · exact q
theorem sorted_filter (n : Nat) (p : Nat → Bool) : Sorted ((List.range n).filter p) := List.Pairwise.filter _ List.pairwise_lt_range
theorem filter_self {l : List Nat} {n : Nat} (h : Sorted l) (hn : ∀ a ∈ l, a < n) : (List.range n).filter (fun a => decide (a ∈ l)) = l := by
  refine sorted_ext (sorted_filter n _) h fun a => ?_
  rw [List.mem_filter, List.mem_range, decide_eq_true_iff]
  exact ⟨fun q => q.2, fun q => ⟨hn a q, q⟩⟩
noncomputable def behind (n : Nat) (heads s : List Nat) : List Nat := (List.range n).filter fun a => decide (a ∈ heads) != decide (a ∈ s)
theorem shape_le {r : Rule} {last : Nat} {s : List Nat} (h : s ∈ shapes r last) : ∀ p ∈ s, p ≤ last := fun p hp => by
  obtain ⟨a, rfl, hl, _⟩ := shapes_is h
  rcases List.mem_append.mp hp with q | q
  · exact Nat.le_of_lt (hl p q)
  · rw [List.mem_singleton.mp q]; exact Nat.le_refl _
noncomputable def weight (l : List Nat) : Nat := xs (fun p => 2 ^ p) l
theorem num_le (r : Rule) (p : Nat) : num r p ≤ (shapes r p).length := by
  rw [num_eq]
  have := mex_le ((shapes r p).map fun s => xs (num r) s.dropLast)
  simpa using this
theorem flat_len {α β : Type} {f : α → List β} {m : Nat} : ∀ {l : List α}, (∀ a ∈ l, (f a).length ≤ m) → (l.flatMap f).length ≤ l.length * m
  | [], _ => by simp
  | a :: l, h => by
    have h1 := h a List.mem_cons_self
    have h2 := flat_len fun b hb => h b (List.mem_cons_of_mem _ hb)
    rw [List.flatMap_cons, List.length_append, List.length_cons, Nat.add_mul]
    omega
theorem shapes_run_len (k p : Nat) : (shapes (2, k) p).length ≤ k := by
  have := flat_len (f := fun many => if (2 : Nat) = 2 then (if many ≤ p + 1 then [(List.range many).map fun j => p + 1 - many + j] else []) else []) (m := 1) (l := List.range' 1 k) (fun a _ => by simp only [if_true]; split <;> simp)
  rw [List.length_range', Nat.mul_one] at this
  refine Nat.le_trans (Nat.le_of_eq ?_) this
  unfold shapes
  congr 1
theorem shapes_len {t k p : Nat} (ht : t ≠ 2) : (shapes (t, k) p).length ≤ k * (1 + p + p * p) := by
  have := flat_len (f := fun many => if t = 2 then (if many ≤ p + 1 then [(List.range many).map fun j => p + 1 - many + j] else [])
    else if t = 0 ∨ many = k then
      (if many = 1 then [[p]] else []) ++ (if many = 2 then (List.range p).map fun one => [one, p] else []) ++
      (if many = 3 then (List.range p).flatMap fun one => (List.range' (one + 1) (p - (one + 1))).map fun two => [one, two, p] else [])
    else []) (m := 1 + p + p * p) (l := List.range' 1 k) (fun a _ => ?_)
  · rw [List.length_range'] at this
    exact this
  · rw [if_neg ht]
    split
    · rw [List.length_append, List.length_append]
      have h1 : (if a = 1 then [[p]] else [] : List (List Nat)).length ≤ 1 := by split <;> simp
      have h2 : (if a = 2 then (List.range p).map fun one => [one, p] else [] : List (List Nat)).length ≤ p := by split <;> simp
      have h3 : (if a = 3 then (List.range p).flatMap fun one => (List.range' (one + 1) (p - (one + 1))).map fun two => [one, two, p] else [] : List (List Nat)).length ≤ p * p := by
        split
        · have := flat_len (f := fun one => (List.range' (one + 1) (p - (one + 1))).map fun two => [one, two, p]) (m := p) (l := List.range p) (fun b _ => by simp <;> omega)
          simpa using this
        · simp
      omega
    · simp
noncomputable def Good (r : Rule) : Prop := ((r.1 = 0 ∨ r.1 = 1) ∧ 1 ≤ r.2 ∧ r.2 ≤ 3) ∨ (r.1 = 2 ∧ 1 ≤ r.2 ∧ r.2 ≤ 40)
theorem num_lt {r : Rule} {p : Nat} (h : Good r) (hp : p < 40) : num r p < 8192 := by
  have l := num_le r p
  rcases h with ⟨h1, _, h2⟩ | ⟨h1, _, h2⟩
  · have q := shapes_len (t := r.1) (k := r.2) (p := p) (by omega)
    have e : (r.1, r.2) = r := rfl
    rw [e] at q
    have a : p * p ≤ 39 * 39 := Nat.mul_le_mul (by omega) (by omega)
    have b : r.2 * (1 + p + p * p) ≤ 3 * (1 + 39 + 39 * 39) := Nat.mul_le_mul h2 (by omega)
    omega
  · have q := shapes_run_len r.2 p
    have e : (2, r.2) = r := by rw [← h1]
    rw [e] at q
    omega
end Row
set_option Elab.async false
set_option linter.all false
set_option maxRecDepth 100000
set_option maxHeartbeats 4000000
namespace K4
open Nim
theorem small {a b d : Int} (a0 : 0 ≤ a) (b0 : 0 ≤ b) (P : (d = 0 ∧ a < 2 ∧ b < 2) ∨ (d = 1 ∧ a < 4 ∧ b < 4) ∨ (d = 2 ∧ a < 16 ∧ b < 16) ∨ (d = 3 ∧ a < 256 ∧ b < 256) ∨ (d = 4 ∧ a < 65536 ∧ b < 65536)) (h : a < 2 ∨ b < 2) : a * b = pI a b d := by
  rcases P with ⟨rfl, h1, h2⟩ | ⟨rfl, h1, h2⟩ | ⟨rfl, h1, h2⟩ | ⟨rfl, h1, h2⟩ | ⟨rfl, h1, h2⟩
  · exact pI_small a0 b0 (by decide) (by decide) (by show a.toNat < N 0; rw [N0]; omega) (by show b.toNat < N 0; rw [N0]; omega) h
  · exact pI_small a0 b0 (by decide) (by decide) (by show a.toNat < N 1; rw [N1]; omega) (by show b.toNat < N 1; rw [N1]; omega) h
  · exact pI_small a0 b0 (by decide) (by decide) (by show a.toNat < N 2; rw [N2]; omega) (by show b.toNat < N 2; rw [N2]; omega) h
  · exact pI_small a0 b0 (by decide) (by decide) (by show a.toNat < N 3; rw [N3]; omega) (by show b.toNat < N 3; rw [N3]; omega) h
  · exact pI_small a0 b0 (by decide) (by decide) (by show a.toNat < N 4; rw [N4]; omega) (by show b.toNat < N 4; rw [N4]; omega) h
end K4
namespace K1
open Nim
structure Part (one two bit total : Int) : Prop where
  ex : ∃ k : Nat, k ≤ 16 ∧ bit = ((2 ^ k : Nat) : Int) ∧ total = ((one.toNat % 2 ^ k ^^^ two.toNat % 2 ^ k : Nat) : Int)
theorem start (one two : Int) : (1 : Int) ≤ 1 ∧ (1 : Int) ≤ 65536 ∧ (0 : Int) ≤ 0 ∧ Part one two 1 0 :=
  ⟨by decide, by decide, by decide, ⟨0, by decide, by decide, by simp [Nat.mod_one]⟩⟩
theorem fd {x : Int} {k : Nat} (h : 0 ≤ x) : Int.fdiv x ((2 ^ k : Nat) : Int) % 2 = ((x.toNat / 2 ^ k % 2 : Nat) : Int) := by
  obtain ⟨n, rfl⟩ := Int.eq_ofNat_of_zero_le h
  rw [Int.fdiv_eq_ediv_of_nonneg _ (Int.natCast_nonneg _), Int.toNat_natCast]
  rfl
theorem out {one two bit total : Int} (h : Part one two bit total) (hb : ¬ bit < 65536) (l1 : one < 65536) (l2 : two < 65536) : total = xI one two := by
  obtain ⟨k, hk, eb, et⟩ := h
  have k16 : k = 16 := by
    rcases Nat.lt_or_ge k 16 with h | h
    · have := Nat.pow_lt_pow_right (a := 2) (by decide) h
      have e : (2 : Nat) ^ 16 = 65536 := by decide
      omega
    · omega
  subst k16
  have e : (2 : Nat) ^ 16 = 65536 := by decide
  rw [e] at et
  rw [et, Nat.mod_eq_of_lt (by omega), Nat.mod_eq_of_lt (by omega)]
  rfl
end K1
set_option Elab.async false
set_option linter.all false
set_option maxRecDepth 100000
set_option maxHeartbeats 4000000
namespace L2
open PySem PySem.Spec PyProof.Rows PySem.SeqAt
inductive Dt where
  | int (i : Int) | str (x : Str) | seq (t : Bool) (xs : List Dt)
noncomputable def Dat (K : PySem.W.Frag) (H : Hp) : Nat → Dt → V → Prop
  | 0, d, v => match d with
    | .int i => v = .int i
    | .str x => v = .str x
    | .seq _ _ => False
  | n + 1, d, v => match d with
    | .int i => v = .int i
    | .str x => v = .str x
    | .seq t xs => ∃ p vs, v = .ref p ∧ (if t = true then SqT K H p vs else SqL K H p vs) ∧ Paired (Dat K H n) xs vs
theorem Dat.int {K : PySem.W.Frag} {H : Hp} {n : Nat} {i : Int} {v : V} : Dat K H n (.int i) v ↔ v = .int i := by cases n <;> exact Iff.rfl
theorem Dat.str {K : PySem.W.Frag} {H : Hp} {n : Nat} {x : Str} {v : V} : Dat K H n (.str x) v ↔ v = .str x := by cases n <;> exact Iff.rfl
theorem paired_get {α β : Type} {F : α → β → Prop} : ∀ {l : List α} {r : List β} {i : Nat} {b : β}, Paired F l r → r[i]? = some b → ∃ a, l[i]? = some a ∧ F a b
  | _, _, i, b, .nil, h => by simp at h
  | _, _, 0, b, .cons f _, h => by simp at h; subst h; exact ⟨_, rfl, f⟩
  | _, _, i + 1, b, .cons _ t, h => by
    obtain ⟨a, h1, h2⟩ := paired_get (i := i) (b := b) t (by simpa using h)
    exact ⟨a, by simpa using h1, h2⟩
section
variable {X : Cx} {pins : List (Addr × Obj)} {σ : St} {H : Hp} {s : Shared}
theorem not_both (I : Inv X pins σ H s) {p : Addr} {vs ws : List V} (h1 : SqT X.K H p vs) (h2 : SqL X.K H p ws) : False := by
  obtain ⟨_, _, ⟨o, e, c, _⟩, _⟩ := I.tuple h1
  obtain ⟨_, _, ⟨o', n', e', c', _⟩, _⟩ := I.list h2
  rw [e] at e'
  cases e'
  rw [c] at c'
  exact absurd c' (by decide)
theorem paired_inj {α β : Type} {F G : α → β → Prop} (h : ∀ a a' b, F a b → G a' b → a = a') : ∀ {xs ys : List α} {vs : List β}, Paired F xs vs → Paired G ys vs → xs = ys
  | _, _, _, .nil, .nil => rfl
  | _, _, _, .cons r t, .cons r' t' => by rw [h _ _ _ r r', paired_inj h t t']
theorem dat_inj (I : Inv X pins σ H s) : ∀ (n : Nat) {d d' : Dt} {v : V}, Dat X.K H n d v → Dat X.K H n d' v → d = d'
  | 0, d, d', v, h, h' => by
    cases d <;> cases d' <;> first
      | exact (h : False).elim
      | exact (h' : False).elim
      | (have e := h.symm.trans h'; cases e <;> rfl)
  | n + 1, d, d', v, h, h' => by
    cases d with
    | int i =>
      cases d' with
      | int j => have e := h.symm.trans h'; cases e; rfl
      | str y => have e := h.symm.trans h'; cases e
      | seq t ys => obtain ⟨p, vs, e, _⟩ := h'; have e := h.symm.trans e; cases e
    | str x =>
      cases d' with
      | int j => have e := h.symm.trans h'; cases e
      | str y => have e := h.symm.trans h'; cases e; rfl
      | seq t ys => obtain ⟨p, vs, e, _⟩ := h'; have e := h.symm.trans e; cases e
    | seq t xs =>
      obtain ⟨p, vs, e, hs, r⟩ := h
      cases d' with
      | int j => have e := e.symm.trans h'; cases e
      | str y => have e := e.symm.trans h'; cases e
      | seq t' ys =>
        obtain ⟨q, ws, e', hs', r'⟩ := h'
        have e := e.symm.trans e'
        cases e
        cases t with
        | true =>
          rw [if_pos rfl] at hs
          cases t' with
          | true =>
            rw [if_pos rfl] at hs'
            have := I.tuple_inj hs hs'
            subst this
            rw [paired_inj (F := Dat X.K H n) (G := Dat X.K H n) (fun _ _ _ h h' => dat_inj I n h h') r r']
          | false =>
            rw [if_neg Bool.false_ne_true] at hs'
            exact (not_both I hs hs').elim
        | false =>
          rw [if_neg Bool.false_ne_true] at hs
          cases t' with
          | true =>
            rw [if_pos rfl] at hs'
            exact (not_both I hs' hs).elim
          | false =>
            rw [if_neg Bool.false_ne_true] at hs'
            have := I.list_inj hs hs'
            subst this
            rw [paired_inj (F := Dat X.K H n) (G := Dat X.K H n) (fun _ _ _ h h' => dat_inj I n h h') r r']
theorem all_range {e : Nat → Bool} {n : Nat} : (List.range n).all e = true ↔ ∀ j, j < n → e j = true := by simp
theorem items_eq {A : Around} {xs ys : List Dt} {vs ws : List V} {us us' : List Value} {n : Nat} (r : Vals vs us) (r' : Vals ws us') (h : Paired (Dat X.K H n) xs vs) (h' : Paired (Dat X.K H n) ys ws)
    (ih : ∀ (dx dy : Dt) (x y : V) (u v : Value), RelV x u → RelV y v → Dat X.K H n dx x → Dat X.K H n dy y → ∃ b, EqAt A s u v b ∧ (b = true ↔ dx = dy)) :
    ∃ e : Nat → Bool, ∀ j, (∀ (h1 : j < us.toArray.size) (h2 : j < us'.toArray.size), EqAt A s us.toArray[j] us'.toArray[j] (e j)) ∧ (j < us.length → j < us'.length → (e j = true ↔ xs[j]? = ys[j]?)) := by
  have key : ∀ j : Nat, ∃ b : Bool, (∀ (h1 : j < us.toArray.size) (h2 : j < us'.toArray.size), EqAt A s us.toArray[j] us'.toArray[j] b) ∧ (j < us.length → j < us'.length → (b = true ↔ xs[j]? = ys[j]?)) := ?_
  · exact ⟨fun j => Classical.choose (key j), fun j => Classical.choose_spec (key j)⟩
  intro j
  by_cases c : j < us.length ∧ j < us'.length
  · have l1 : j < vs.length := by rw [r.length]; exact c.1
    have l2 : j < ws.length := by rw [r'.length]; exact c.2
    obtain ⟨u, hu, ru⟩ := r.get (List.getElem?_eq_getElem l1)
    obtain ⟨u', hu', ru'⟩ := r'.get (List.getElem?_eq_getElem l2)
    obtain ⟨dx, hx, ix⟩ := paired_get h (List.getElem?_eq_getElem l1)
    obtain ⟨dy, hy, iy⟩ := paired_get h' (List.getElem?_eq_getElem l2)
    obtain ⟨b, hb, hiff⟩ := ih dx dy _ _ u u' ru ru' ix iy
    refine ⟨b, fun h1 h2 => ?_, fun _ _ => ?_⟩
    · have e1 : us.toArray[j] = u := by
        have : us[j]? = some us[j] := List.getElem?_eq_getElem c.1
        rw [hu] at this
        simpa using (Option.some.inj this).symm
      have e2 : us'.toArray[j] = u' := by
        have : us'[j]? = some us'[j] := List.getElem?_eq_getElem c.2
        rw [hu'] at this
        simpa using (Option.some.inj this).symm
      rw [e1, e2]
      exact hb
    · rw [hx, hy, hiff]
      exact ⟨fun z => by rw [z], fun z => Option.some.inj z⟩
  · refine ⟨true, fun h1 h2 => absurd ⟨by simpa using h1, by simpa using h2⟩ c, fun h1 h2 => absurd ⟨h1, h2⟩ c⟩
theorem ext_items {xs ys : List Dt} {e : Nat → Bool} {n : Nat} (h1 : xs.length = n) (h2 : ys.length = n) (he : ∀ j, j < n → (e j = true ↔ xs[j]? = ys[j]?)) : (List.range n).all e = true ↔ xs = ys := by
  rw [all_range]
  constructor
  · intro h
    refine List.ext_getElem? fun j => ?_
    rcases Nat.lt_or_ge j n with l | l
    · exact (he j l).mp (h j l)
    · rw [List.getElem?_eq_none (by omega), List.getElem?_eq_none (by omega)]
  · rintro rfl j l
    exact (he j l).mpr rfl
theorem eqD (I : Inv X pins σ H s) : ∀ (n : Nat) (A : Around) (dx dy : Dt) (x y : V) (u v : Value), A.units + n < cLine → RelV x u → RelV y v → Dat X.K H n dx x → Dat X.K H n dy y → ∃ b, EqAt A s u v b ∧ (b = true ↔ dx = dy)
  | n, A, dx, dy, x, y, u, v, hu, rx, ry, hx, hy => by
    have hu0 : A.units < cLine := by omega
    have seqs : ∀ {t : Bool} {zs : List Dt} {z : V} {w' : Value}, RelV z w' → Dat X.K H n (.seq t zs) z → ∃ m p vs us, z = .ref p ∧ n = m + 1 ∧ w' = .ref p ∧ Vals vs us ∧ Paired (Dat X.K H m) zs vs ∧ (t = true → s.heap.IsTuple p us.toArray ∧ SqT X.K H p vs) ∧ (t = false → s.heap.IsList p us.toArray ∧ SqL X.K H p vs) := by
      intro t zs z w' rz hz
      cases n with
      | zero => exact (hz : False).elim
      | succ m =>
        obtain ⟨p, vs, rfl, hs, r⟩ := hz
        cases rz
        cases t with
        | true =>
          rw [if_pos rfl] at hs
          obtain ⟨us, rv, pl, _⟩ := I.tuple hs
          exact ⟨m, p, vs, us, rfl, rfl, rfl, rv, r, fun _ => ⟨pl, hs⟩, (fun z => nomatch z)⟩
        | false =>
          rw [if_neg Bool.false_ne_true] at hs
          obtain ⟨us, rv, pl, _⟩ := I.list hs
          exact ⟨m, p, vs, us, rfl, rfl, rfl, rv, r, (fun z => nomatch z), fun _ => ⟨pl.isList, hs⟩⟩
    cases dx with
    | int i =>
      cases Dat.int.mp hx
      obtain ⟨t, rfl⟩ := rx
      cases dy with
      | int j =>
        cases Dat.int.mp hy
        obtain ⟨t', rfl⟩ := ry
        exact ⟨_, EqAt.int_int i t j t', by simp⟩
      | str z =>
        cases Dat.str.mp hy
        obtain ⟨t', rfl⟩ := ry
        exact ⟨_, EqAt.int_str i t z t', by simp⟩
      | seq b ys =>
        obtain ⟨m, p, vs, us, _, _, rfl, _, _, h1, h2⟩ := seqs ry hy
        cases b with
        | true => exact ⟨_, EqAt.int_tuple i t (h1 rfl).1 hu0, by simp⟩
        | false => exact ⟨_, EqAt.int_list i t (h2 rfl).1 hu0, by simp⟩
    | str z =>
      cases Dat.str.mp hx
      obtain ⟨t, rfl⟩ := rx
      cases dy with
      | int j =>
        cases Dat.int.mp hy
        obtain ⟨t', rfl⟩ := ry
        exact ⟨_, EqAt.str_int z t j t', by simp⟩
      | str z' =>
        cases Dat.str.mp hy
        obtain ⟨t', rfl⟩ := ry
        exact ⟨_, EqAt.str_str z t z' t', by simp⟩
      | seq b ys =>
        obtain ⟨m, p, vs, us, _, _, rfl, _, _, h1, h2⟩ := seqs ry hy
        cases b with
        | true => exact ⟨_, EqAt.str_tuple z t (h1 rfl).1 hu0, by simp⟩
        | false => exact ⟨_, EqAt.str_list z t (h2 rfl).1 hu0, by simp⟩
    | seq a xs =>
      obtain ⟨m, p, vs, us, ex, hm, rfl, rv, hp, h1, h2⟩ := seqs rx hx
      cases dy with
      | int j =>
        cases Dat.int.mp hy
        obtain ⟨t', rfl⟩ := ry
        cases a with
        | true => exact ⟨_, EqAt.tuple_int j t' (h1 rfl).1 hu0, by simp⟩
        | false => exact ⟨_, EqAt.list_int j t' (h2 rfl).1 hu0, by simp⟩
      | str z =>
        cases Dat.str.mp hy
        obtain ⟨t', rfl⟩ := ry
        cases a with
        | true => exact ⟨_, EqAt.tuple_str z t' (h1 rfl).1 hu0, by simp⟩
        | false => exact ⟨_, EqAt.list_str z t' (h2 rfl).1 hu0, by simp⟩
      | seq b ys =>
        obtain ⟨m', p', vs', us', ey, hm', rfl, rv', hp', h1', h2'⟩ := seqs ry hy
        have : m' = m := by omega
        subst this
        by_cases same : p = p'
        · subst same
          have e : x = y := by rw [ex, ey]
          subst e
          exact ⟨true, EqAt.same _, by simp [dat_inj I n hx hy]⟩
        have l1 : xs.length = us.length := by rw [← rv.length]; exact Paired.length hp
        have l2 : ys.length = us'.length := by rw [← rv'.length]; exact Paired.length hp'
        obtain ⟨e, he⟩ := items_eq (A := A.in1) rv rv' hp hp' (fun dx dy x y u v r1 r2 i1 i2 => eqD I m' A.in1 dx dy x y u v (by show A.units + 1 + m' < _; omega) r1 r2 i1 i2)
        cases a with
        | true =>
          cases b with
          | true =>
            refine ⟨_, EqAt.of_refs same (RcAt.tuples (h1 rfl).1 (h1' rfl).1 hu0 fun j a1 a2 => (he j).1 a1 a2), ?_⟩
            rw [Bool.and_eq_true]
            simp only [List.size_toArray, beq_iff_eq]
            constructor
            · rintro ⟨z1, z2⟩
              rw [z2, Nat.min_self] at z1
              rw [(ext_items (by omega) (by omega) fun j l => (he j).2 (by omega) l).mp z1]
            · intro z
              cases z
              have z2 : us.length = us'.length := by omega
              refine ⟨?_, z2⟩
              rw [z2, Nat.min_self]
              exact (ext_items (by omega) (by omega) fun j l => (he j).2 (by omega) l).mpr rfl
          | false => exact ⟨_, EqAt.tuple_list (h1 rfl).1 (h2' rfl).1 hu0, by simp⟩
        | false =>
          cases b with
          | true => exact ⟨_, EqAt.list_tuple (h2 rfl).1 (h1' rfl).1 hu0, by simp⟩
          | false =>
            by_cases hs : us.length = us'.length
            · refine ⟨_, EqAt.of_refs same (RcAt.lists (h2 rfl).1 (h2' rfl).1 (by simpa using hs) hu0 fun j a1 a2 => (he j).1 a1 a2), ?_⟩
              simp only [List.size_toArray]
              rw [ext_items (xs := xs) (ys := ys) (by omega) (by omega) fun j l => (he j).2 l (by omega)]
              simp
            · refine ⟨_, EqAt.of_refs same (RcAt.lists_lengths (h2 rfl).1 (h2' rfl).1 (by simpa using hs) hu0), ?_⟩
              simp
              intro z
              subst z
              exact hs (by omega)
termination_by n => n
decreasing_by all_goals omega
theorem rcD (I : Inv X pins σ H s) {n : Nat} {A : Around} {t : Bool} {xs ys : List Dt} {x y : V} {u v : Value} (hu : A.units + (n + 1) < cLine) (rx : RelV x u) (ry : RelV y v) (hx : Dat X.K H (n + 1) (.seq t xs) x) (hy : Dat X.K H (n + 1) (.seq t ys) y) :
    ∃ b, RcAt A s u v b ∧ RcNeAt A s u v (!b) ∧ (b = true ↔ xs = ys) := by
  obtain ⟨p, vs, rfl, hs, r⟩ := hx
  obtain ⟨p', vs', rfl, hs', r'⟩ := hy
  cases rx
  cases ry
  have hu0 : A.units < cLine := by omega
  have items : ∀ {us us' : List Value}, Vals vs us → Vals vs' us' → ∃ e : Nat → Bool, ∀ j, (∀ (h1 : j < us.toArray.size) (h2 : j < us'.toArray.size), EqAt A.in1 s us.toArray[j] us'.toArray[j] (e j)) ∧ (j < us.length → j < us'.length → (e j = true ↔ xs[j]? = ys[j]?)) :=
    fun rv rv' => items_eq (A := A.in1) rv rv' r r' (fun dx dy x y u v r1 r2 i1 i2 => eqD I n A.in1 dx dy x y u v (by show A.units + 1 + n < _; omega) r1 r2 i1 i2)
  cases t with
  | true =>
    rw [if_pos rfl] at hs hs'
    obtain ⟨us, rv, pl, _⟩ := I.tuple hs
    obtain ⟨us', rv', pl', _⟩ := I.tuple hs'
    obtain ⟨e, he⟩ := items rv rv'
    have l1 : xs.length = us.length := by rw [← rv.length]; exact Paired.length r
    have l2 : ys.length = us'.length := by rw [← rv'.length]; exact Paired.length r'
    refine ⟨_, RcAt.tuples pl pl' hu0 (fun j a1 a2 => (he j).1 a1 a2), RcNeAt.tuples pl pl' hu0 (fun j a1 a2 => (he j).1 a1 a2), ?_⟩
    rw [Bool.and_eq_true]
    simp only [List.size_toArray, beq_iff_eq]
    constructor
    · rintro ⟨z1, z2⟩
      rw [z2, Nat.min_self] at z1
      exact (ext_items (by omega) (by omega) fun j l => (he j).2 (by omega) l).mp z1
    · intro z
      have z2 : us.length = us'.length := by rw [← l1, ← l2, z]
      refine ⟨?_, z2⟩
      rw [z2, Nat.min_self]
      exact (ext_items (by omega) (by omega) fun j l => (he j).2 (by omega) l).mpr z
  | false =>
    rw [if_neg Bool.false_ne_true] at hs hs'
    obtain ⟨us, rv, pl, _⟩ := I.list hs
    obtain ⟨us', rv', pl', _⟩ := I.list hs'
    obtain ⟨e, he⟩ := items rv rv'
    have l1 : xs.length = us.length := by rw [← rv.length]; exact Paired.length r
    have l2 : ys.length = us'.length := by rw [← rv'.length]; exact Paired.length r'
    by_cases hz : us.length = us'.length
    · refine ⟨_, RcAt.lists pl.isList pl'.isList (by simpa using hz) hu0 (fun j a1 a2 => (he j).1 a1 a2), RcNeAt.lists pl.isList pl'.isList (by simpa using hz) hu0 (fun j a1 a2 => (he j).1 a1 a2), ?_⟩
      simp only [List.size_toArray]
      exact ext_items (xs := xs) (ys := ys) (by omega) (by omega) fun j l => (he j).2 l (by omega)
    · refine ⟨false, RcAt.lists_lengths pl.isList pl'.isList (by simpa using hz) hu0, RcNeAt.lists_lengths pl.isList pl'.isList (by simpa using hz) hu0, ?_⟩
      simp
      intro z
      exact hz (by rw [← l1, ← l2, z])
noncomputable def rEqD (K : PySem.W.Frag) (n : Nat) : R2 := fun x y H Q => ∃ t xs ys, Dat K H (n + 1) (.seq t xs) x ∧ Dat K H (n + 1) (.seq t ys) y ∧ ∀ b, (b = true ↔ xs = ys) → Q (.bl b) H
noncomputable def rNeD (K : PySem.W.Frag) (n : Nat) : R2 := fun x y H Q => ∃ t xs ys, Dat K H (n + 1) (.seq t xs) x ∧ Dat K H (n + 1) (.seq t ys) y ∧ ∀ b, (b = true ↔ ¬ xs = ys) → Q (.bl b) H
theorem op_eqD {n k : Nat} (hr : Room k X.A) (hn : n < 60) : OpR X (compareOp .Eq) (rEqD X.K n) := by
  intro pins s σ H x y u v Q I rx ry h
  obtain ⟨t, xs, ys, hx, hy, q⟩ := h
  obtain ⟨b, h1, _, hb⟩ := rcD I (A := X.A) (by have := hr.units; omega) rx ry hx hy
  exact h1 _ _ _ _ ⟨.bl b, H, I, rfl, q b hb⟩
noncomputable def rInD (K : PySem.W.Frag) (n : Nat) (neg : Bool) : R2 := fun x y H Q => ∃ dx t ds, Dat K H n dx x ∧ Dat K H (n + 1) (.seq t ds) y ∧ ∀ b, (b = true ↔ dx ∈ ds) → Q (.bl (if neg then !b else b)) H
end
end L2
set_option Elab.async false
set_option linter.all false
set_option maxRecDepth 100000
set_option maxHeartbeats 4000000
namespace L2
open PySem PySem.Spec PyProof.Rows
noncomputable def nl (xs : List Nat) : List V := xs.map fun (n : Nat) => V.int (n : Int)
theorem nl_length (xs : List Nat) : (nl xs).length = xs.length := List.length_map _
theorem nl_append (xs ys : List Nat) : nl (xs ++ ys) = nl xs ++ nl ys := List.map_append
theorem Same.upd {H0 H : Hp} {l : Addr} {o : HO} (h : Same H0 H) (n : H0 l = none) : Same H0 (upd H l o) := fun b u e => by
  rw [upd_ne (ne_of_none e n)]
  exact h b u e
theorem Same.new {H0 H : Hp} {p : Addr} {o : HO} (h : Same H0 H) (n : H p = none) : Same H0 (L2.upd H p o) := h.upd (h.free n)
noncomputable def RL (H0 H : Hp) (xss : List (List Nat)) (rs : List Addr) : Prop := Paired (fun xs r => H r = some (.lst (nl xs)) ∧ H0 r = none) xss rs
theorem RL.length {H0 H : Hp} {xss : List (List Nat)} {rs : List Addr} (h : RL H0 H xss rs) : xss.length = rs.length := Paired.length h
theorem RL.same {H0 H H' : Hp} {xss : List (List Nat)} {rs : List Addr} (h : RL H0 H xss rs) (e : Same H H') : RL H0 H' xss rs := Paired.mapP h fun _ _ q => ⟨e _ _ q.1, q.2⟩
theorem RL.base {H0 H1 H : Hp} {xss : List (List Nat)} {rs : List Addr} (h : RL H1 H xss rs) (e : Same H0 H1) : RL H0 H xss rs := Paired.mapP h fun _ _ q => ⟨q.1, e.free q.2⟩
theorem paired_app {α β : Type} {F : α → β → Prop} : ∀ {xs ys : List α} {rs ss : List β}, Paired F xs rs → Paired F ys ss → Paired F (xs ++ ys) (rs ++ ss)
  | _, _, _, _, .nil, h => h
  | _, _, _, _, .cons f t, h => .cons f (paired_app t h)
theorem RL.app {H0 H : Hp} {xss yss : List (List Nat)} {rs ss : List Addr} (h : RL H0 H xss rs) (h' : RL H0 H yss ss) : RL H0 H (xss ++ yss) (rs ++ ss) := paired_app h h'
theorem paired_mem {α β : Type} {F : α → β → Prop} : ∀ {xs : List α} {rs : List β} {r : β}, Paired F xs rs → r ∈ rs → ∃ x ∈ xs, F x r
  | _, _, _, .nil, h => by cases h
  | _, _, _, .cons f t, h => by
    rcases List.mem_cons.mp h with rfl | h
    · exact ⟨_, List.mem_cons_self, f⟩
    · obtain ⟨x, hx, q⟩ := paired_mem t h
      exact ⟨x, List.mem_cons_of_mem _ hx, q⟩
theorem RL.apart {H0 H : Hp} {xss : List (List Nat)} {rs : List Addr} {l : Addr} (h : RL H0 H xss rs) (e : H l = some (.lst (rs.map V.ref))) : l ∉ rs := fun hm => by
  obtain ⟨xs, _, q, _⟩ := paired_mem h hm
  rw [e] at q
  have q : rs.map V.ref = nl xs := by injection q with q; injection q
  cases rs with
  | nil => cases hm
  | cons r rs => cases xs with
    | nil => cases q
    | cons x xs => injection q with q _; cases q
theorem RL.set {H0 H : Hp} {xss : List (List Nat)} {rs : List Addr} {l : Addr} {o : HO} (h : RL H0 H xss rs) (n : l ∉ rs) : RL H0 (upd H l o) xss rs := by
  induction h with
  | nil => exact .nil
  | @cons x r xs rs f t ih =>
    refine .cons ⟨?_, f.2⟩ (ih fun z => n (List.mem_cons_of_mem _ z))
    rw [upd_ne (fun z => n (by rw [← z]; exact List.mem_cons_self))]
    exact f.1
noncomputable def word : Nat → Str
  | 0 => "most"
  | 1 => "just"
  | _ => "run"
noncomputable def ruleV (r : Row.Rule) : List V := [V.str (word r.1), V.int (r.2 : Int)]
noncomputable def ruleOf (c : Int) (most run : Nat) : Row.Rule := if c % 3 = 2 then (2, 1 + (c / 3 % run).toNat) else ((c % 3).toNat, 1 + (c / 3 % most).toNat)
theorem ruleOf_good {c : Int} {most run : Nat} (h1 : 1 ≤ most) (h2 : most ≤ 3) (h3 : 1 ≤ run) (h4 : run ≤ 40) : Row.Good (ruleOf c most run) := by
  unfold ruleOf Row.Good
  have a0 := Int.emod_nonneg (c / 3) (by omega : (most : Int) ≠ 0)
  have a1 := Int.emod_lt_of_pos (c / 3) (by omega : (0 : Int) < most)
  have b0 := Int.emod_nonneg (c / 3) (by omega : (run : Int) ≠ 0)
  have b1 := Int.emod_lt_of_pos (c / 3) (by omega : (0 : Int) < run)
  split
  · right; refine ⟨rfl, ?_, ?_⟩ <;> dsimp only <;> omega
  · left; refine ⟨?_, ?_, ?_⟩ <;> dsimp only <;> omega
noncomputable def spRule (most run : Nat) : Sp := fun vs H Q _ => ∃ c : Int, vs = [.int c] ∧ ∀ H' p, Same H H' → H' p = some (.tup (ruleV (ruleOf c most run))) → H p = none → Q (.ref p) H'
noncomputable def headsOf (c : Int) (first many : Nat) : List Nat := ((List.range many).filter fun k => decide (c / 2 ^ k % 2 = 1)).map (first + ·)
noncomputable def spHeads : Sp := fun vs H Q _ => ∃ (c : Int) (m : Nat), vs = [.int c, .int (m : Int)] ∧ m ≤ 1000 ∧ ∀ H' p, Same H H' → H' p = some (.lst (nl (headsOf c 0 m))) → H p = none → Q (.ref p) H'
noncomputable def spHeads3 : Sp := fun vs H Q _ => ∃ (c : Int) (f m : Nat), vs = [.int c, .int (f : Int), .int (m : Int)] ∧ m ≤ 1000 ∧ ∀ H' p, Same H H' → H' p = some (.lst (nl (headsOf c f m))) → H p = none → Q (.ref p) H'
noncomputable def spShapes (K : PySem.W.Frag) : Sp := fun vs H Q _ => ∃ (pr : Addr) (r : Row.Rule) (last : Nat), vs = [.ref pr, .int (last : Int)] ∧ SqT K H pr (ruleV r) ∧ Row.Good r ∧ last < 40 ∧
  ∀ H' p rs, Same H H' → H p = none → H' p = some (.lst (rs.map V.ref)) → RL H H' (Row.shapes r last) rs → Q (.ref p) H'
theorem Same.tup {K : PySem.W.Frag} {H H' : Hp} {a : Addr} {xs : List V} (e : Same H H') (h : SqT K H a xs) : SqT K H' a xs := by
  rcases h with (h | ⟨o, h⟩) | h
  · exact .inl (.inl (e _ _ h))
  · exact .inl (.inr ⟨o, e _ _ h⟩)
  · exact .inr h
end L2
namespace Row
noncomputable def part (r : Rule) (last many : Nat) : List (List Nat) :=
  if r.1 = 2 then (if many ≤ last + 1 then [(List.range many).map fun k => last + 1 - many + k] else [])
  else if r.1 = 0 ∨ many = r.2 then
    (if many = 1 then [[last]] else []) ++ (if many = 2 then (List.range last).map fun one => [one, last] else []) ++
    (if many = 3 then (List.range last).flatMap fun one => (List.range' (one + 1) (last - (one + 1))).map fun two => [one, two, last] else [])
  else []
noncomputable def upTo (r : Rule) (last n : Nat) : List (List Nat) := (List.range' 1 n).flatMap (part r last)
theorem shapes_upTo (r : Rule) (last : Nat) : shapes r last = upTo r last r.2 := rfl
theorem part_len {r : Rule} {last many : Nat} : (part r last many).length ≤ 1 + last + last * last := by
  unfold part
  split
  · split <;> simp <;> omega
  · split
    · rw [List.length_append, List.length_append]
      have h1 : (if many = 1 then [[last]] else [] : List (List Nat)).length ≤ 1 := by split <;> simp
      have h2 : (if many = 2 then (List.range last).map fun one => [one, last] else [] : List (List Nat)).length ≤ last := by split <;> simp
      have h3 : (if many = 3 then (List.range last).flatMap fun one => (List.range' (one + 1) (last - (one + 1))).map fun two => [one, two, last] else [] : List (List Nat)).length ≤ last * last := by
        split
        · have := flat_len (f := fun one => (List.range' (one + 1) (last - (one + 1))).map fun two => [one, two, last]) (m := last) (l := List.range last) (fun b _ => by simp <;> omega)
          simpa using this
        · simp
      omega
    · simp
theorem upTo_len {r : Rule} {last n : Nat} : (upTo r last n).length ≤ n * (1 + last + last * last) := by
  have := flat_len (f := part r last) (m := 1 + last + last * last) (l := List.range' 1 n) fun _ _ => part_len
  rwa [List.length_range'] at this
noncomputable def threes (last n : Nat) : List (List Nat) := (List.range n).flatMap fun one => (List.range' (one + 1) (last - (one + 1))).map fun two => [one, two, last]
end Row
set_option Elab.async false
set_option linter.all false
set_option maxRecDepth 100000
set_option maxHeartbeats 4000000
namespace L2
open PySem PySem.Spec PyProof.Rows
noncomputable def EvE (t : TE) (σ : St) (H : Hp) (v : V) : Prop := ∀ Q : VK, Q v H → t σ H Q
noncomputable def EvT (t : TT) (σ : St) (H : Hp) (b : Bool) : Prop := ∀ Q : Bool → Hp → Prop, Q b H → t σ H Q
noncomputable def EvA (t : TA) (σ : St) (H : Hp) (vs : List V) : Prop := ∀ Q : List V → Hp → Prop, Q vs H → t σ H Q
section
variable {K : PySem.W.Frag} {σ : St} {H : Hp} {ta tb t : TE} {x y v : V} {i j : Int} {c d : TT} {a b : Bool} {D : Ends} {s u : TS} {ts : TA}
theorem ev_var {n : Nat} (h : σ[n]? = some (some v)) : EvE (tVar n) σ H v := fun Q q => ⟨v, h, q⟩
theorem ev_c : EvE (tC v) σ H v := fun Q q => q
theorem ev_i0 {g : Int → Int → V} (ha : EvE ta σ H (.int i)) (hb : EvE tb σ H (.int j)) : EvE (tOp (rI0 g) ta tb) σ H (g i j) := fun Q q => ha _ (hb _ ⟨i, j, rfl, rfl, q⟩)
theorem ev_i {C : Int → Int → Prop} {g : Int → Int → V} (ha : EvE ta σ H (.int i)) (hb : EvE tb σ H (.int j)) (hc : C i j) : EvE (tOp (rI C g) ta tb) σ H (g i j) := fun Q q => ha _ (hb _ ⟨i, j, rfl, rfl, hc, q⟩)
theorem ev_u {g : Int → V} (ha : EvE ta σ H (.int i)) : EvE (tUn (rU g) ta) σ H (g i) := fun Q q => ha _ ⟨i, rfl, q⟩
theorem ev_ixT {p : Addr} {xs : List V} (ha : EvE ta σ H (.ref p)) (hb : EvE tb σ H (.int i)) (h : SqT K H p xs) (e : atI xs i = some v) : EvE (tOp (rIxT K) ta tb) σ H v := fun Q q => ha _ (hb _ ⟨p, xs, i, v, rfl, rfl, h, e, q⟩)
theorem ev_ixL {p : Addr} {xs : List V} (ha : EvE ta σ H (.ref p)) (hb : EvE tb σ H (.int i)) (h : SqL K H p xs) (e : atI xs i = some v) : EvE (tOp (rIxL K) ta tb) σ H v := fun Q q => ha _ (hb _ ⟨p, xs, i, v, rfl, rfl, h, e, q⟩)
theorem ev_eq (ha : EvE ta σ H x) (hb : EvE tb σ H y) (hs : scal x y = true) : EvE (tOp rEq ta tb) σ H (.bl (decide (x = y))) := fun Q q => ha _ (hb _ ⟨hs, q⟩)
theorem ev_eqI (ha : EvE ta σ H (.int i)) (hb : EvE tb σ H (.int j)) : EvE (tOp rEq ta tb) σ H (.bl (decide (i = j))) := fun Q q => ha _ (hb _ ⟨rfl, by
  rw [show decide (V.int i = V.int j) = decide (i = j) by rw [Bool.eq_iff_iff]; simp]; exact q⟩)
theorem ev_test (h : EvE t σ H (.bl b)) : EvT (tTest t) σ H b := fun Q q => h _ ⟨b, rfl, q⟩
theorem ev_tB (h : EvE t σ H (.bl b)) : EvT (tB t) σ H b := fun Q q => h _ ⟨b, rfl, q⟩
theorem ev_or (h1 : EvT c σ H a) (h2 : a = false → EvT d σ H b) : EvT (tOr c d) σ H (a || b) := fun Q q => h1 _ (by
  cases a with
  | true => exact q
  | false => exact h2 rfl _ q)
theorem ev_and (h1 : EvT c σ H a) (h2 : a = true → EvT d σ H b) : EvT (tAnd c d) σ H (a && b) := fun Q q => h1 _ (by
  cases a with
  | true => exact h2 rfl _ q
  | false => exact q)
theorem ev_not (h : EvT c σ H a) : EvT (tNot c) σ H (!a) := fun Q q => h _ q
theorem ev_andV (h1 : EvE ta σ H (.bl a)) (h2 : a = true → EvE tb σ H (.bl b)) : EvE (tAndV ta tb) σ H (.bl (a && b)) := fun Q q => h1 _ ⟨a, rfl, by
  cases a with
  | true => exact h2 rfl _ q
  | false => exact q⟩
theorem ev_orV (h1 : EvE ta σ H (.bl a)) (h2 : a = false → EvE tb σ H (.bl b)) : EvE (tOrV ta tb) σ H (.bl (a || b)) := fun Q q => h1 _ ⟨a, rfl, by
  cases a with
  | true => exact q
  | false => exact h2 rfl _ q⟩
theorem ev_notV (h : EvE ta σ H (.bl a)) : EvE (tNotV ta) σ H (.bl (!a)) := fun Q q => h _ ⟨a, rfl, q⟩
theorem ev_nil : EvA tNil σ H [] := fun Q q => q
theorem ev_cons {vs : List V} (ha : EvE ta σ H v) (hr : EvA ts σ H vs) : EvA (tCons ta ts) σ H (v :: vs) := fun Q q => ha _ (hr _ q)
theorem ev_call {sp : Sp} {E : XK} {vs : List V} (ha : EvA ts σ H vs) (hr : ∀ Q : VK, Q v H → sp (vs ++ []) H Q E) : EvE (tCall sp [] E ts) σ H v := fun Q q => ha _ (hr _ q)
theorem ifS_of (h : EvT c σ H b) (ht : b = true → s D σ H) (hu : b = false → u D σ H) : tIfS c s u D σ H := h _ (by
  cases b with
  | true => exact ht rfl
  | false => exact hu rfl)
theorem seq_of (h : s { D with nx := u D } σ H) : tSeq s u D σ H := h
theorem next_of (h : D.nx σ H) : tNext D σ H := h
theorem asg_of {n : Nat} (h : EvE t σ H v) (q : D.nx (σ.set n (some v)) H) : tAsg t (gName n) D σ H := h _ q
theorem ret_of (h : EvE t σ H v) (q : D.rt v H) : tRet t D σ H := h _ q
theorem rng1_of {R : It → Hp → Prop} (h : EvA ts σ H [.int j]) (h1 : -(2 ^ 62) ≤ j) (h2 : j < 2 ^ 62) (q : R (Itr 0 j.toNat) H) : iRng1 ts σ H R := h _ ⟨j, rfl, h1, h2, q⟩
theorem rng2_of {R : It → Hp → Prop} (h : EvA ts σ H [.int i, .int j]) (h1 : -(2 ^ 62) ≤ i) (h2 : i < 2 ^ 62) (h3 : -(2 ^ 62) ≤ j) (h4 : j < 2 ^ 62) (q : R (Itr i (j - i).toNat) H) : iRng2 ts σ H R := h _ ⟨i, j, rfl, ⟨h1, h2, h3, h4⟩, q⟩
theorem word_run {n : Nat} (h : n ≤ 2) : decide (V.str (word n) = V.str "run") = decide (n = 2) := by
  rcases (by omega : n = 0 ∨ n = 1 ∨ n = 2) with rfl | rfl | rfl <;> decide
theorem word_most {n : Nat} (h : n ≤ 2) : decide (V.str (word n) = V.str "most") = decide (n = 0) := by
  rcases (by omega : n = 0 ∨ n = 1 ∨ n = 2) with rfl | rfl | rfl <;> decide
theorem word_just {n : Nat} (h : n ≤ 2) : decide (V.str (word n) = V.str "just") = decide (n = 1) := by
  rcases (by omega : n = 0 ∨ n = 1 ∨ n = 2) with rfl | rfl | rfl <;> decide
theorem ev_rule0 {n : Nat} {pr : Addr} {r : Row.Rule} (hv : σ[n]? = some (some (.ref pr))) (h : SqT K H pr (ruleV r)) : EvE (tOp (rIxT K) (tVar n) (tC (V.int 0))) σ H (.str (word r.1)) := ev_ixT (ev_var hv) ev_c h rfl
theorem ev_rule1 {n : Nat} {pr : Addr} {r : Row.Rule} (hv : σ[n]? = some (some (.ref pr))) (h : SqT K H pr (ruleV r)) : EvE (tOp (rIxT K) (tVar n) (tC (V.int 1))) σ H (.int (r.2 : Int)) := ev_ixT (ev_var hv) ev_c h rfl
theorem ev_isRun {n : Nat} {pr : Addr} {r : Row.Rule} (hv : σ[n]? = some (some (.ref pr))) (h : SqT K H pr (ruleV r)) (h2 : r.1 ≤ 2) : EvE (tOp rEq (tOp (rIxT K) (tVar n) (tC (V.int 0))) (tC (V.str "run"))) σ H (.bl (decide (r.1 = 2))) := by
  rw [← word_run h2]
  exact ev_eq (ev_rule0 hv h) ev_c rfl
theorem ev_isMost {n : Nat} {pr : Addr} {r : Row.Rule} (hv : σ[n]? = some (some (.ref pr))) (h : SqT K H pr (ruleV r)) (h2 : r.1 ≤ 2) : EvE (tOp rEq (tOp (rIxT K) (tVar n) (tC (V.int 0))) (tC (V.str "most"))) σ H (.bl (decide (r.1 = 0))) := by
  rw [← word_most h2]
  exact ev_eq (ev_rule0 hv h) ev_c rfl
end
end L2
set_option Elab.async false
set_option linter.all false
set_option maxRecDepth 100000
set_option maxHeartbeats 4000000
namespace L2
open PySem PySem.Spec PyProof.Rows
structure Seen (kvs : List (Key × V)) (S : List Nat) : Prop where
  len : kvs.length ≤ S.length
  has : ∀ m : Nat, (valV kvs (Sum.inl (m : Int))).isSome = true ↔ m ∈ S
theorem Seen.nil : Seen [] [] := ⟨Nat.le_refl _, fun m => by simp [valV]⟩
theorem Seen.put {kvs : List (Key × V)} {S : List Nat} (h : Seen kvs S) (n : Nat) : Seen (putK kvs (Sum.inl (n : Int) : Key) (V.bl true)) (S ++ [n]) := by
  refine ⟨?_, fun m => ?_⟩
  · have := length_putK kvs (Sum.inl (n : Int) : Key) (V.bl true)
    have := h.len
    rw [List.length_append, List.length_singleton]
    omega
  · rw [valV_put, List.mem_append, List.mem_singleton, ← h.has m]
    by_cases e : m = n
    · rw [if_pos (by rw [e])]
      simp [e]
    · rw [if_neg (by intro z; have z : (m : Int) = n := by injection z
                     omega)]
      simp [e]
noncomputable def spOver (K : PySem.W.Frag) : Sp := fun vs H Q _ => ∃ (pt pp : Addr) (told places : List Nat), vs = [.ref pt, .ref pp] ∧ SqL K H pt (nl told) ∧ SqL K H pp (nl places) ∧ (∀ a ∈ places, a < told.length) ∧ Q (.int (Row.xs (Row.at0 told) places : Int)) H
noncomputable def spNumbers (K : PySem.W.Frag) : Sp := fun vs H Q _ => ∃ (pr : Addr) (r : Row.Rule) (m : Nat), vs = [.ref pr, .int (m : Int)] ∧ SqT K H pr (ruleV r) ∧ Row.Good r ∧ m ≤ 40 ∧ ∀ H' p, Same H H' → H p = none → H' p = some (.lst (nl (Row.nums r m))) → Q (.ref p) H'
theorem bitXor_nat (a b : Nat) : Builtin.bitXor (a : Int) (b : Int) = ((a ^^^ b : Nat) : Int) := by
  have h := Nim.xor_and_add a a b (Nat.le_refl _)
  have e : Builtin.bitAnd (a : Int) (b : Int) = ((a &&& b : Nat) : Int) := PyProof.Rows.bitAnd_pp (by omega) (by omega)
  have d : Builtin.bitXor (a : Int) (b : Int) = a + b - 2 * Builtin.bitAnd (a : Int) (b : Int) := by first | exact bitXor_and a b | exact PySem.W.bitXor_and a b | exact PyProof.Rows.bitXor_and a b
  rw [d, e]
  omega
end L2
set_option Elab.async false
set_option linter.all false
set_option maxRecDepth 100000
set_option maxHeartbeats 4000000
namespace Row
structure IsRow (hs : List Nat) : Prop where
  sorted : Sorted hs
  lt : ∀ a ∈ hs, a < 40
noncomputable def turnsOf (r : Rule) (hs : List Nat) : List (List Nat) := hs.flatMap (shapes r)
noncomputable def Lets (r : Rule) (hs : List Nat) (ts : List Int) : Prop := ∃ t : List Nat, ts = t.map (fun (n : Nat) => (n : Int)) ∧ ∃ last ∈ hs, t ∈ shapes r last
noncomputable def replyOf (r : Rule) (hs : List Nat) : Option (List Nat) := (turnsOf r hs).find? fun t => xs (num r) t == xs (num r) hs
end Row
namespace L2
open PySem PySem.Spec PyProof.Rows
noncomputable def spTurns (K : PySem.W.Frag) : Sp := fun vs H Q _ => ∃ (pr ph : Addr) (r : Row.Rule) (hs : List Nat), vs = [.ref pr, .ref ph] ∧ SqT K H pr (ruleV r) ∧ Row.Good r ∧ SqL K H ph (nl hs) ∧ Row.IsRow hs ∧
  ∀ H' p rs, Same H H' → H p = none → H' p = some (.lst (rs.map V.ref)) → RL H H' (Row.turnsOf r hs) rs → rs.Nodup → p ∉ rs → Q (.ref p) H'
noncomputable def spAllows (K : PySem.W.Frag) : Sp := fun vs H Q _ => ∃ (pr ph pt : Addr) (r : Row.Rule) (hs : List Nat) (ts : List Int), vs = [.ref pr, .ref ph, .ref pt] ∧ SqT K H pr (ruleV r) ∧ Row.Good r ∧ SqL K H ph (nl hs) ∧ Row.IsRow hs ∧ SqL K H pt (ts.map V.int) ∧ ts.length ≤ 1000 ∧
  ∀ H' b, Same H H' → (b = true ↔ Row.Lets r hs ts) → Q (.bl b) H'
noncomputable def spAfter (K : PySem.W.Frag) (cT : Addr) : Sp := fun vs H Q E => ∃ (pr ph pt : Addr) (r : Row.Rule) (hs : List Nat) (ts : List Int), vs = [.ref pr, .ref ph, .ref pt] ∧ SqT K H pr (ruleV r) ∧ Row.Good r ∧ SqL K H ph (nl hs) ∧ Row.IsRow hs ∧ SqL K H pt (ts.map V.int) ∧ ts.length ≤ 1000 ∧
  (∀ t : List Nat, ts = t.map (fun (n : Nat) => (n : Int)) → (∃ last ∈ hs, t ∈ Row.shapes r last) → ∀ H' p, Same H H' → H p = none → H' p = some (.lst (nl (Row.behind 40 hs t))) → Q (.ref p) H') ∧
  (¬ Row.Lets r hs ts → ∀ H', Same H H' → E (.ref cT) none H')
noncomputable def spNumberOf (K : PySem.W.Frag) : Sp := fun vs H Q _ => ∃ (pr : Addr) (r : Row.Rule) (n : Nat), vs = [.ref pr, .int (n : Int)] ∧ SqT K H pr (ruleV r) ∧ Row.Good r ∧ n < 40 ∧ ∀ H', Same H H' → Q (.int (Row.num r n : Int)) H'
noncomputable def spValue (K : PySem.W.Frag) : Sp := fun vs H Q _ => ∃ (pr ph : Addr) (r : Row.Rule) (hs : List Nat), vs = [.ref pr, .ref ph] ∧ SqT K H pr (ruleV r) ∧ Row.Good r ∧ SqL K H ph (nl hs) ∧ Row.IsRow hs ∧ ∀ H', Same H H' → Q (.int (Row.xs (Row.num r) hs : Int)) H'
noncomputable def spReply (K : PySem.W.Frag) : Sp := fun vs H Q _ => ∃ (pr ph : Addr) (r : Row.Rule) (hs : List Nat), vs = [.ref pr, .ref ph] ∧ SqT K H pr (ruleV r) ∧ Row.Good r ∧ SqL K H ph (nl hs) ∧ Row.IsRow hs ∧
  (Row.xs (Row.num r) hs = 0 → ∀ H', Same H H' → Q .non H') ∧
  (Row.xs (Row.num r) hs ≠ 0 → ∀ t, Row.replyOf r hs = some t → ∀ H' p, Same H H' → H p = none → H' p = some (.lst (nl t)) → Q (.ref p) H')
theorem nl_mem {xs : List Nat} {i : Nat} {x : V} (h : (nl xs)[i]? = some x) : ∃ a, xs[i]? = some a ∧ x = V.int (a : Int) := by
  unfold nl at h
  rw [List.getElem?_map] at h
  cases e : xs[i]? with
  | none => rw [e] at h; cases h
  | some a => rw [e] at h; cases h; exact ⟨a, rfl, rfl⟩
theorem Callee.mono {P : Program} {w : World} {K : PySem.W.Frag} {mg : Str → Option Value} {base : Heap} {x : Str} {j k : Nat} {ps : List Str} {sp : Sp} (C : Callee P w K mg base x j ps sp) (h : j ≤ k) : Callee P w K mg base x k ps sp := by
  obtain ⟨f, fd, hm, hkp, hb, F⟩ := C.ex
  exact ⟨f, fd, hm, hkp, hb, F.mono h⟩
theorem CalleeX.mono {P : Program} {w : World} {K : PySem.W.Frag} {mg : Str → Option Value} {base : Heap} {x : Str} {j k : Nat} {ps : List Str} {sp : Sp} (C : CalleeX P w K mg base x j ps sp) (h : j ≤ k) : CalleeX P w K mg base x k ps sp := by
  obtain ⟨f, fd, hm, hkp, hb, F⟩ := C.ex
  exact ⟨f, fd, hm, hkp, hb, F.mono h⟩
end L2
namespace Row
noncomputable def others (r : Rule) (last : Nat) : List (List Nat) :=
  (List.range' 1 r.2).flatMap fun many =>
    if r.1 = 2 then (if many ≤ last + 1 then [(List.range (many - 1)).map fun k => last - 1 - k] else [])
    else if r.1 = 0 ∨ many = r.2 then
      (if many = 1 then [[]] else []) ++ (if many = 2 then (List.range last).map fun one => [one] else []) ++
      (if many = 3 then (List.range last).flatMap fun one => (List.range one).map fun two => [one, two] else [])
    else []
noncomputable def opart (r : Rule) (last many : Nat) : List (List Nat) :=
  if r.1 = 2 then (if many ≤ last + 1 then [(List.range (many - 1)).map fun k => last - 1 - k] else [])
  else if r.1 = 0 ∨ many = r.2 then
    (if many = 1 then [[]] else []) ++ (if many = 2 then (List.range last).map fun one => [one] else []) ++
    (if many = 3 then (List.range last).flatMap fun one => (List.range one).map fun two => [one, two] else [])
  else []
noncomputable def oUpTo (r : Rule) (last n : Nat) : List (List Nat) := (List.range' 1 n).flatMap (opart r last)
noncomputable def twos (n : Nat) : List (List Nat) := (List.range n).flatMap fun one => (List.range one).map fun two => [one, two]
end Row
namespace L2
open PySem PySem.Spec PyProof.Rows
noncomputable def spOthers (K : PySem.W.Frag) : Sp := fun vs H Q _ => ∃ (pr : Addr) (r : Row.Rule) (last : Nat), vs = [.ref pr, .int (last : Int)] ∧ SqT K H pr (ruleV r) ∧ Row.Good r ∧ last < 40 ∧
  ∀ H' p rs, Same H H' → H p = none → H' p = some (.lst (rs.map V.ref)) → RL H H' (Row.others r last) rs → Q (.ref p) H'
end L2
namespace L2
open PySem PySem.Spec PyProof.Rows
theorem ev_cell {K : PySem.W.Frag} {σ : St} {H : Hp} {n : Nat} {a : Addr} {ns : List Int} (k : Nat) (h : σ[n]? = some (some (.ref a))) (hS : SqL K H a (ns.map V.int)) : EvE (tCall (spCell K) [] E0 (tCons (tVar n) (tCons (tC (V.int (k : Int))) tNil))) σ H (.int (cell ns k)) :=
  ev_call (ev_cons (ev_var h) (ev_cons ev_c ev_nil)) fun Q q => ⟨a, ns, k, rfl, hS, q⟩
end L2
namespace L2
open PySem PySem.Spec PyProof.Rows
noncomputable def nd (xs : List Nat) : List Dt := xs.map fun (n : Nat) => Dt.int (n : Int)
theorem nd_paired {K : PySem.W.Frag} {H : Hp} {n : Nat} : ∀ xs : List Nat, Paired (Dat K H n) (nd xs) (nl xs)
  | [] => .nil
  | x :: xs => .cons (Dat.int.mpr rfl) (nd_paired xs)
theorem dat_list {K : PySem.W.Frag} {H : Hp} {n : Nat} {p : Addr} {xs : List Nat} (h : SqL K H p (nl xs)) : Dat K H (n + 1) (.seq false (nd xs)) (.ref p) := ⟨p, _, rfl, by rw [if_neg Bool.false_ne_true]; exact h, nd_paired xs⟩
section
variable {K : PySem.W.Frag} {σ : St} {H : Hp} {ta tb : TE}
end
end L2
namespace Row
theorem sorted_len {hs : List Nat} {n : Nat} (h : Sorted hs) (hl : ∀ a ∈ hs, a < n) : hs.length ≤ n := by
  rw [← filter_self h hl]
  refine Nat.le_trans (List.length_filter_le _ _) ?_
  rw [List.length_range]
  exact Nat.le_refl _
theorem IsRow.len {hs : List Nat} (h : IsRow hs) : hs.length ≤ 40 := sorted_len h.sorted h.lt
theorem good_le {r : Rule} (h : Good r) : r.2 ≤ 40 := by rcases h with ⟨_, _, h⟩ | ⟨_, _, h⟩ <;> omega
theorem shapes_many {r : Rule} {last : Nat} (hg : Good r) (hl : last < 40) : (shapes r last).length ≤ 62440 := by
  rw [shapes_upTo]
  refine Nat.le_trans upTo_len (Nat.le_trans (Nat.mul_le_mul (good_le hg) (?_ : _ ≤ 1 + 39 + 39 * 39)) (by decide))
  have : last * last ≤ 39 * 39 := Nat.mul_le_mul (by omega) (by omega)
  omega
theorem turnsOf_len {r : Rule} {hs : List Nat} (hg : Good r) (h : IsRow hs) : (turnsOf r hs).length ≤ 2500000 := by
  refine Nat.le_trans (flat_len (m := 62440) fun a ha => shapes_many hg (h.lt a ha)) ?_
  have := h.len
  omega
theorem turnsOf_take {r : Rule} {hs : List Nat} {i : Nat} {a : Nat} (h : hs[i]? = some a) : turnsOf r (hs.take (i + 1)) = turnsOf r (hs.take i) ++ shapes r a := by
  unfold turnsOf
  rw [List.take_add_one, h, List.flatMap_append]
  simp
theorem IsRow.take {hs : List Nat} (h : IsRow hs) (i : Nat) : IsRow (hs.take i) := ⟨List.Pairwise.sublist (List.take_sublist _ _) h.sorted, fun a ha => h.lt a (List.mem_of_mem_take ha)⟩
end Row
namespace L2
open PySem PySem.Spec PyProof.Rows
theorem cut {s R : TS} {D : Ends} {σ : St} {H : Hp} (Pv : St → Hp → Prop) (h : ∀ X : St → Hp → Prop, (∀ σ' H', Pv σ' H' → X σ' H') → s { D with nx := X } σ H) (hR : ∀ σ' H', Pv σ' H' → R D σ' H') : tSeq s R D σ H := h (R D) hR
end L2
namespace L2
open PySem PySem.Spec PyProof.Rows
end L2
set_option Elab.async false
set_option linter.all false
set_option maxRecDepth 100000
set_option maxHeartbeats 4000000
namespace L2
open PySem PySem.Spec PyProof.Rows
section
variable {K : PySem.W.Frag} {σ : St} {H : Hp} {ta tb : TE} {i : Int}
noncomputable def ni (xs : List Nat) : List Int := xs.map fun (n : Nat) => (n : Int)
theorem nl_ni (xs : List Nat) : nl xs = (ni xs).map V.int := by unfold nl ni; rw [List.map_map]; rfl
end
noncomputable def spRule3 : Sp := fun vs H Q _ => ∃ (c : Int) (most run : Nat), vs = [.int c, .int (most : Int), .int (run : Int)] ∧ 1 ≤ most ∧ 1 ≤ run ∧ ∀ H' p, Same H H' → H' p = some (.tup (ruleV (ruleOf c most run))) → H p = none → Q (.ref p) H'
noncomputable def spSome (K : PySem.W.Frag) : Sp := fun vs H Q _ => ∃ (a : Addr) (ns : List Int), vs = [.ref a] ∧ SqL K H a (ns.map V.int) ∧ ∀ H' p hs, Same H H' → H p = none → H' p = some (.lst (nl hs)) → Row.IsRow hs → Q (.ref p) H'
noncomputable def firstBy (r : Row.Rule) (told hs : List Nat) : Option (List Nat) := (Row.turnsOf r hs).find? fun t => Row.xs (Row.at0 told) t == Row.xs (Row.at0 told) hs
noncomputable def spFirst (K : PySem.W.Frag) : Sp := fun vs H Q _ => ∃ (pr pt ph : Addr) (r : Row.Rule) (told hs : List Nat), vs = [.ref pr, .ref pt, .ref ph] ∧ SqT K H pr (ruleV r) ∧ Row.Good r ∧ SqL K H pt (nl told) ∧ SqL K H ph (nl hs) ∧ Row.IsRow hs ∧ (∀ a ∈ hs, a < told.length) ∧
  (firstBy r told hs = none → ∀ H', Same H H' → Q .non H') ∧ (∀ t, firstBy r told hs = some t → ∀ H' p, Same H H' → H p = none → H' p = some (.lst (nl t)) → Q (.ref p) H')
end L2
namespace L2
open PySem PySem.Spec PyProof.Rows
end L2
namespace Row
theorem reply_some {r : Rule} {hs : List Nat} (h : xs (num r) hs ≠ 0) : ∃ t, replyOf r hs = some t := by
  obtain ⟨last, hl, s, hs', e⟩ := turn_to_zero h
  have : (replyOf r hs).isSome = true := by
    unfold replyOf
    rw [List.find?_isSome]
    exact ⟨s, List.mem_flatMap.mpr ⟨last, hl, hs'⟩, by rw [beq_iff_eq]; exact e⟩
  exact Option.isSome_iff_exists.mp this
theorem reply_mem {r : Rule} {hs t : List Nat} (h : replyOf r hs = some t) : t ∈ turnsOf r hs ∧ xs (num r) t = xs (num r) hs := by
  have h1 := List.mem_of_find?_eq_some h
  have h2 := List.find?_some h
  exact ⟨h1, beq_iff_eq.mp h2⟩
end Row
namespace L2
open PySem PySem.Spec PyProof.Rows
end L2
namespace Row
end Row
namespace L2
open PySem PySem.Spec PyProof.Rows
noncomputable def spReached (K : PySem.W.Frag) : Sp := fun vs H Q _ => ∃ (pr pt : Addr) (r : Row.Rule) (told : List Nat), vs = [.ref pr, .ref pt] ∧ SqT K H pr (ruleV r) ∧ Row.Good r ∧ SqL K H pt (nl told) ∧ told.length < 40 ∧
  ∀ H' d kvs, Same H H' → H d = none → H' d = some (.dK kvs) → Seen kvs ((Row.others r told.length).map (Row.xs (Row.at0 told))) → Q (.ref d) H'
end L2
namespace L2
open PySem PySem.Spec PyProof.Rows
theorem ev_min2 {σ : St} {H : Hp} {ts : TA} {i j : Int} (h : EvA ts σ H [.int i, .int j]) : EvE (tCB (fun xs H Q => ∃ i j, xs = [V.int i, V.int j] ∧ Q (V.int (if j < i then j else i)) H) ts) σ H (.int (if j < i then j else i)) := fun Q q => h _ ⟨i, j, rfl, q⟩
theorem ev_xorN {σ : St} {H : Hp} {ta tb : TE} {a b : Nat} (ha : EvE ta σ H (.int (a : Int))) (hb : EvE tb σ H (.int (b : Int))) : EvE (tOp (rI0 fun i j => V.int (Builtin.bitXor i j)) ta tb) σ H (.int ((a ^^^ b : Nat) : Int)) := by
  rw [← bitXor_nat]
  exact ev_i0 ha hb
end L2
namespace Row
end Row
namespace L2
open PySem PySem.Spec PyProof.Rows
noncomputable def spIs : Sp := fun vs H Q _ => ∃ i j : Int, vs = [.int i, .int j] ∧ Q (.bl (decide (i = j))) H
end L2
namespace L2
open PySem PySem.Spec PyProof.Rows
end L2
namespace Row
end Row
namespace L2
open PySem PySem.Spec PyProof.Rows
section
variable {t ta tb : TE} {c d : TT} {ts : TA} {σ : St} {H : Hp} {v : V} {vs : List V} {a b : Bool} {i j : Int} {D : Ends} {s u : TS}
noncomputable def EvG (t : TE) (σ : St) (H : Hp) (v : V) : Prop := ∀ Q : VK, (∀ H', Same H H' → Q v H') → t σ H Q
noncomputable def EvGT (c : TT) (σ : St) (H : Hp) (b : Bool) : Prop := ∀ Q : Bool → Hp → Prop, (∀ H', Same H H' → Q b H') → c σ H Q
noncomputable def EvGA (ts : TA) (σ : St) (H : Hp) (vs : List V) : Prop := ∀ Q : List V → Hp → Prop, (∀ H', Same H H' → Q vs H') → ts σ H Q
end
end L2
set_option Elab.async false
set_option linter.all false
set_option maxRecDepth 100000
set_option maxHeartbeats 4000000
namespace L2
open PySem PySem.Spec PyProof.Rows
noncomputable def ndd (xss : List (List Nat)) : List Dt := xss.map fun xs => Dt.seq false (nd xs)
noncomputable def rdN (xs : List V) : List Nat := xs.map fun v => match v with
  | .int i => i.toNat
  | _ => 0
noncomputable def wtAt (k : Nat) (σ : St) (H : Hp) : Nat := match σ[k]? with
  | some (some (.ref p)) => match H p with
    | some (.lst xs) => Row.weight (rdN xs)
    | _ => 0
  | _ => 0
noncomputable def spTurnsL (K : PySem.W.Frag) : Sp := fun vs H Q _ => ∃ (pr ph : Addr) (r : Row.Rule) (hs : List Nat), vs = [.ref pr, .ref ph] ∧ SqT K H pr (ruleV r) ∧ Row.Good r ∧ SqL K H ph (nl hs) ∧ Row.IsRow hs ∧
  ∀ H' p rs, Same H H' → H p = none → H' p = some (.lst (rs.map V.ref)) → RL H H' (Row.turnsOf r hs) rs → Q (.ref p) H'
noncomputable def spBehind (K : PySem.W.Frag) (n : Nat) : Sp := fun vs H Q _ => ∃ (ph pt : Addr) (hs t : List Nat), vs = [.ref ph, .ref pt] ∧ SqL K H ph (nl hs) ∧ SqL K H pt (nl t) ∧ ∀ H' p, Same H H' → H p = none → H' p = some (.lst (nl (Row.behind n hs t))) → Q (.ref p) H'
noncomputable def spIsTurn : Sp := fun vs H Q _ => ∃ (pt pw : Addr) (t : List Nat) (xss : List (List Nat)) (rs : List Addr), vs = [.ref pt, .ref pw] ∧ H pt = some (.lst (nl t)) ∧ H pw = some (.lst (rs.map V.ref)) ∧ RL (fun _ => none) H xss rs ∧ Q (.bl (decide (t ∈ xss))) H
end L2
namespace Row
theorem xor_zero {a b : Nat} (h : a = b) : a ^^^ b = 0 := by rw [h, Nat.xor_self]
end Row
namespace L2
open PySem PySem.Spec PyProof.Rows
end L2
namespace L2
open PySem PySem.Spec PyProof.Rows
end L2
namespace L2
open PySem PySem.Spec PyProof.Rows
end L2
namespace L2
open PySem PySem.Spec PyProof.Rows
end L2
namespace L2
open PySem PySem.Spec PyProof.Rows
end L2
set_option linter.all false
set_option maxRecDepth 100000
set_option maxHeartbeats 4000000
namespace Row
theorem mem_run {r : Rule} (h2 : r.1 = 2) {last : Nat} {t : List Nat} : t ∈ shapes r last ↔ 1 ≤ t.length ∧ t.length ≤ r.2 ∧ t.length ≤ last + 1 ∧ t = (List.range t.length).map fun k => last + 1 - t.length + k := by
  unfold shapes
  rw [List.mem_flatMap]
  constructor
  · rintro ⟨many, hm, h⟩
    rw [List.mem_range'_1] at hm
    rw [if_pos h2] at h
    split at h
    · have e := List.mem_singleton.mp h
      have el : t.length = many := by rw [e, List.length_map, List.length_range]
      subst el
      exact ⟨hm.1, by omega, by assumption, e⟩
    · cases h
  · rintro ⟨h1, hk, hl, e⟩
    refine ⟨t.length, List.mem_range'_1.mpr (by omega), ?_⟩
    rw [if_pos h2, if_pos hl]
    exact List.mem_singleton.mpr e
theorem mem_few {r : Rule} (h2 : r.1 ≠ 2) {last : Nat} {t : List Nat} : t ∈ shapes r last ↔ 1 ≤ t.length ∧ t.length ≤ r.2 ∧ (r.1 = 0 ∨ t.length = r.2) ∧ (t = [last] ∨ (∃ one, one < last ∧ t = [one, last]) ∨ ∃ one two, one < two ∧ two < last ∧ t = [one, two, last]) := by
  unfold shapes
  rw [List.mem_flatMap]
  constructor
  · rintro ⟨many, hm, h⟩
    rw [List.mem_range'_1] at hm
    rw [if_neg h2] at h
    split at h
    · rename_i d
      rcases List.mem_append.mp h with h | h
      · rcases List.mem_append.mp h with h | h
        · split at h
          · rename_i e
            have := List.mem_singleton.mp h
            subst this
            subst e
            exact ⟨by simp, by simp; omega, by simpa using d, .inl rfl⟩
          · cases h
        · split at h
          · rename_i e
            obtain ⟨one, ho, rfl⟩ := List.mem_map.mp h
            subst e
            exact ⟨by simp, by simp; omega, by simpa using d, .inr (.inl ⟨one, List.mem_range.mp ho, rfl⟩)⟩
          · cases h
      · split at h
        · rename_i e
          obtain ⟨one, ho, h⟩ := List.mem_flatMap.mp h
          obtain ⟨two, ht, rfl⟩ := List.mem_map.mp h
          rw [List.mem_range'_1] at ht
          subst e
          exact ⟨by simp, by simp; omega, by simpa using d, .inr (.inr ⟨one, two, by omega, by omega, rfl⟩)⟩
        · cases h
    · cases h
  · rintro ⟨h1, hk, d, h⟩
    refine ⟨t.length, List.mem_range'_1.mpr (by omega), ?_⟩
    rw [if_neg h2, if_pos d]
    rcases h with rfl | ⟨one, ho, rfl⟩ | ⟨one, two, h12, h2l, rfl⟩
    · simp
    · simp
      exact ho
    · simp
      omega
noncomputable def oddOnesGo : Nat → Nat → Bool
  | 0, _ => false
  | f + 1, n => if n = 0 then false else (n % 2 == 1) != oddOnesGo f (n / 2)
noncomputable def oddOnes (n : Nat) : Bool := oddOnesGo 64 n
noncomputable def mostNum (k p : Nat) : Nat := if k = 1 then 1 else if k = 2 then p + 1 else if oddOnes p then 2 * p else 2 * p + 1
noncomputable def runGo (k p : Nat) : Nat → Nat → Nat
  | 0, w => w
  | f + 1, w => if 2 * w ≤ k ∧ (p + 1) % (2 * w) = 0 then runGo k p f (2 * w) else w
noncomputable def runNum (k p : Nat) : Nat := runGo k p 64 1
noncomputable def clNum (r : Rule) (p : Nat) : Nat := if r.1 = 2 then runNum r.2 p else if r.1 = 0 then mostNum r.2 p else if p < r.2 - 1 then 0 else mostNum r.2 (p - (r.2 - 1))
noncomputable def hits (n : Nat) (S : List Nat) : Bool := (List.range n).all fun m => S.any fun s => Nat.beq s m
noncomputable def leastB (n : Nat) (S : List Nat) : Bool := S.all (fun s => !Nat.beq s n) && hits n S
theorem mex_leastB {n : Nat} {S : List Nat} (h : leastB n S = true) : mex S = n := by
  unfold leastB at h
  rw [Bool.and_eq_true] at h
  refine mex_is (fun m hm => ?_) fun q => ?_
  · have h2 := h.2
    unfold hits at h2
    rw [List.all_eq_true] at h2
    have := h2 m (List.mem_range.mpr hm)
    obtain ⟨s, hs, e⟩ := List.any_eq_true.mp this
    rw [← Nat.eq_of_beq_eq_true e]; exact hs
  · have h1 := List.all_eq_true.mp h.1 _ q
    rw [Nat.beq_refl] at h1
    exact absurd h1 (by decide)
noncomputable def scan : Nat → List Nat → Nat → List Nat
  | _, _, 0 => []
  | a, [], _ + 1 => [a]
  | a, x :: r, n + 1 => a :: scan (a ^^^ x) r n
noncomputable def pairs : List Nat → List Nat
  | [] => []
  | x :: r => r.map (fun y => x ^^^ y) ++ pairs r
noncomputable def sums (r : Rule) (rev : List Nat) : List Nat :=
  if r.1 = 2 then scan 0 rev r.2
  else if r.1 = 0 then (if r.2 = 1 then [0] else if r.2 = 2 then 0 :: rev else 0 :: (rev ++ pairs rev))
  else (if r.2 = 1 then [0] else if r.2 = 2 then rev else pairs rev)
noncomputable def chk (r : Rule) : Nat → Nat → List Nat → Bool
  | 0, _, _ => true
  | n + 1, p, rev => leastB (clNum r p) (sums r rev) && chk r n (p + 1) (clNum r p :: rev)
theorem chk_few : ((List.range 2).all fun t => (List.range' 1 3).all fun k => chk (t, k) 40 0 []) = true := by decide +kernel
theorem chk_run : ((List.range' 1 40).all fun k => chk (2, k) 40 0 []) = true := by decide +kernel
theorem chk_ok {r : Rule} (h : Good r) : chk r 40 0 [] = true := by
  rcases h with ⟨h1, h2, h3⟩ | ⟨h1, h2, h3⟩
  · have := List.all_eq_true.mp chk_few r.1 (List.mem_range.mpr (by omega))
    exact List.all_eq_true.mp this r.2 (List.mem_range'_1.mpr (by omega))
  · have := List.all_eq_true.mp chk_run r.2 (List.mem_range'_1.mpr (by omega))
    rw [← h1] at this
    exact this
noncomputable def revTo (f : Nat → Nat) : Nat → List Nat
  | 0 => []
  | p + 1 => f p :: revTo f p
theorem mem_revTo (f : Nat → Nat) (m : Nat) : ∀ p, m ∈ revTo f p ↔ ∃ a, a < p ∧ m = f a
  | 0 => by simp [revTo]
  | p + 1 => by
    rw [revTo, List.mem_cons, mem_revTo f m p]
    constructor
    · rintro (h | ⟨a, h, e⟩)
      · exact ⟨p, by omega, h⟩
      · exact ⟨a, by omega, e⟩
    · rintro ⟨a, h, e⟩
      by_cases c : a = p
      · exact .inl (c ▸ e)
      · exact .inr ⟨a, by omega, e⟩
theorem mem_pairs (f : Nat → Nat) (m : Nat) : ∀ p, m ∈ pairs (revTo f p) ↔ ∃ a b, a < b ∧ b < p ∧ m = f a ^^^ f b
  | 0 => by simp [revTo, pairs]
  | p + 1 => by
    rw [revTo, pairs, List.mem_append, mem_pairs f m p, List.mem_map]
    constructor
    · rintro (⟨y, hy, e⟩ | ⟨a, b, h1, h2, e⟩)
      · obtain ⟨a, ha, e2⟩ := (mem_revTo f y p).mp hy
        exact ⟨a, p, ha, by omega, by rw [← e, e2, Nat.xor_comm]⟩
      · exact ⟨a, b, h1, by omega, e⟩
    · rintro ⟨a, b, h1, h2, e⟩
      by_cases c : b = p
      · subst c
        exact .inl ⟨f a, (mem_revTo f _ b).mpr ⟨a, h1, rfl⟩, by rw [e, Nat.xor_comm]⟩
      · exact .inr ⟨a, b, h1, by omega, e⟩
theorem mem_scan (f : Nat → Nat) (m : Nat) : ∀ n a p, m ∈ scan a (revTo f p) n ↔ ∃ j, j < n ∧ j ≤ p ∧ m = a ^^^ xs f ((List.range j).map fun k => p - j + k)
  | 0, a, p => by simp [scan]
  | n + 1, a, 0 => by
    rw [revTo, scan, List.mem_singleton]
    constructor
    · intro h
      exact ⟨0, by omega, by omega, by simp [xs, h]⟩
    · rintro ⟨j, h1, h2, e⟩
      have : j = 0 := by omega
      subst this
      simpa [xs] using e
  | n + 1, a, p + 1 => by
    rw [revTo, scan, List.mem_cons, mem_scan f m n (a ^^^ f p) p]
    have step : ∀ j, j ≤ p → xs f ((List.range (j + 1)).map fun k => p + 1 - (j + 1) + k) = f p ^^^ xs f ((List.range j).map fun k => p - j + k) := by
      intro j hj
      rw [List.range_succ, List.map_append, xs_append]
      have e1 : p + 1 - (j + 1) = p - j := by omega
      have e2 : p - j + j = p := by omega
      simp only [e1, List.map_cons, List.map_nil, e2]
      simp [xs, Nat.xor_comm]
    constructor
    · rintro (h | ⟨j, h1, h2, e⟩)
      · exact ⟨0, by omega, by omega, by simp [xs, h]⟩
      · refine ⟨j + 1, by omega, by omega, ?_⟩
        rw [step j h2, e, Nat.xor_assoc]
    · rintro ⟨j, h1, h2, e⟩
      cases j with
      | zero => exact .inl (by simpa [xs] using e)
      | succ j => exact .inr ⟨j, by omega, by omega, by rw [e, step j (by omega), Nat.xor_assoc]⟩
theorem sums_mem {r : Rule} (hg : Good r) (f : Nat → Nat) (p m : Nat) : m ∈ sums r (revTo f p) ↔ m ∈ (shapes r p).map fun s => xs f s.dropLast := by
  rw [List.mem_map]
  unfold sums
  by_cases h2 : r.1 = 2
  · rw [if_pos h2, mem_scan]
    constructor
    · rintro ⟨j, h1, h3, e⟩
      refine ⟨(List.range (j + 1)).map fun k => p + 1 - (j + 1) + k, (mem_run h2).mpr ⟨by simp, by simp; omega, by simp; omega, by simp⟩, ?_⟩
      rw [e, Nat.zero_xor, List.range_succ, List.map_append, List.map_cons, List.map_nil, List.dropLast_concat]
      have e1 : p + 1 - (j + 1) = p - j := by omega
      rw [e1]
    · rintro ⟨t, ht, e⟩
      obtain ⟨h1, hk, hl, et⟩ := (mem_run h2).mp ht
      obtain ⟨j, hj⟩ : ∃ j, t.length = j + 1 := ⟨t.length - 1, by omega⟩
      refine ⟨j, by omega, by omega, ?_⟩
      rw [← e, et, hj, Nat.zero_xor, List.range_succ, List.map_append, List.map_cons, List.map_nil, List.dropLast_concat]
      have e1 : p + 1 - (j + 1) = p - j := by omega
      rw [e1]
  · rw [if_neg h2]
    have hk : 1 ≤ r.2 ∧ r.2 ≤ 3 ∧ (r.1 = 0 ∨ r.1 = 1) := by rcases hg with h | h <;> omega
    simp only [mem_few h2]
    obtain ⟨ty, k⟩ := r
    simp only at hk h2 ⊢
    obtain ⟨k1, k3, ht⟩ := hk
    have one : (∃ a : List Nat, (1 ≤ a.length ∧ a.length ≤ k ∧ (ty = 0 ∨ a.length = k) ∧ (a = [p] ∨ (∃ one, one < p ∧ a = [one, p]) ∨ ∃ one two, one < two ∧ two < p ∧ a = [one, two, p])) ∧ xs f a.dropLast = m) ↔
        ((ty = 0 ∨ k = 1) ∧ m = 0) ∨ ((2 ≤ k ∧ (ty = 0 ∨ k = 2)) ∧ ∃ a, a < p ∧ m = f a) ∨ (3 ≤ k ∧ ∃ a b, a < b ∧ b < p ∧ m = f a ^^^ f b) := by
      constructor
      · rintro ⟨a, ⟨g1, g2, g3, g4⟩, e⟩
        rcases g4 with rfl | ⟨x, hx, rfl⟩ | ⟨x, y, hx, hy, rfl⟩
        · exact .inl ⟨g3.imp id fun h => h.symm, by simpa [xs] using e.symm⟩
        · exact .inr (.inl ⟨⟨g2, g3.imp id fun h => h.symm⟩, x, hx, by simpa [xs] using e.symm⟩)
        · exact .inr (.inr ⟨g2, x, y, hx, hy, by simpa [xs] using e.symm⟩)
      · rintro (⟨c, e⟩ | ⟨⟨c, d⟩, x, hx, e⟩ | ⟨c, x, y, hx, hy, e⟩)
        · exact ⟨[p], ⟨by simp, by simpa using k1, c.imp id fun h => by simpa using h.symm, .inl rfl⟩, by simp [xs, e]⟩
        · exact ⟨[x, p], ⟨by simp, by simpa using c, d.imp id fun h => by simpa using h.symm, .inr (.inl ⟨x, hx, rfl⟩)⟩, by simp [xs, e]⟩
        · exact ⟨[x, y, p], ⟨by simp, by simpa using c, .inr (by simp; omega), .inr (.inr ⟨x, y, hx, hy, rfl⟩)⟩, by simp [xs, e]⟩
    rw [one]
    have hkk : k = 1 ∨ k = 2 ∨ k = 3 := by omega
    rcases ht with rfl | rfl <;> rcases hkk with rfl | rfl | rfl <;> simp [mem_revTo, mem_pairs]
theorem num_chk {r : Rule} (hg : Good r) : ∀ n p, chk r n p (revTo (clNum r) p) = true → (∀ q, q < p → num r q = clNum r q) → ∀ q, q < p + n → num r q = clNum r q
  | 0, p, _, h, q, hq => h q (by omega)
  | n + 1, p, hc, h, q, hq => by
    rw [chk, Bool.and_eq_true] at hc
    have hp : num r p = clNum r p := by
      rw [num_eq]
      refine Eq.trans (mex_congr fun m => ?_) (mex_leastB hc.1)
      rw [sums_mem hg]
      have : ((shapes r p).map fun s => xs (num r) s.dropLast) = (shapes r p).map fun s => xs (clNum r) s.dropLast := by
        refine List.map_congr_left fun s hs => ?_
        obtain ⟨a, rfl, hl, _⟩ := shapes_is hs
        rw [List.dropLast_concat]
        exact xs_congr fun x hx => h x (hl x hx)
      rw [this]
    refine num_chk hg n (p + 1) hc.2 (fun x hx => ?_) q (by omega)
    by_cases c : x = p
    · exact c ▸ hp
    · exact h x (by omega)
theorem num_cl {r : Rule} (hg : Good r) {p : Nat} (hp : p < 40) : num r p = clNum r p := num_chk hg 40 0 (chk_ok hg) (fun _ h => absurd h (Nat.not_lt_zero _)) p (by omega)
end Row
set_option Elab.async false
set_option linter.all false
set_option maxRecDepth 100000
set_option maxHeartbeats 1000000
namespace Row
noncomputable def Steps (r : Rule) (ts : List Int) : Prop := ∀ k, 1 ≤ k → k < ts.length → ts.getD (k - 1) 0 < ts.getD k 0 ∧ (r.1 = 2 → ts.getD k 0 = ts.getD (k - 1) 0 + 1)
end Row
set_option Elab.async false
set_option linter.all false
set_option maxRecDepth 100000
set_option maxHeartbeats 4000000
namespace L2
open PySem PySem.Spec PyProof.Rows
noncomputable def spLets (K : PySem.W.Frag) : Sp := fun vs H Q _ => ∃ (pr ph pt : Addr) (r : Row.Rule) (hs : List Nat) (ts : List Int), vs = [.ref pr, .ref ph, .ref pt] ∧ SqT K H pr (ruleV r) ∧ Row.Good r ∧ SqL K H ph (nl hs) ∧ SqL K H pt (ts.map V.int) ∧ ts.length ≤ 1000 ∧ ∀ b, (b = true ↔ Row.Lets r hs ts) → Q (.bl b) H
noncomputable def spIsRow : Sp := fun vs H Q _ => ∃ (pf pd : Addr) (xs ys : List Nat), vs = [.ref pf, .ref pd] ∧ H pf = some (.lst (nl xs)) ∧ H pd = some (.lst (nl ys)) ∧ ys.length ≤ 1000 ∧ Q (.bl (decide (xs = ys))) H
noncomputable def spPlaces (K : PySem.W.Frag) : Sp := fun vs H Q _ => ∃ (a : Addr) (ns : List Int) (first wide : Nat), vs = [.ref a, .int (first : Int), .int (wide : Int)] ∧ SqL K H a (ns.map V.int) ∧ (wide = 9 ∨ wide = 40) ∧ ∀ H' p ts, Same H H' → H p = none → H' p = some (.lst (nl ts)) → ts ≠ [] → ts.length ≤ 40 → Q (.ref p) H'
noncomputable def spSpoilt (K : PySem.W.Frag) : Sp := fun vs H Q _ => ∃ (pt : Addr) (ts : List Int) (way : Int), vs = [.ref pt, .int way] ∧ H pt = some (.lst (ts.map V.int)) ∧ ts ≠ [] ∧ ts.length ≤ 500 ∧ ∀ H' p (us : List Int), Same H H' → H' p = some (.lst (us.map V.int)) → us.length ≤ 1000 → Q (.ref p) H'
end L2
namespace L2
open PySem PySem.Spec PyProof.Rows
theorem lst_of {ts : TA} {σ : St} {H : Hp} {vs : List V} {Q : VK} (ha : EvA ts σ H vs) (hl : vs.length ≤ sizeLine) (q : ∀ p, H p = none → Q (.ref p) (upd H p (.lst vs))) : tLst ts σ H Q := ha _ ⟨hl, q⟩
theorem op_of {r : R2} {ta tb : TE} {σ : St} {H : Hp} {x : V} {Q : VK} (ha : EvE ta σ H x) (hb : tb σ H fun y H2 => r x y H2 Q) : tOp r ta tb σ H Q := ha _ hb
theorem retO_of {t : TE} {D : Ends} {σ : St} {H : Hp} (h : t σ H D.rt) : tRet t D σ H := h
end L2
namespace L2
open PySem PySem.Spec PyProof.Rows
noncomputable def spAfterC (K : PySem.W.Frag) : Sp := fun vs H Q _ => ∃ (pr ph pt : Addr) (r : Row.Rule) (hs t : List Nat), vs = [.ref pr, .ref ph, .ref pt] ∧ SqT K H pr (ruleV r) ∧ Row.Good r ∧ SqL K H ph (nl hs) ∧ Row.IsRow hs ∧ SqL K H pt (nl t) ∧ t.length ≤ 1000 ∧ (∃ last ∈ hs, t ∈ Row.shapes r last) ∧
  ∀ H' p, Same H H' → H p = none → H' p = some (.lst (nl (Row.behind 40 hs t))) → Q (.ref p) H'
end L2
namespace L2
open PySem PySem.Spec PyProof.Rows
noncomputable def zd (xs : List Int) : List Dt := xs.map Dt.int
section
variable {K : PySem.W.Frag} {σ : St} {H : Hp} {ta tb : TE}
end
end L2
set_option Elab.async false
set_option linter.all false
set_option maxRecDepth 100000
set_option maxHeartbeats 4000000
namespace Row
open Nim
noncomputable def bess (as bs : List Nat) (lx ly : Nat) : List (Nat × Nat) := (cross as bs).filter fun p => p.1 != lx || p.2 != ly
noncomputable def besides (rx ry : Rule) (lx ly : Nat) : List Nat := (shapes rx lx).flatMap fun as => (shapes ry ly).map fun bs => xs (num2 rx ry) (bess as bs lx ly)
end Row
namespace L2
open PySem PySem.Spec PyProof.Rows
noncomputable def tv (tt : List (List Nat)) (p : Nat × Nat) : Nat := Row.at0 (tt.getD p.1 []) p.2
noncomputable def spBesides (K : PySem.W.Frag) : Sp := fun vs H Q _ => ∃ (pt px py : Addr) (rs : List Addr) (tt : List (List Nat)) (a0 b0 : List Nat) (lx ly : Nat), vs = [.ref pt, .ref px, .ref py] ∧ H pt = some (.lst (rs.map V.ref)) ∧ RL (fun _ => none) H tt rs ∧ SqL K H px (nl (a0 ++ [lx])) ∧ SqL K H py (nl (b0 ++ [ly])) ∧
  (∀ a ∈ a0 ++ [lx], a < tt.length) ∧ (∀ row ∈ tt, ∀ b ∈ b0 ++ [ly], b < row.length) ∧ Q (.int ((Row.xs (tv tt) (Row.bess (a0 ++ [lx]) (b0 ++ [ly]) lx ly) : Nat) : Int)) H
noncomputable def spBoardNumber (K : PySem.W.Frag) : Sp := fun vs H Q _ => ∃ (px py : Addr) (rx ry : Row.Rule) (x y : Nat), vs = [.ref px, .ref py, .int (x : Int), .int (y : Int)] ∧ SqT K H px (ruleV rx) ∧ SqT K H py (ruleV ry) ∧ Row.Good rx ∧ Row.Good ry ∧ x < 16 ∧ y < 16 ∧ ∀ H', Same H H' → Q (.int ((Row.num2 rx ry (x, y) : Nat) : Int)) H'
end L2
namespace L2
open PySem PySem.Spec PyProof.Rows
noncomputable def Kp (d : Addr) (G H : Hp) : Prop := ∀ b o, b ≠ d → G b = some o → H b = some o
theorem Kp.refl {d : Addr} {G : Hp} : Kp d G G := fun _ _ _ h => h
theorem Kp.same {d : Addr} {G H H' : Hp} (h : Kp d G H) (s : Same H H') : Kp d G H' := fun b o n e => s _ _ (h b o n e)
theorem Kp.of {d : Addr} {G H : Hp} (s : Same G H) : Kp d G H := fun b o _ e => s _ _ e
theorem Kp.trans {d : Addr} {G H H' : Hp} (h : Kp d G H) (h' : Kp d H H') : Kp d G H' := fun b o n e => h' b o n (h b o n e)
theorem Kp.put {d : Addr} {G H : Hp} {o : HO} (h : Kp d G H) : Kp d G (upd H d o) := fun b u n e => by rw [upd_ne n]; exact h b u n e
theorem Kp.lst {d : Addr} {G H : Hp} {kvs : List (Key × V)} {p : Addr} {xs : List V} (h : Kp d G H) (hd : G d = some (.dK kvs)) (e : G p = some (.lst xs)) : H p = some (.lst xs) := h _ _ (fun z => by rw [z, hd] at e; cases e) e
theorem Kp.tup {K : PySem.W.Frag} {d : Addr} {G H : Hp} {kvs : List (Key × V)} {p : Addr} {xs : List V} (h : Kp d G H) (hd : G d = some (.dK kvs)) (e : SqT K G p xs) : SqT K H p xs := by
  rcases e with (e | ⟨o, e⟩) | e
  · exact .inl (.inl (h _ _ (fun z => by rw [z, hd] at e; cases e) e))
  · exact .inl (.inr ⟨o, h _ _ (fun z => by rw [z, hd] at e; cases e) e⟩)
  · exact .inr e
end L2
namespace L2
end L2
namespace L2
end L2
namespace Row
open Nim
theorem num2_lt {rx ry : Rule} {x y : Nat} (hx : num rx x < 65536) (hy : num ry y < 65536) : num2 rx ry (x, y) < 65536 := by
  unfold num2
  exact F4.lt hx hy
end Row
set_option linter.all false
set_option maxRecDepth 100000
set_option maxHeartbeats 4000000
namespace Row
noncomputable def chs (e : Nat) : Nat → Nat → List (List Nat)
  | 0, _ => [[]]
  | c + 1, s => (List.range' s (e - s)).flatMap fun f => (chs e c (f + 1)).map fun rest => f :: rest
noncomputable def endFew (lo k p : Nat) : List (List Nat) := (List.range' lo (k + 1 - lo)).flatMap fun len => (chs p (len - 1) 0).map fun l => l ++ [p]
noncomputable def endRun (k p : Nat) : List (List Nat) := (List.range (min k (p + 1))).map fun more => List.range' (p - more) (more + 1)
theorem chs_zero (e s : Nat) : chs e 0 s = [[]] := rfl
theorem chs_one (e s : Nat) : chs e 1 s = (List.range' s (e - s)).map fun f => [f] := by
  rw [chs]
  simp only [chs_zero, List.map_cons, List.map_nil]
  rw [← List.map_eq_flatMap]
theorem chs_two (e s : Nat) : chs e 2 s = (List.range' s (e - s)).flatMap fun f => (List.range' (f + 1) (e - (f + 1))).map fun g => [f, g] := by
  rw [chs]
  simp only [chs_one, List.map_map]
  rfl
noncomputable def prt (r : Rule) (last many : Nat) : List (List Nat) :=
  if r.1 = 2 then (if many ≤ last + 1 then [(List.range many).map fun k => last + 1 - many + k] else [])
    else if r.1 = 0 ∨ many = r.2 then
      (if many = 1 then [[last]] else []) ++ (if many = 2 then (List.range last).map fun one => [one, last] else []) ++
      (if many = 3 then (List.range last).flatMap fun one => (List.range' (one + 1) (last - (one + 1))).map fun two => [one, two, last] else [])
    else []
theorem shapes_prt (r : Rule) (last : Nat) : shapes r last = (List.range' 1 r.2).flatMap (prt r last) := rfl
theorem prt_few {r : Rule} (h2 : r.1 ≠ 2) (p many : Nat) (h1 : 1 ≤ many) (h3 : many ≤ 3) (hm : r.1 = 0 ∨ many = r.2) : prt r p many = (chs p (many - 1) 0).map fun l => l ++ [p] := by
  unfold prt
  rw [if_neg h2, if_pos hm]
  rcases (by omega : many = 1 ∨ many = 2 ∨ many = 3) with rfl | rfl | rfl
  · simp [chs_zero]
  · rw [show 2 - 1 = 1 from rfl, chs_one, List.map_map, Nat.sub_zero, ← List.range_eq_range']
    simp
  · rw [show 3 - 1 = 2 from rfl, chs_two, Nat.sub_zero, ← List.range_eq_range', List.map_flatMap]
    simp only [List.map_map]
    simp
    rfl
theorem endFew_most {k p : Nat} (h1 : 1 ≤ k) (h3 : k ≤ 3) : endFew 1 k p = shapes (0, k) p := by
  rw [shapes_prt]
  unfold endFew
  rw [show k + 1 - 1 = k by omega]
  show List.flatMap _ (List.range' 1 k) = List.flatMap _ (List.range' 1 k)
  have : ∀ x ∈ List.range' 1 k, ((chs p (x - 1) 0).map fun l => l ++ [p]) = prt (0, k) p x := by
    intro x hx
    rw [List.mem_range'_1] at hx
    exact (prt_few (show (0 : Nat) ≠ 2 by decide) p x hx.1 (by omega) (.inl rfl)).symm
  rw [List.flatMap_def, List.flatMap_def, List.map_congr_left this]
theorem endFew_just {k p : Nat} (h1 : 1 ≤ k) (h3 : k ≤ 3) : endFew k k p = shapes (1, k) p := by
  rw [shapes_prt]
  unfold endFew
  rw [show k + 1 - k = 1 by omega]
  show List.flatMap _ (List.range' k 1) = List.flatMap _ (List.range' 1 k)
  have e : List.range' 1 k = List.range' 1 (k - 1) ++ [k] := by
    have := @List.range'_1_concat 1 (k - 1)
    rw [show k - 1 + 1 = k by omega, show 1 + (k - 1) = k by omega] at this
    exact this
  have z : (List.range' 1 (k - 1)).flatMap (prt (1, k) p) = [] := by
    rw [List.flatMap_eq_nil_iff]
    intro x hx
    rw [List.mem_range'_1] at hx
    unfold prt
    rw [if_neg (show ¬ (1 : Nat) = 2 by decide), if_neg (by show ¬ ((1 : Nat) = 0 ∨ x = k); omega)]
  rw [e, List.flatMap_append, z, List.nil_append]
  have pf := prt_few (r := (1, k)) (show (1 : Nat) ≠ 2 by decide) p k h1 h3 (.inr rfl)
  show ((chs p (k - 1) 0).map fun l => l ++ [p]) ++ [] = prt (1, k) p k ++ []
  rw [pf]
theorem run_list (p more : Nat) (h : more ≤ p) : ((List.range (more + 1)).map fun k => p + 1 - (more + 1) + k) = List.range' (p - more) (more + 1) := by
  rw [List.range'_eq_map_range]
  have : p + 1 - (more + 1) = p - more := by omega
  rw [this]
theorem endRun_eq (k p : Nat) : endRun k p = shapes (2, k) p := by
  rw [shapes_prt]
  unfold endRun
  show List.map _ (List.range (min k (p + 1))) = List.flatMap (prt (2, k) p) (List.range' 1 k)
  have e : List.range' 1 k = List.range' 1 (min k (p + 1)) ++ List.range' (1 + min k (p + 1)) (k - min k (p + 1)) := by
    rw [List.range'_append_1]
    congr 1
    omega
  have z : (List.range' (1 + min k (p + 1)) (k - min k (p + 1))).flatMap (prt (2, k) p) = [] := by
    rw [List.flatMap_eq_nil_iff]
    intro x hx
    rw [List.mem_range'_1] at hx
    unfold prt
    rw [if_pos rfl, if_neg (by omega)]
  rw [e, List.flatMap_append, z, List.append_nil, List.range'_eq_map_range, List.flatMap_map, List.map_eq_flatMap, List.flatMap_def, List.flatMap_def]
  refine congrArg _ (List.map_congr_left fun x hx => ?_)
  have := List.mem_range.mp hx
  unfold prt
  rw [if_pos rfl, if_pos (by omega), show 1 + x = x + 1 by omega, run_list p x (by omega)]
noncomputable def endsAt (r : Rule) (p : Nat) : List (List Nat) := if r.1 = 2 then endRun r.2 p else endFew (if r.1 = 1 then r.2 else 1) r.2 p
theorem endsAt_eq {r : Rule} (hg : Good r) (p : Nat) : endsAt r p = shapes r p := by
  obtain ⟨t, k⟩ := r
  unfold endsAt
  rcases hg with ⟨h | h, h1, h3⟩ | ⟨h, h1, h3⟩ <;> simp only at h h1 h3 ⊢ <;> subst h
  · rw [if_neg (by decide), if_neg (by decide)]; exact endFew_most h1 h3
  · rw [if_neg (by decide), if_pos rfl]; exact endFew_just h1 h3
  · rw [if_pos rfl]; exact endRun_eq k p
end Row
set_option Elab.async false
set_option linter.all false
set_option maxRecDepth 100000
set_option maxHeartbeats 4000000
namespace L2
open PySem PySem.Spec PyProof.Rows
noncomputable def atS (kvs : List (Str × V)) (y : Str) : Option V := (kvs.find? fun kv => decide (kv.1 = y)).map (·.2)
noncomputable def GDic (K : PySem.W.Frag) (Pm : Params) (mg : Str → Option Value) (x : Str) (kvs : List (Str × V)) : Prop :=
  ∃ a es n, mg x = some (.ref a) ∧ K.lookup a = some ⟨.type "dict", none, .dict es n, #[]⟩ ∧ PySem.W.KeysLit Pm es.toList ∧ (a == sysModules) = false ∧
    Paired (fun (kv : Str × V) (e : DictEntry) => (∃ t, e.key = .str kv.1 t) ∧ RelV kv.2 e.val) kvs es.toList
theorem isStrOf_dec (x y : Str) (t : Tok) : Value.isStrOf y (.str x t) = decide (x = y) := by
  first
    | (show (x == y) = decide (x = y); by_cases h : x = y <;> simp [h])
    | (show (y == x) = decide (x = y); by_cases h : x = y <;> simp [h, eq_comm])
theorem find_rel {kvs : List (Str × V)} {l : List DictEntry} (h : Paired (fun (kv : Str × V) (e : DictEntry) => (∃ t, e.key = .str kv.1 t) ∧ RelV kv.2 e.val) kvs l) (y : Str) : RelO (atS kvs y) ((l.find? fun e => Value.isStrOf y e.key).map (·.val)) := by
  induction h with
  | nil => trivial
  | @cons p q ps qs h t ih =>
    obtain ⟨⟨tk, e⟩, r⟩ := h
    unfold atS at ih ⊢
    rw [List.find?_cons, List.find?_cons, e, isStrOf_dec]
    by_cases c : p.1 = y
    · rw [decide_eq_true c]; exact r
    · rw [decide_eq_false c]; exact ih
theorem find_relA {kvs : List (Str × V)} {es : Array DictEntry} (h : Paired (fun (kv : Str × V) (e : DictEntry) => (∃ t, e.key = .str kv.1 t) ∧ RelV kv.2 e.val) kvs es.toList) (y : Str) : RelO (atS kvs y) (findBy Value.isStrOf es y) := by
  obtain ⟨l⟩ := es
  unfold findBy
  rw [List.find?_toArray]
  exact find_rel h y
theorem glob_dic {K : PySem.W.Frag} {Pm : Params} {h : Heap} {mg : Str → Option Value} {x : Str} {a : Addr} {es : Array DictEntry} {n : Nat} {kvs : List (Str × V)} (X : K.In h) (G : h.Ns mainGlobals mg)
    (e : PySem.W.nsIn K mainGlobals x = some (some (.ref a))) (l : K.lookup a = some ⟨.type "dict", none, .dict es n, #[]⟩) (hk : PySem.W.KeysLit Pm es.toList) (hs : (a == sysModules) = false)
    (v : Paired (fun (kv : Str × V) (e : DictEntry) => (∃ t, e.key = .str kv.1 t) ∧ RelV kv.2 e.val) kvs es.toList) : GDic K Pm mg x kvs := ⟨a, es, n, PySem.W.mg_of X G e, l, hk, hs, v⟩
noncomputable def tKGet (kvs : List (Str × V)) (te : TE) : TE := fun σ H Q => te σ H fun y H1 => ∃ x v, y = .str x ∧ atS kvs x = some v ∧ Q v H1
noncomputable def tKIn (neg : Bool) (kvs : List (Str × V)) (te : TE) : TE := fun σ H Q => te σ H fun y H1 => ∃ x, y = .str x ∧ Q (.bl ((atS kvs x).isSome != neg)) H1
section
variable {X : Cx} {x : Str} {kvs : List (Str × V)} {i : Expr} {ty : TE} {pos pos' : Pos}
theorem pe_kget (h : GDic X.K X.w.params X.mg x kvs) (hi : PE X i ty) (hs : NoSl i) (hg : Gl X x := by rfl) (hd : (x == ("__debug__" : Str)) = false := by decide) : PE X (.Subscript (.Name x pos) i pos') (tKGet kvs ty) := by
  obtain ⟨a, es, n, hm, hl, hk, hsy, rel⟩ := h
  intro pins s σ H Q I h
  refine subD_of PySem.F.slot_dict_getitem.lookup hs (thn (pe_glob (v := .ref a) hg hm rfl hd pins s σ H (fun x H1 => x = .ref a ∧ H1 = H) I ⟨rfl, rfl⟩) fun u s1 ⟨x1, H1, I1, rx, ex, eH⟩ => ?_)
  subst ex eH
  obtain rfl : u = Value.ref a := rx
  refine thn (hi pins s1 σ _ _ I1 h) fun iv s2 ⟨y, H2, I2, ry, x2, v, ey, lk, q2⟩ => ?_
  subst ey
  obtain ⟨t, rfl⟩ := ry
  have hm := PySem.W.mapOf_K (prog := X.prog) (w := X.w) I2.kIn hl hk
  obtain ⟨w', hw, rw'⟩ := RelO.some_of (v := v) (o := findBy Value.isStrOf es x2) (by rw [← lk]; exact find_relA rel x2)
  exact ⟨hm.typeIs, wpAny_getItem_of (strKind_is X.prog X.w x2 t) hm hw ⟨v, H2, I2.tok _, rw', q2⟩⟩
theorem pc_knotin (h : GDic X.K X.w.params X.mg x kvs) (hi : PE X i ty) (hg : Gl X x := by rfl) (hd : (x == ("__debug__" : Str)) = false := by decide) : PC X .NotIn i (.Name x pos) (tKIn true kvs ty) := by
  obtain ⟨a, es, n, hm, hl, hk, hsy, rel⟩ := h
  intro pins s σ H Q I h
  refine thn (hi pins s σ H _ I h) fun iv s1 ⟨y, H1, I1, ry, x2, ey, q1⟩ => thn (pe_glob (v := .ref a) hg hm rfl hd pins s1 σ H1 (fun x H2 => x = .ref a ∧ H2 = H1) I1 ⟨rfl, rfl⟩) fun u s2 ⟨x1, H2, I2, rx, ex, eH⟩ => ?_
  subst ex eH ey
  obtain rfl : u = Value.ref a := rx
  obtain ⟨t, rfl⟩ := ry
  have hm := PySem.W.mapOf_K (prog := X.prog) (w := X.w) I2.kIn hl hk
  refine wpAny_notIn_of (strKind_is X.prog X.w x2 t) hsy hm ?_
  rw [← (find_relA rel x2).isSome_eq]
  exact ⟨.bl _, _, I2.tok _, rfl, by simpa using q1⟩
theorem call_rng2 : CallR X (.type "range") (fun xs H Q => ∃ i j, xs = [.int i, .int j] ∧ ∀ l, H l = none → Q (.ref l) (upd H l (.rng i j))) := by
  intro pins s σ H xs us Q I r h
  obtain ⟨i, j, rfl, q⟩ := h
  obtain ⟨u, v, rfl, ⟨t, rfl⟩, ⟨t', rfl⟩⟩ := vals2 r
  refine call_range_2 ⟨.ref s.heap.objs.size, _, I.laid (t' := s.toks + 1) (o := .rng i j) (fun b ob e => Heap.get?_push_of_some _ e) (Nat.le_refl _) ?_, rfl, q _ (I.hok.fresh (Nat.le_refl _))⟩
  exact ⟨t, t', s.toks, Heap.get?_push_size _ rfl⟩
theorem paired_of {α β : Type} {F : α → β → Prop} : ∀ {xs : List α} {ys : List β}, xs.length = ys.length → (∀ (i : Nat) x y, xs[i]? = some x → ys[i]? = some y → F x y) → Paired F xs ys
  | [], [], _, _ => .nil
  | [], _ :: _, h, _ => by simp at h
  | _ :: _, [], h, _ => by simp at h
  | x :: xs, y :: ys, h, g => .cons (g 0 x y rfl rfl) (paired_of (by simpa using h) fun i a b ha hb => g (i + 1) a b (by simpa using ha) (by simpa using hb))
theorem items_vals {lo : Int} {n : Nat} {acc : Array Value} (h : ItemsOf (fun i v => ∃ t, v = .int (lo + i * 1) t) acc n) : Vals ((List.range n).map fun (k : Nat) => V.int (lo + k)) acc.toList := by
  refine paired_of (by rw [List.length_map, List.length_range, Array.length_toList, h.1]) fun i x y hx hy => ?_
  rw [List.getElem?_map] at hx
  rw [Array.getElem?_toList] at hy
  have hi : i < n := by
    have := (Array.getElem?_eq_some_iff.mp hy).1
    rw [h.1] at this
    exact this
  rw [List.getElem?_range hi] at hx
  cases hx
  obtain ⟨tk, e⟩ := h.2 i y hy
  exact ⟨tk, by rw [e, Int.mul_one]⟩
theorem call_list_rng (hc : X.calm = true) : CallR X (.type "list") (fun xs H Q => ∃ p lo hi, xs = [.ref p] ∧ H p = some (.rng lo hi) ∧ -(2 ^ 62) ≤ lo ∧ lo < 2 ^ 62 ∧ -(2 ^ 62) ≤ hi ∧ hi < 2 ^ 62 ∧ (hi - lo).toNat ≤ 2 ^ 24 ∧
    ∀ l, H l = none → Q (.ref l) (upd H l (.lst ((List.range (hi - lo).toNat).map fun (k : Nat) => V.int (lo + k))))) := by
  intro pins s σ H xs us Q I r h
  obtain ⟨p, lo, hi, rfl, hp, h1, h2, h3, h4, hn, q⟩ := h
  obtain ⟨u, rfl, rx⟩ := vals1 r
  cases rx
  obtain ⟨t, u, v, hr⟩ := (show ObjOk X.prog X.w H s.heap p (.rng lo hi) from I.hok p _ hp)
  have e2 : Builtin.Range.rangeSize lo hi 1 = (((hi - lo).toNat : Nat) : Int) := by rw [rangeSize_one]; split <;> omega
  refine call_list_range (I.ok.hd hc) (show IsRange s.heap p lo hi 1 t u v from hr) (small_one h1 h2 h3 h4) e2 hn fun h' tk acc c hk hD hI => ?_
  exact ⟨.ref s.heap.objs.size, _, I.laid (t' := tk) hk (Nat.le_refl _) (show ObjOk X.prog X.w _ h' _ (.lst _) from ⟨by rw [List.length_map, List.length_range]; exact Nat.le_trans hn (by decide), acc.toList, c, items_vals hI, hD⟩), rfl, q _ (I.hok.fresh (Nat.le_refl _))⟩
end
section
variable {σ : St} {H : Hp} {t : TE} {kvs : List (Str × V)} {x : Str} {v : V}
theorem ev_kget (h : EvE t σ H (.str x)) (e : atS kvs x = some v) : EvE (tKGet kvs t) σ H v := fun Q q => h _ ⟨x, v, rfl, e, q⟩
theorem ev_kin {neg : Bool} (h : EvE t σ H (.str x)) : EvE (tKIn neg kvs t) σ H (.bl ((atS kvs x).isSome != neg)) := fun Q q => h _ ⟨x, rfl, q⟩
theorem while_ev {c : TT} {tb : TS} {D : Ends} {σ : St} {H : Hp} (Pv : St → Hp → Prop) (μ : St → Hp → Nat) (h0 : Pv σ H)
    (hs : ∀ σ H, Pv σ H → ∃ b, EvT c σ H b ∧ (b = true → tb { D with nx := fun σ' H' => Pv σ' H' ∧ μ σ' H' < μ σ H, ct := fun σ' H' => Pv σ' H' ∧ μ σ' H' < μ σ H, bk := D.nx } σ H) ∧ (b = false → D.nx σ H)) : tWhile c tb D σ H := by
  refine ⟨fun m σ H => m = μ σ H ∧ Pv σ H, ⟨_, rfl, h0⟩, ?_⟩
  rintro m σ H ⟨rfl, p⟩
  obtain ⟨b, hb, ht, hf⟩ := hs σ H p
  refine hb _ ?_
  cases b with
  | true => exact ⟨_, fun σ' H' ⟨p', l⟩ => ⟨_, l, rfl, p'⟩, ht rfl⟩
  | false => exact hf rfl
theorem ev_isJust {K : PySem.W.Frag} {σ : St} {H : Hp} {n : Nat} {pr : Addr} {r : Row.Rule} (hv : σ[n]? = some (some (.ref pr))) (h : SqT K H pr (ruleV r)) (h2 : r.1 ≤ 2) : EvE (tOp rEq (tOp (rIxT K) (tVar n) (tC (V.int 0))) (tC (V.str "just"))) σ H (.bl (decide (r.1 = 1))) := by
  rw [← word_just h2]
  exact ev_eq (ev_rule0 hv h) ev_c rfl
section
variable {K : PySem.W.Frag} {sp : Sp} {E : XK} {ts : TA} {t : TE} {σ : St} {H : Hp} {vs : List V} {Q : VK} {r : List V → Hp → VK → Prop} {R : It → Hp → Prop}
theorem call_of (ha : EvA ts σ H vs) (h : sp (vs ++ []) H Q E) : tCall sp [] E ts σ H Q := ha _ h
theorem cb_of (ha : EvA ts σ H vs) (h : r vs H Q) : tCB r ts σ H Q := ha _ h
theorem cb1_of (h : t σ H fun v H1 => r [v] H1 Q) : tCB r (tCons t tNil) σ H Q := h
theorem argE_of {v : V} {Q : List V → Hp → Prop} (ha : EvE t σ H v) (h : ts σ H fun vs H1 => Q (v :: vs) H1) : tCons t ts σ H Q := ha _ h
theorem argO_of {Q : List V → Hp → Prop} (h : t σ H fun v H1 => ts σ H1 fun vs H2 => Q (v :: vs) H2) : tCons t ts σ H Q := h
theorem callO_of (h : ts σ H fun vs H1 => sp (vs ++ []) H1 Q E) : tCall sp [] E ts σ H Q := h
theorem arg1_of {Q : List V → Hp → Prop} (h : t σ H fun v H1 => Q [v] H1) : tCons t tNil σ H Q := h
theorem tup_of (ha : EvA ts σ H vs) (hl : vs.length ≤ sizeLine) (q : ∀ p, H p = none → Q (.ref p) (upd H p (.tup vs))) : tTup ts σ H Q := ha _ ⟨hl, q⟩
theorem asgO_of {D : Ends} {n : Nat} (h : t σ H fun x H1 => D.nx (σ.set n (some x)) H1) : tAsg t (gName n) D σ H := h
theorem ifO_of {D : Ends} {s u : TS} (h : t σ H fun x H1 => ∃ k, x = .bl k ∧ (if k = true then s D σ H1 else u D σ H1)) : tIfS (tTest t) s u D σ H := h
theorem ifB_of {D : Ends} {s u : TS} (h : t σ H fun x H1 => ∃ k, x = .bl k ∧ (if k = true then s D σ H1 else u D σ H1)) : tIfS (tB t) s u D σ H := h
theorem opO_of {r : R2} {tb : TE} (h : t σ H fun x H1 => tb σ H1 fun y H2 => r x y H2 Q) : tOp r t tb σ H Q := h
theorem iList_of (h : t σ H fun v H1 => ∃ a, v = .ref a ∧ (∃ xs, SqL K H1 a xs) ∧ R (Itl K a) H1) : iList K t σ H R := h
end
noncomputable def intAt (k : Nat) (σ : St) : Nat := match σ[k]? with
  | some (some (V.int n)) => n.toNat
  | _ => 0
end
theorem comp_rows {K : PySem.W.Frag} {wi : TI} {ix : List Nat} {te : TE} {σ : St} {H : Hp} {Q : VK} {xss : List (List Nat)} (g : List Nat → List Nat) (Cn : Hp → Addr → List Addr → Prop)
    (hw : ∀ R : It → Hp → Prop, (∀ H1 la rs0, Cn H1 la rs0 → R (Itl K la) H1) → wi σ H R) (hl : ∀ H1 la rs0, Cn H1 la rs0 → Same H H1 ∧ H1 la = some (.lst (rs0.map V.ref)) ∧ RL H H1 xss rs0) (hn : xss.length < sizeLine)
    (he : ∀ (x : List Nat) (r : Addr) (H' : Hp) (R : VK), x ∈ xss → Same H H' → H' r = some (.lst (nl x)) → (∀ p H'', Same H' H'' → H' p = none → H'' p = some (.lst (nl (g x))) → R (.ref p) H'') → te (some (.ref r) :: slots σ ix) H' R)
    (q : ∀ acc rs H2, H acc = none → Same H H2 → H2 acc = some (.lst (rs.map V.ref)) → RL H H2 (xss.map g) rs → rs.Nodup → Q (.ref acc) H2) : tComp wi ix tYes te σ H Q := by
  refine hw _ fun H1 la rs0 hc acc hacc => ?_
  obtain ⟨s1, hla, hr0⟩ := hl H1 la rs0 hc
  have lr := hr0.length
  refine ⟨fun i m H2 => i ≤ xss.length ∧ m = xss.length - i ∧ Same H1 H2 ∧ ∃ rs, H2 acc = some (.lst (rs.map V.ref)) ∧ RL H H2 ((xss.take i).map g) rs ∧ rs.Nodup, ⟨xss.length, Nat.zero_le _, by simp, (Same.refl H1).new hacc, [], upd_same, .nil, List.nodup_nil⟩, ?_⟩
  rintro i m H2 ⟨hi, rfl, sm, rs, hl2, hr2, nd⟩
  have hq : SqL K H2 la (rs0.map V.ref) := .of (sm _ _ hla)
  by_cases hlt : i < xss.length
  · have hi0 : i < (rs0.map V.ref).length := by rw [List.length_map]; omega
    refine .inr ⟨⟨_, (rs0.map V.ref)[i], hq, List.getElem?_eq_getElem hi0⟩, ?_⟩
    rintro x H3 ⟨rfl, hx⟩
    have hx := hx _ hq
    rw [List.getElem?_map] at hx
    cases er : rs0[i]? with
    | none => rw [er] at hx; cases hx
    | some r =>
      rw [er] at hx
      cases hx
      obtain ⟨xi, hxi, hri, hfr⟩ := paired_get hr0 er
      unfold tYes
      dsimp only
      rw [if_pos rfl]
      refine he xi r _ _ (List.mem_of_getElem? hxi) (s1.trans sm) (sm _ _ hri) fun p H4 s4 hp hp4 => ?_
      have pn : p ∉ rs := fun hm => by
        obtain ⟨_, _, e, _⟩ := paired_mem hr2 hm
        rw [hp] at e
        cases e
      have pa : acc ≠ p := ne_of_none hl2 hp
      refine ⟨rs.map V.ref, s4 _ _ hl2, ?_, xss.length - (i + 1), by omega, hlt, rfl, (sm.trans s4).upd hacc, rs ++ [p], ?_, ?_, ?_⟩
      · rw [List.length_map, ← hr2.length, List.length_map, List.length_take]; omega
      · rw [upd_same, List.map_append]; rfl
      · rw [List.take_add_one, hxi, List.map_append]
        refine RL.app (RL.set (hr2.same s4) (hr2.apart hl2)) (.cons ⟨?_, (s1.trans sm).free hp⟩ .nil)
        rw [upd_ne (Ne.symm pa)]
        exact hp4
      · rw [List.nodup_append]
        refine ⟨nd, by simp, fun a ha b hb e => ?_⟩
        have : b = p := by simpa using hb
        subst this
        subst e
        exact pn ha
  · have e : i = xss.length := by omega
    subst e
    refine .inl ⟨⟨_, hq, by rw [List.length_map]; omega⟩, q acc rs H2 (s1.free hacc) (s1.trans sm) hl2 ?_ nd⟩
    rw [List.take_length] at hr2
    exact hr2
theorem comp_range_rows {wi : TI} {ix : List Nat} {te : TE} {σ : St} {H : Hp} {Q : VK} {lo : Int} {n : Nat} (f : Nat → List Nat) (hw : ∀ R : It → Hp → Prop, R (Itr lo n) H → wi σ H R) (hn : n < sizeLine)
    (he : ∀ (i : Nat) (H' : Hp) (R : VK), i < n → Same H H' → (∀ p H'', Same H' H'' → H' p = none → H'' p = some (.lst (nl (f i))) → R (.ref p) H'') → te (some (.int (lo + i)) :: slots σ ix) H' R)
    (q : ∀ acc rs H2, H acc = none → Same H H2 → H2 acc = some (.lst (rs.map V.ref)) → RL H H2 ((List.range n).map f) rs → rs.Nodup → Q (.ref acc) H2) : tComp wi ix tYes te σ H Q := by
  refine hw _ fun acc hacc => ⟨fun i m H2 => i ≤ n ∧ m = n - i ∧ Same H H2 ∧ ∃ rs, H2 acc = some (.lst (rs.map V.ref)) ∧ RL H H2 ((List.range i).map f) rs ∧ rs.Nodup, ⟨n, Nat.zero_le _, by simp, (Same.refl H).new hacc, [], upd_same, .nil, List.nodup_nil⟩, ?_⟩
  rintro i m H2 ⟨hi, rfl, sm, rs, hl2, hr2, nd⟩
  by_cases hlt : i < n
  · refine .inr ⟨hlt, ?_⟩
    rintro x H3 ⟨rfl, rfl⟩
    unfold tYes
    dsimp only
    rw [if_pos rfl]
    refine he i _ _ hlt sm fun p H4 s4 hp hp4 => ?_
    have pn : p ∉ rs := fun hm => by
      obtain ⟨_, _, e, _⟩ := paired_mem hr2 hm
      rw [hp] at e
      cases e
    have pa : acc ≠ p := ne_of_none hl2 hp
    refine ⟨rs.map V.ref, s4 _ _ hl2, ?_, n - (i + 1), by omega, hlt, rfl, (sm.trans s4).upd hacc, rs ++ [p], ?_, ?_, ?_⟩
    · rw [List.length_map, ← hr2.length, List.length_map, List.length_range]; omega
    · rw [upd_same, List.map_append]; rfl
    · rw [List.range_succ, List.map_append]
      refine RL.app (RL.set (hr2.same s4) (hr2.apart hl2)) (.cons ⟨?_, sm.free hp⟩ .nil)
      rw [upd_ne (Ne.symm pa)]
      exact hp4
    · rw [List.nodup_append]
      refine ⟨nd, by simp, fun a ha b hb e => ?_⟩
      have : b = p := by simpa using hb
      subst this
      subst e
      exact pn ha
  · have e : i = n := by omega
    subst e
    exact .inl ⟨Nat.le_refl _, q acc rs H2 hacc sm hl2 hr2 nd⟩
theorem nodup_behind {H0 H1 H2 : Hp} {xss yss : List (List Nat)} {rs ss : List Addr} (h : RL H0 H1 xss rs) (h' : RL H1 H2 yss ss) (n : rs.Nodup) (n' : ss.Nodup) : (rs ++ ss).Nodup := by
  rw [List.nodup_append]
  refine ⟨n, n', fun a ha b hb e => ?_⟩
  subst e
  obtain ⟨_, _, e1, _⟩ := paired_mem h ha
  obtain ⟨_, _, _, e2⟩ := paired_mem h' hb
  rw [e2] at e1
  cases e1
end L2
namespace Row
theorem chs_len {e : Nat} (he : e ≤ 40) : ∀ c s, (chs e c s).length ≤ 40 ^ c
  | 0, s => by simp [chs]
  | c + 1, s => by
    rw [chs]
    refine Nat.le_trans (flat_len (m := 40 ^ c) fun a _ => by rw [List.length_map]; exact chs_len he c _) ?_
    rw [List.length_range', Nat.pow_succ, Nat.mul_comm]
    exact Nat.mul_le_mul_left _ (by omega)
theorem chs_mem_len {e : Nat} : ∀ {c s : Nat} {x : List Nat}, x ∈ chs e c s → x.length = c
  | 0, s, x, h => by
    rw [chs] at h
    rw [List.mem_singleton.mp h]
    rfl
  | c + 1, s, x, h => by
    rw [chs] at h
    obtain ⟨f, _, h⟩ := List.mem_flatMap.mp h
    obtain ⟨r, hr, rfl⟩ := List.mem_map.mp h
    rw [List.length_cons, chs_mem_len hr]
end Row
set_option Elab.async false
set_option linter.all false
set_option maxRecDepth 100000
set_option maxHeartbeats 4000000
namespace HT
open PySem PyProof.Rows
noncomputable def lexLe : List Int → List Int → Bool
  | [], _ => true
  | _ :: _, [] => false
  | x :: xs, y :: ys => if x = y then lexLe xs ys else decide (x ≤ y)
theorem lexLe_cons (x y : Int) (xs ys : List Int) : lexLe (x :: xs) (y :: ys) = if x = y then lexLe xs ys else decide (x ≤ y) := rfl
theorem lexLe_nil_nil : lexLe [] [] = true := rfl
theorem lexLe_nil_cons (y : Int) (ys : List Int) : lexLe [] (y :: ys) = true := rfl
theorem lexLe_cons_nil (x : Int) (xs : List Int) : lexLe (x :: xs) [] = false := rfl
theorem rcLe_int (A : Around) (s : Shared) (a : Int) (t : Tok) (c : Int) (u : Tok) (prog : Program) (w : World) (E : Value → Shared → Prop) (Q : Value → Shared → Prop) (h : Q (.bool (decide (a ≤ c))) s) :
    wpAny (model prog w) A (richCompare .LtE (.int a t) (.int c u)) Q E s :=
  (PyProof.Rows.le_int h : wpAny (model prog w) A (compareOp .LtE (.int a t) (.int c u)) Q E s)
section
open PySem.SeqAt
open PySem.AutoSeq1 (wpAny_loadPart')
open PySem.MeetsSeq PySem.MeetsSeq2 PySem.MeetsSeq3
theorem tuple_le_ints (l b : Addr) (items items2 : Array Value) (n n2 : Nat) (dd dd2 : Option Addr) (sl sl2 : Array (Option Value)) (ns ms : List Int) (hi : IntsAre items.toList ns) (hj : IntsAre items2.toList ms) :
    Meets (Builtin.«tuple.__le__» ⟨[.ref l, .ref b], []⟩)
      (fun _ R s => s.heap.get? l = some { cls := .type "tuple", dict := dd, data := .seq items n, slots := sl } ∧ s.heap.get? b = some { cls := .type "tuple", dict := dd2, data := .seq items2 n2, slots := sl2 } ∧
        R (.ok (.ret (.bool (lexLe ns ms)))) s) :=
  .of_wp fun prog w A R s h => by
    obtain ⟨hp, g, d, tk, os⟩ := s; obtain ⟨hl, hb, h⟩ := h
    have f2 := AutoSeq1.sub_tuple_tuple
    have z1 : items.size = ns.length := by rw [← hi.length]; simp
    have z2 : items2.size = ms.length := by rw [← hj.length]; simp
    wp_walk using wpAny_loadPart' hl, wpAny_loadPart' hb, wpAny_forIn_list _ (fun rest b s' => b.1 = none ∧ s' = ⟨hp, g, d, tk, os⟩ ∧ ∃ (vs ws : List Value) (ns' ms' : List Int), rest = vs.zip ws ∧
      IntsAre vs ns' ∧ IntsAre ws ms' ∧ ns'.length + items2.size = ms'.length + items.size ∧ R (.ok (.ret (.bool (lexLe ns' ms')))) ⟨hp, g, d, tk, os⟩) _
    case turn =>
      rintro ⟨y, x⟩ rest b s' ⟨hb', rfl, vs, ws, ns', ms', hz, hvi, hwi, hlen, hR⟩
      cases hvi with
      | nil => rw [List.zip_nil_left] at hz; cases hz
      | cons a t hvi' =>
        cases hwi with
        | nil => rw [List.zip_nil_right] at hz; cases hz
        | cons c u hwi' =>
          rw [List.zip_cons_cons] at hz
          injection hz with hyx hrest
          injection hyx with hy hx
          subst hy hx
          rw [lexLe_cons] at hR
          simp only [List.length_cons] at hlen
          obtain ⟨e, he, hiff⟩ := eqAt_int A.in1 ⟨hp, g, d, tk, os⟩ a t c u
          refine wpAny_bind (he prog w _ _ ?_)
          cases e with
          | true =>
            rw [if_pos (hiff.mp rfl)] at hR
            wp_walk
            exact ⟨rfl, rfl, _, _, _, _, hrest, hvi', hwi', by omega, hR⟩
          | false =>
            rw [if_neg (fun q => absurd (hiff.mpr q) Bool.false_ne_true)] at hR
            have hri := rcLe_int A.in1 ⟨hp, g, d, tk, os⟩ a t c u prog w
            wp_walk using hri
            exact ⟨_, rfl, by simpa using hR⟩
    case fin =>
      rintro ⟨b1, b2⟩ s' ⟨hb', rfl, vs, ws, ns', ms', hz, hvi, hwi, hlen, hR⟩
      simp only at hb'
      subst hb'
      have hv : lexLe ns' ms' = decide (items.size ≤ items2.size) := by
        cases hvi with
        | nil =>
          cases hwi with
          | nil =>
            simp only [List.length_nil] at hlen
            rw [lexLe_nil_nil]
            exact (decide_eq_true (by omega)).symm
          | cons c u hw =>
            simp only [List.length_nil, List.length_cons] at hlen
            rw [lexLe_nil_cons]
            exact (decide_eq_true (by omega)).symm
        | cons a t hv =>
          cases hwi with
          | nil =>
            simp only [List.length_nil, List.length_cons] at hlen
            rw [lexLe_cons_nil]
            exact (decide_eq_false (by omega)).symm
          | cons c u hw =>
            rw [List.zip_cons_cons] at hz
            cases hz
      rw [hv] at hR
      wp_walk
      exact ⟨_, rfl, by simpa [Builtin.Tuple.tupleCompareSizes] using hR⟩
    case h =>
      exact ⟨rfl, rfl, items.toList, items2.toList, ns, ms, rfl, hi, hj, by omega, h⟩
end
section
variable {prog : Program} {w : World} {A : Around} {E : Value → Shared → Prop} {s : Shared}
theorem le_tupInts {l b : Addr} {items items2 : Array Value} {ns ms : List Int} {Q : Value → Shared → Prop} (hl : IsTup s.heap l items) (hb : IsTup s.heap b items2) (hi : IntsAre items.toList ns) (hj : IntsAre items2.toList ms)
    (hu : A.units < cLine) (h : Q (.bool (lexLe ns ms)) s) : wpAny (model prog w) A (compareOp .LtE (.ref l) (.ref b)) Q E s := by
  obtain ⟨⟨cls, dd, data, sl⟩, ho, hc, n, hd⟩ := id hl
  obtain ⟨⟨cls2, dd2, data2, sl2⟩, ho2, hc2, n2, hd2⟩ := id hb
  simp only at hc hd hc2 hd2
  subst hc hd hc2 hd2
  exact richCompare_meets_room (op := .LtE) ⟨_, ho, rfl⟩ ⟨_, ho2, rfl⟩ PySem.F.slot_tuple_le PySem.F.entry_tuple_le (PySem.F.args_tuple_le_2 _ _) (tuple_le_ints l b items items2 n n2 dd dd2 sl sl2 ns ms hi hj)
    ⟨ho, ho2, show Value.bool (lexLe ns ms) ≠ Value.notImplemented ∧ Q (.bool (lexLe ns ms)) s from ⟨(fun x => nomatch x), h⟩⟩ hu
end
end HT
namespace L2
open PySem PySem.Spec PyProof.Rows
section
variable {X : Cx}
noncomputable def rLeT (K : PySem.W.Frag) : R2 := fun x y H Q => ∃ a b ns ms, x = .ref a ∧ y = .ref b ∧ SqT K H a (ns.map V.int) ∧ SqT K H b (ms.map V.int) ∧ Q (.bl (HT.lexLe ns ms)) H
theorem op_leT (hu : X.A.units < cLine) : OpR X (compareOp .LtE) (rLeT X.K) := by
  intro pins s σ H x y v u Q I rx ry h
  obtain ⟨a, b, ns, ms, rfl, rfl, ha, hb, q⟩ := h
  cases rx
  cases ry
  obtain ⟨its, r1, p1, _⟩ := I.tuple ha
  obtain ⟨its2, r2, p2, _⟩ := I.tuple hb
  have i1 : IntsAre its.toArray.toList ns := intsAre_of r1
  have i2 : IntsAre its2.toArray.toList ms := intsAre_of r2
  exact HT.le_tupInts p1 p2 i1 i2 hu ⟨.bl (HT.lexLe ns ms), H, I, rfl, q⟩
end
end L2
set_option linter.all false
set_option maxRecDepth 100000
set_option maxHeartbeats 4000000
namespace Row
open Nim
noncomputable def PLt (a b : Nat × Nat) : Prop := a.1 < b.1 ∨ (a.1 = b.1 ∧ a.2 < b.2)
structure IsBoard (ps : List (Nat × Nat)) : Prop where
  sorted : ps.Pairwise PLt
  lt : ∀ p ∈ ps, p.1 < 16 ∧ p.2 < 16
theorem num32_ok : ((List.range 16).all fun p => ((List.range 2).all fun t => (List.range' 1 3).all fun k => decide (clNum (t, k) p < 32)) && (List.range' 1 40).all fun k => decide (clNum (2, k) p < 32)) = true := by decide +kernel
theorem num32 {r : Rule} {p : Nat} (hg : Good r) (hp : p < 16) : num r p < 32 := by
  rw [num_cl hg (by omega)]
  have h := List.all_eq_true.mp num32_ok p (List.mem_range.mpr hp)
  rw [Bool.and_eq_true] at h
  obtain ⟨t, k⟩ := r
  rcases hg with ⟨h1, h2, h3⟩ | ⟨h1, h2, h3⟩ <;> simp only at h1 h2 h3
  · have a := List.all_eq_true.mp h.1 t (List.mem_range.mpr (by omega))
    exact of_decide_eq_true (List.all_eq_true.mp a k (List.mem_range'_1.mpr (by omega)))
  · subst h1
    exact of_decide_eq_true (List.all_eq_true.mp h.2 k (List.mem_range'_1.mpr (by omega)))
theorem sum32 {r : Rule} {l : List Nat} (hg : Good r) (hl : ∀ a ∈ l, a < 16) : xs (num r) l < 32 := xs_lt (k := 5) fun a ha => num32 hg (hl a ha)
noncomputable def turns2 (rx ry : Rule) (ps : List (Nat × Nat)) : List (List Nat × List Nat) := ps.flatMap fun p => (shapes rx p.1).flatMap fun as => (shapes ry p.2).map fun bs => (as, bs)
noncomputable def tsum (rx ry : Rule) (t : List Nat × List Nat) : Nat := nim 4 (xs (num rx) t.1) (xs (num ry) t.2)
noncomputable def replyOf2 (rx ry : Rule) (ps : List (Nat × Nat)) : Option (List Nat × List Nat) := (turns2 rx ry ps).find? fun t => tsum rx ry t == xs (num2 rx ry) ps
theorem n16 {r : Rule} {p : Nat} (hg : Good r) (hp : p < 16) : num r p < 65536 := Nat.lt_trans (num32 hg hp) (by decide)
theorem shape16 {r : Rule} {l : Nat} {s : List Nat} (h : s ∈ shapes r l) (hl : l < 16) : ∀ a ∈ s, a < 16 := fun a ha => by have := shape_le h a ha; omega
noncomputable def grid (n : Nat) : List (Nat × Nat) := (List.range n).flatMap fun x => (List.range n).map fun y => (x, y)
noncomputable def behind2 (n : Nat) (ps : List (Nat × Nat)) (t : List Nat × List Nat) : List (Nat × Nat) := (grid n).filter fun p => decide (p ∈ ps) != (decide (p.1 ∈ t.1) && decide (p.2 ∈ t.2))
noncomputable def weight2 (n : Nat) (ps : List (Nat × Nat)) : Nat := xs (fun p => 2 ^ (n * p.1 + p.2)) ps
end Row
set_option Elab.async false
set_option linter.all false
set_option maxRecDepth 100000
set_option maxHeartbeats 4000000
namespace L2
open PySem PySem.Spec PyProof.Rows
noncomputable def BL (K : PySem.W.Frag) (H : Hp) (ps : List (Nat × Nat)) (rs : List Addr) : Prop := Paired (fun (p : Nat × Nat) r => SqT K H r [.int (p.1 : Int), .int (p.2 : Int)]) ps rs
theorem BL.length {K : PySem.W.Frag} {H : Hp} {ps : List (Nat × Nat)} {rs : List Addr} (h : BL K H ps rs) : ps.length = rs.length := Paired.length h
theorem BL.same {K : PySem.W.Frag} {H H' : Hp} {ps : List (Nat × Nat)} {rs : List Addr} (h : BL K H ps rs) (s : Same H H') : BL K H' ps rs := Paired.mapP h fun _ _ q => s.tup q
noncomputable def spBoardValue (K : PySem.W.Frag) : Sp := fun vs H Q _ => ∃ (px py ph : Addr) (rx ry : Row.Rule) (ps : List (Nat × Nat)) (rs : List Addr), vs = [.ref px, .ref py, .ref ph] ∧ SqT K H px (ruleV rx) ∧ SqT K H py (ruleV ry) ∧ Row.Good rx ∧ Row.Good ry ∧
  SqL K H ph (rs.map V.ref) ∧ BL K H ps rs ∧ Row.IsBoard ps ∧ ∀ H', Same H H' → Q (.int ((Row.xs (Row.num2 rx ry) ps : Nat) : Int)) H'
noncomputable def spBoardReply (K : PySem.W.Frag) : Sp := fun vs H Q _ => ∃ (px py ph : Addr) (rx ry : Row.Rule) (ps : List (Nat × Nat)) (rs : List Addr), vs = [.ref px, .ref py, .ref ph] ∧ SqT K H px (ruleV rx) ∧ SqT K H py (ruleV ry) ∧ Row.Good rx ∧ Row.Good ry ∧
  SqL K H ph (rs.map V.ref) ∧ BL K H ps rs ∧ Row.IsBoard ps ∧
  (Row.replyOf2 rx ry ps = none → ∀ H', Same H H' → Q .non H') ∧
  (∀ t, Row.replyOf2 rx ry ps = some t → ∀ H' p a b, Same H H' → H p = none → H' p = some (.tup [.ref a, .ref b]) → H a = none → H b = none → a ≠ b → H' a = some (.lst (nl t.1)) → H' b = some (.lst (nl t.2)) → Q (.ref p) H')
theorem at_refs2 {α : Type} {F : α → Addr → Prop} {ps : List α} {rs : List Addr} {i : Nat} {x : V} (h : Paired F ps rs) (hx : (rs.map V.ref)[i]? = some x) : ∃ p r, ps[i]? = some p ∧ rs[i]? = some r ∧ x = V.ref r ∧ F p r := by
  rw [List.getElem?_map] at hx
  cases e : rs[i]? with
  | none => rw [e] at hx; cases hx
  | some r =>
    rw [e] at hx
    cases hx
    obtain ⟨p, hp, hF⟩ := paired_get h e
    exact ⟨p, r, hp, rfl, rfl, hF⟩
noncomputable def TLF (Pr : Addr → Prop) (H : Hp) (f : List Nat → Addr → List V) (xss : List (List Nat)) (ts : List Addr) : Prop :=
  ts.length = xss.length ∧ ∀ (j : Nat) t, ts[j]? = some t → ∃ s a, xss[j]? = some s ∧ H t = some (.tup (f s a)) ∧ H a = some (.lst (nl s)) ∧ Pr a
theorem TLF.keep {Pr : Addr → Prop} {H H' : Hp} {f : List Nat → Addr → List V} {xss : List (List Nat)} {ts : List Addr} (h : TLF Pr H f xss ts) (k1 : ∀ a xs, H a = some (.lst xs) → H' a = some (.lst xs)) (k2 : ∀ a xs, H a = some (.tup xs) → H' a = some (.tup xs)) : TLF Pr H' f xss ts :=
  ⟨h.1, fun j t e => by
    obtain ⟨s, a, h1, h2, h3, h4⟩ := h.2 j t e
    exact ⟨s, a, h1, k2 _ _ h2, k1 _ _ h3, h4⟩⟩
theorem TLF.imp {Pr Pr' : Addr → Prop} {H : Hp} {f : List Nat → Addr → List V} {xss : List (List Nat)} {ts : List Addr} (h : TLF Pr H f xss ts) (g : ∀ a s, H a = some (.lst (nl s)) → Pr a → Pr' a) : TLF Pr' H f xss ts :=
  ⟨h.1, fun j t e => by
    obtain ⟨x, a, h1, h2, h3, h4⟩ := h.2 j t e
    exact ⟨x, a, h1, h2, h3, g a x h3 h4⟩⟩
theorem comp_tups {K : PySem.W.Frag} {wi : TI} {ix : List Nat} {te : TE} {σ : St} {H : Hp} {Q : VK} {xss : List (List Nat)} (f : List Nat → Addr → List V) (Cn : Hp → Addr → List Addr → Prop)
    (hw : ∀ R : It → Hp → Prop, (∀ H1 la rs0, Cn H1 la rs0 → R (Itl K la) H1) → wi σ H R) (hl : ∀ H1 la rs0, Cn H1 la rs0 → Same H H1 ∧ H1 la = some (.lst (rs0.map V.ref)) ∧ RL H H1 xss rs0) (hn : xss.length < sizeLine)
    (he : ∀ (x : List Nat) (r : Addr) (H' : Hp) (R : VK), x ∈ xss → Same H H' → H' r = some (.lst (nl x)) → (∀ p, H' p = none → R (.ref p) (upd H' p (.tup (f x r)))) → te (some (.ref r) :: slots σ ix) H' R)
    (q : ∀ acc ts H2, H acc = none → Same H H2 → H2 acc = some (.lst (ts.map V.ref)) → TLF (fun a => H a = none) H2 f xss ts → Q (.ref acc) H2) : tComp wi ix tYes te σ H Q := by
  refine hw _ fun H1 la rs0 hc acc hacc => ?_
  obtain ⟨s1, hla, hr0⟩ := hl H1 la rs0 hc
  have lr := hr0.length
  refine ⟨fun i m H2 => i ≤ xss.length ∧ m = xss.length - i ∧ Same H1 H2 ∧ ∃ ts : List Addr, H2 acc = some (.lst (ts.map V.ref)) ∧ ts.length = i ∧ ∀ (j : Nat) t, ts[j]? = some t → ∃ s a, xss[j]? = some s ∧ rs0[j]? = some a ∧ H2 t = some (.tup (f s a)),
    ⟨xss.length, Nat.zero_le _, by simp, (Same.refl H1).new hacc, [], upd_same, rfl, fun j t e => by simp at e⟩, ?_⟩
  rintro i m H2 ⟨hi, rfl, sm, ts, hl2, ht, hts⟩
  have hq : SqL K H2 la (rs0.map V.ref) := .of (sm _ _ hla)
  by_cases hlt : i < xss.length
  · have hi0 : i < (rs0.map V.ref).length := by rw [List.length_map]; omega
    refine .inr ⟨⟨_, (rs0.map V.ref)[i], hq, List.getElem?_eq_getElem hi0⟩, ?_⟩
    rintro x H3 ⟨rfl, hx⟩
    have hx := hx _ hq
    rw [List.getElem?_map] at hx
    cases er : rs0[i]? with
    | none => rw [er] at hx; cases hx
    | some r =>
      rw [er] at hx
      cases hx
      obtain ⟨xi, hxi, hri, hfr⟩ := paired_get hr0 er
      unfold tYes
      dsimp only
      rw [if_pos rfl]
      refine he xi r _ _ (List.mem_of_getElem? hxi) (s1.trans sm) (sm _ _ hri) fun p hp => ?_
      have pa : acc ≠ p := ne_of_none hl2 hp
      refine ⟨ts.map V.ref, by rw [upd_ne pa]; exact hl2, ?_, xss.length - (i + 1), by omega, hlt, rfl, (sm.new hp).upd hacc, ts ++ [p], ?_, ?_, ?_⟩
      · rw [List.length_map]; omega
      · rw [upd_same, List.map_append]; rfl
      · rw [List.length_append, ht]; rfl
      · intro j t e
        by_cases c : j < ts.length
        · rw [List.getElem?_append_left c] at e
          obtain ⟨s, a, h1, h2, h3⟩ := hts j t e
          refine ⟨s, a, h1, h2, ?_⟩
          rw [upd_ne (ne_of h3 hl2 (by intro z; cases z)), upd_ne (ne_of_none h3 hp)]
          exact h3
        · rw [List.getElem?_append_right (by omega)] at e
          have hj : j = i := by
            have := (List.getElem?_eq_some_iff.mp e).1
            simp at this
            omega
          subst hj
          rw [ht, Nat.sub_self] at e
          cases e
          exact ⟨xi, r, hxi, er, by rw [upd_ne (Ne.symm pa), upd_same]⟩
  · have e : i = xss.length := by omega
    subst e
    refine .inl ⟨⟨_, hq, by rw [List.length_map]; omega⟩, q acc ts H2 (s1.free hacc) (s1.trans sm) hl2 ⟨ht, fun j t e => ?_⟩⟩
    obtain ⟨s, a, h1, h2, h3⟩ := hts j t e
    obtain ⟨s', h1', h4, h5⟩ := paired_get hr0 h2
    rw [h1] at h1'
    cases h1'
    exact ⟨s, a, h1, h3, sm _ _ h4, h5⟩
noncomputable abbrev TL (Pr : Addr → Prop) (H : Hp) (f : List Nat → Nat) (xss : List (List Nat)) (ts : List Addr) : Prop := TLF Pr H (fun s a => [.ref a, .int ((f s : Nat) : Int)]) xss ts
noncomputable def pk (a b : Nat) : List Key := [Sum.inl (a : Int), Sum.inl (b : Int)]
structure PKs (kvs : List (List Key × V)) : Prop where
  nd : (kvs.map (·.1)).Nodup
  ok : ∀ kv ∈ kvs, ∃ a b : Nat, a < 32 ∧ b < 32 ∧ kv = (pk a b, V.int ((Nim.nim 4 a b : Nat) : Int))
theorem pk_inj {a b c d : Nat} (h : pk a b = pk c d) : a = c ∧ b = d := by
  unfold pk at h
  injection h with h1 h2
  injection h2 with h2 _
  have h1 : (a : Int) = c := Sum.inl.inj h1
  have h2 : (b : Int) = d := Sum.inl.inj h2
  omega
theorem PKs.nil : PKs [] := ⟨by simp, fun kv h => by simp at h⟩
theorem PKs.len {kvs : List (List Key × V)} (h : PKs kvs) : kvs.length ≤ 1024 := by
  have key : ∀ kv ∈ kvs, ∃ n : Nat, n < 1024 ∧ kv.1 = pk (n / 32) (n % 32) := fun kv hk => by
    obtain ⟨a, b, ha, hb, rfl⟩ := h.ok kv hk
    exact ⟨a * 32 + b, by omega, by rw [show (a * 32 + b) / 32 = a by omega, show (a * 32 + b) % 32 = b by omega]⟩
  have sub : ∀ k ∈ kvs.map (·.1), k ∈ (List.range 1024).map fun n => pk (n / 32) (n % 32) := fun k hk => by
    obtain ⟨kv, hkv, rfl⟩ := List.mem_map.mp hk
    obtain ⟨n, hn, e⟩ := key kv hkv
    exact List.mem_map.mpr ⟨n, List.mem_range.mpr hn, e.symm⟩
  have := List.Nodup.length_le_of_subset h.nd sub
  simpa using this
theorem PKs.get {kvs : List (List Key × V)} (h : PKs kvs) {a b : Nat} {v : V} (e : valV kvs (pk a b) = some v) : v = V.int ((Nim.nim 4 a b : Nat) : Int) := by
  unfold valV at e
  obtain ⟨kv, hf, rfl⟩ := Option.map_eq_some_iff.mp e
  obtain ⟨c, d, _, _, rfl⟩ := h.ok kv (List.mem_of_find?_eq_some hf)
  have z := List.find?_some hf
  have z : pk c d = pk a b := by simpa using z
  obtain ⟨rfl, rfl⟩ := pk_inj z
  rfl
theorem PKs.put {kvs : List (List Key × V)} (h : PKs kvs) {a b : Nat} (ha : a < 32) (hb : b < 32) (e : valV kvs (pk a b) = none) : PKs (putK kvs (pk a b) (V.int ((Nim.nim 4 a b : Nat) : Int))) := by
  rw [putK_new _ e]
  refine ⟨?_, fun kv hk => ?_⟩
  · rw [List.map_append, List.nodup_append]
    refine ⟨h.nd, by simp, fun x hx y hy z => ?_⟩
    have : y = pk a b := by simpa using hy
    subst this
    subst z
    exact valV_not e hx
  · rcases List.mem_append.mp hk with q | q
    · exact h.ok kv q
    · exact ⟨a, b, ha, hb, by simpa using q⟩
noncomputable def spKept : Sp := fun vs H Q _ => ∃ (d : Addr) (a b : Nat) (kvs : List (List Key × V)), vs = [.ref d, .int (a : Int), .int (b : Int)] ∧ a < 32 ∧ b < 32 ∧ H d = some (.dT kvs) ∧ PKs kvs ∧
  ∀ H' kvs', Kp d H H' → H' d = some (.dT kvs') → PKs kvs' → Q (.int ((Nim.nim 4 a b : Nat) : Int)) H'
noncomputable def spSums (K : PySem.W.Frag) : Sp := fun vs H Q _ => ∃ (pr : Addr) (r : Row.Rule) (n : Nat), vs = [.ref pr, .int (n : Int)] ∧ SqT K H pr (ruleV r) ∧ Row.Good r ∧ n < 40 ∧
  ∀ H' p ts, Same H H' → H p = none → H' p = some (.lst (ts.map V.ref)) → TL (fun a => H a = none) H' (Row.xs (Row.num r)) (Row.shapes r n) ts → Q (.ref p) H'
noncomputable def pairsOf (xss yss : List (List Nat)) : List (List Nat × List Nat) := xss.flatMap fun s => yss.map fun u => (s, u)
noncomputable def spFirstAdd : Sp := fun vs H Q _ => ∃ (g : Nat) (px py d : Addr) (PA PB : Addr → Prop) (f f' : List Nat → Nat) (xss yss : List (List Nat)) (ts us : List Addr) (kvs : List (List Key × V)), vs = [.int (g : Int), .ref px, .ref py, .ref d] ∧
  H px = some (.lst (ts.map V.ref)) ∧ H py = some (.lst (us.map V.ref)) ∧ TL PA H f xss ts ∧ TL PB H f' yss us ∧ (∀ s ∈ xss, f s < 32) ∧ (∀ s ∈ yss, f' s < 32) ∧ H d = some (.dT kvs) ∧ PKs kvs ∧
  ((pairsOf xss yss).find? (fun t => Nim.nim 4 (f t.1) (f' t.2) == g) = none → ∀ H' kvs', Kp d H H' → H' d = some (.dT kvs') → PKs kvs' → Q .non H') ∧
  (∀ t, (pairsOf xss yss).find? (fun t => Nim.nim 4 (f t.1) (f' t.2) == g) = some t → ∀ H' kvs' p a b, Kp d H H' → H' d = some (.dT kvs') → PKs kvs' → H p = none → H' p = some (.tup [.ref a, .ref b]) →
    H a = some (.lst (nl t.1)) → PA a → H b = some (.lst (nl t.2)) → PB b → Q (.ref p) H')
section
variable {K : PySem.W.Frag} {d : Addr} {G H : Hp} {kvs : List (List Key × V)} {p : Addr} {xs : List V}
theorem Kp.lstT (h : Kp d G H) (hd : G d = some (.dT kvs)) (e : G p = some (.lst xs)) : H p = some (.lst xs) := h _ _ (fun z => by rw [z, hd] at e; cases e) e
theorem Kp.tupT (h : Kp d G H) (hd : G d = some (.dT kvs)) (e : G p = some (.tup xs)) : H p = some (.tup xs) := h _ _ (fun z => by rw [z, hd] at e; cases e) e
theorem Kp.free {o : HO} (h : Kp d G H) (hd : H d = some o) (e : H p = none) : G p = none := by
  cases c : G p with
  | none => rfl
  | some u =>
    by_cases z : p = d
    · rw [z, hd] at e; cases e
    · rw [h p u z c] at e; cases e
theorem Kp.sameOf {G0 : Hp} (h : Kp d G H) (s : Same G0 G) (n : G0 d = none) : Same G0 H := fun b o e => h b o (fun z => by rw [z, n] at e; cases e) (s _ _ e)
end
theorem lexLe_plt {p q : Nat × Nat} (h : Row.PLt p q) : HT.lexLe [(q.1 : Int), (q.2 : Int)] [(p.1 : Int), (p.2 : Int)] = false := by
  unfold Row.PLt at h
  simp only [HT.lexLe]
  rcases h with h | ⟨h1, h2⟩
  · rw [if_neg (by omega), decide_eq_false (by omega)]
  · rw [if_pos (by omega), if_neg (by omega), decide_eq_false (by omega)]
end L2
set_option Elab.async false
set_option linter.all false
set_option maxRecDepth 100000
set_option maxHeartbeats 4000000
namespace L2
open PySem PySem.Spec PyProof.Rows
noncomputable def pd (p : Nat × Nat) : Dt := .seq true [.int (p.1 : Int), .int (p.2 : Int)]
noncomputable def bd (ps : List (Nat × Nat)) : List Dt := ps.map pd
section
variable {K : PySem.W.Frag} {σ : St} {H : Hp} {ta tb : TE}
end
theorem comp_range_tif {wi : TI} {ix : List Nat} {tc : TT} {te : TE} {σ : St} {H : Hp} {Q : VK} {lo : Int} {n : Nat} (p : Nat → Bool) (f : Nat → List V) (hw : ∀ R : It → Hp → Prop, R (Itr lo n) H → wi σ H R) (hn : n < sizeLine)
    (hc : ∀ (i : Nat) (H' : Hp) (R : Bool → Hp → Prop), i < n → Same H H' → (∀ H'', Same H' H'' → R (p i) H'') → tc (some (.int (lo + i)) :: slots σ ix) H' R)
    (he : ∀ (i : Nat) (H' : Hp) (R : VK), i < n → p i = true → Same H H' → (∀ q, H' q = none → R (.ref q) (upd H' q (.tup (f i)))) → te (some (.int (lo + i)) :: slots σ ix) H' R)
    (q : ∀ acc rs H2, H acc = none → Same H H2 → H2 acc = some (.lst (rs.map V.ref)) → Paired (fun i r => H2 r = some (.tup (f i))) ((List.range n).filter p) rs → Q (.ref acc) H2) : tComp wi ix tc te σ H Q := by
  refine hw _ fun acc hacc => ⟨fun i m H2 => i ≤ n ∧ m = n - i ∧ Same H H2 ∧ ∃ rs, H2 acc = some (.lst (rs.map V.ref)) ∧ Paired (fun i r => H2 r = some (.tup (f i))) ((List.range i).filter p) rs, ⟨n, Nat.zero_le _, by simp, (Same.refl H).new hacc, [], upd_same, .nil⟩, ?_⟩
  rintro i m H2 ⟨hi, rfl, sm, rs, hl2, hr2⟩
  by_cases hlt : i < n
  · refine .inr ⟨hlt, ?_⟩
    rintro x H3 ⟨rfl, rfl⟩
    refine hc i _ _ hlt sm fun H4 s4 => ?_
    have e : (List.range (i + 1)).filter p = (List.range i).filter p ++ if p i = true then [i] else [] := by
      rw [List.range_succ, List.filter_append]
      congr 1
      by_cases c : p i = true <;> simp [c]
    have hl : rs.length ≤ i := by
      rw [← Paired.length hr2]
      refine Nat.le_trans (List.length_filter_le _ _) ?_
      rw [List.length_range]
      exact Nat.le_refl _
    by_cases c : p i = true
    · rw [c, if_pos rfl]
      refine he i _ _ hlt c (sm.trans s4) fun z hz => ?_
      have hl4 := s4 _ _ hl2
      have pa : acc ≠ z := ne_of_none hl4 hz
      refine ⟨rs.map V.ref, by rw [upd_ne pa]; exact hl4, by rw [List.length_map]; omega, n - (i + 1), by omega, hlt, rfl, ((sm.trans s4).new hz).upd hacc, rs ++ [z], by rw [upd_same, List.map_append]; rfl, ?_⟩
      rw [e, if_pos c]
      refine paired_app (Paired.mapP hr2 fun j r hj => ?_) (.cons ?_ .nil)
      · have h4 := s4 _ _ hj
        rw [upd_ne (ne_of h4 hl4 (by intro z; cases z)), upd_ne (ne_of_none h4 hz)]
        exact h4
      · rw [upd_ne (Ne.symm pa), upd_same]
    · rw [if_neg c]
      refine ⟨n - (i + 1), by omega, hlt, rfl, sm.trans s4, rs, s4 _ _ hl2, ?_⟩
      rw [e, if_neg c, List.append_nil]
      exact Paired.mapP hr2 fun j r hj => s4 _ _ hj
  · have e : i = n := by omega
    subst e
    exact .inl ⟨Nat.le_refl _, q acc rs H2 hacc sm hl2 hr2⟩
noncomputable def PL (H : Hp) (ps : List (Nat × Nat)) (rs : List Addr) : Prop := Paired (fun (p : Nat × Nat) r => H r = some (.tup [.int (p.1 : Int), .int (p.2 : Int)])) ps rs
theorem PL.bl {K : PySem.W.Frag} {H : Hp} {ps : List (Nat × Nat)} {rs : List Addr} (h : PL H ps rs) : BL K H ps rs := Paired.mapP h fun _ _ q => .inl (.inl q)
theorem PL.same {H H' : Hp} {ps : List (Nat × Nat)} {rs : List Addr} (h : PL H ps rs) (s : Same H H') : PL H' ps rs := Paired.mapP h fun _ _ q => s _ _ q
theorem PL.length {H : Hp} {ps : List (Nat × Nat)} {rs : List Addr} (h : PL H ps rs) : ps.length = rs.length := Paired.length h
theorem PL.upd {H : Hp} {ps : List (Nat × Nat)} {rs : List Addr} {l : Addr} {xs : List V} {o : HO} (h : PL H ps rs) (hl : H l = some (.lst xs)) : PL (L2.upd H l o) ps rs :=
  Paired.mapP h fun _ _ q => by rw [upd_ne (ne_of q hl (by intro z; cases z))]; exact q
noncomputable def bits9 (c : Int) (i : Nat) : List Nat := (List.range i).filter fun k => decide (c / 2 ^ k % 2 = 1)
noncomputable def pl3 (k : Nat) : Nat × Nat := (k / 3, k % 3)
noncomputable def board3 (c : Int) : List (Nat × Nat) := (bits9 c 9).map pl3
noncomputable def spBoard3 : Sp := fun vs H Q _ => ∃ c : Int, vs = [.int c] ∧ ∀ H' p rs, Same H H' → H p = none → H' p = some (.lst (rs.map V.ref)) → PL H' (board3 c) rs → Q (.ref p) H'
noncomputable def WL (H : Hp) (ts : List (List Nat × List Nat)) (rs : List Addr) : Prop := Paired (fun (t : List Nat × List Nat) r => ∃ a b, H r = some (.tup [.ref a, .ref b]) ∧ H a = some (.lst (nl t.1)) ∧ H b = some (.lst (nl t.2))) ts rs
theorem WL.same {H H' : Hp} {ts : List (List Nat × List Nat)} {rs : List Addr} (h : WL H ts rs) (s : Same H H') : WL H' ts rs := Paired.mapP h fun _ _ ⟨a, b, h1, h2, h3⟩ => ⟨a, b, s _ _ h1, s _ _ h2, s _ _ h3⟩
theorem WL.length {H : Hp} {ts : List (List Nat × List Nat)} {rs : List Addr} (h : WL H ts rs) : ts.length = rs.length := Paired.length h
noncomputable def spTurns2 (K : PySem.W.Frag) : Sp := fun vs H Q _ => ∃ (pl px py ph : Addr) (rx ry : Row.Rule) (ps : List (Nat × Nat)) (rs : List Addr), vs = [.ref pl, .ref ph] ∧ SqL K H pl [.ref px, .ref py] ∧ SqT K H px (ruleV rx) ∧ SqT K H py (ruleV ry) ∧ Row.Good rx ∧ Row.Good ry ∧
  SqL K H ph (rs.map V.ref) ∧ BL K H ps rs ∧ (∀ p ∈ ps, p.1 < 3 ∧ p.2 < 3) ∧ ps.length ≤ 9 ∧ ∀ H' p ws, Same H H' → H p = none → H' p = some (.lst (ws.map V.ref)) → WL H' (Row.turns2 rx ry ps) ws → Q (.ref p) H'
noncomputable def spBehind2 (K : PySem.W.Frag) (n : Nat) : Sp := fun vs H Q _ => ∃ (ph pt a b : Addr) (ps : List (Nat × Nat)) (rs : List Addr) (t : List Nat × List Nat), vs = [.ref ph, .ref pt] ∧ SqL K H ph (rs.map V.ref) ∧ BL K H ps rs ∧ SqT K H pt [.ref a, .ref b] ∧ SqL K H a (nl t.1) ∧ SqL K H b (nl t.2) ∧
  ∀ H' p ss, Same H H' → H p = none → H' p = some (.lst (ss.map V.ref)) → PL H' (Row.behind2 n ps t) ss → Q (.ref p) H'
noncomputable def spIsTurn2 : Sp := fun vs H Q _ => ∃ (pt pw a b : Addr) (t : List Nat × List Nat) (ts : List (List Nat × List Nat)) (ws : List Addr), vs = [.ref pt, .ref pw] ∧ H pt = some (.tup [.ref a, .ref b]) ∧ H a = some (.lst (nl t.1)) ∧ H b = some (.lst (nl t.2)) ∧ H pw = some (.lst (ws.map V.ref)) ∧ WL H ts ws ∧ Q (.bl (decide (t ∈ ts))) H
noncomputable def td (t : List Nat × List Nat) : Dt := .seq true [.seq false (nd t.1), .seq false (nd t.2)]
noncomputable def rdP (H : Hp) : V → Nat × Nat
  | .ref a => match H a with
    | some (.tup [.int x, .int y]) => (x.toNat, y.toNat)
    | _ => (0, 0)
  | _ => (0, 0)
noncomputable def wt2At (n k : Nat) (σ : St) (H : Hp) : Nat := match σ[k]? with
  | some (some (.ref a)) => match H a with
    | some (.lst xs) => Row.weight2 n (xs.map (rdP H))
    | _ => 0
  | _ => 0
end L2
namespace Row
end Row
namespace Row
end Row
namespace Row
end Row
namespace L2
noncomputable def tabOf (xs ys : List Nat) : List (List Nat) := xs.map fun x => ys.map fun y => Nim.nim 4 x y
end L2
set_option Elab.async false
set_option linter.all false
set_option maxRecDepth 100000
set_option maxHeartbeats 4000000
namespace L2
open PySem PySem.Spec PyProof.Rows PySem.W
noncomputable def krun (lt : Nat → Nat → Bool) {α : Type} : KasT α → α
  | .ret a => a
  | .ask i j k => krun lt (k (lt i j))
noncomputable def kok (n : Nat) (lt : Nat → Nat → Bool) {α : Type} : KasT α → Bool
  | .ret _ => true
  | .ask i j k => decide (i < n) && decide (j < n) && kok n lt (k (lt i j))
noncomputable def lists (m : Nat) : Nat → List (List Nat)
  | 0 => [[]]
  | n + 1 => (lists m n).flatMap fun l => (List.range m).map fun a => a :: l
noncomputable def nodupB : List Nat → Bool
  | [] => true
  | a :: l => !l.contains a && nodupB l
noncomputable def rlt (r : List Nat) (i j : Nat) : Bool := decide (r.getD i 0 < r.getD j 0)
noncomputable def sortOk (n : Nat) (r : List Nat) : Bool :=
  !nodupB r || (kok n (rlt r) (kas_sort n) && ((krun (rlt r) (kas_sort n)).toList.map (fun i => r.getD i 0) == List.range n) && (krun (rlt r) (kas_sort n)).toList.all fun i => decide (i < n))
noncomputable def rk (ks : List Nat) (k : Nat) : Nat := ks.countP fun x => decide (x < k)
end L2
set_option Elab.async false
set_option linter.all false
set_option maxRecDepth 100000
set_option maxHeartbeats 4000000
namespace L2
open PySem PySem.Spec PyProof.Rows PySem.W
noncomputable def TupAt (h : Heap) (p : Nat × Nat) (v : Value) : Prop := ∃ r o k tx ty, v = .ref r ∧ h.get? r = some o ∧ o.cls = .type "tuple" ∧ o.data = .seq #[.int (p.1 : Int) tx, .int (p.2 : Int) ty] k
noncomputable def SortsTo (ps qs : List (Nat × Nat)) : Prop := qs.Pairwise Row.PLt ∧ ∀ p, p ∈ qs ↔ p ∈ ps
noncomputable def key16 (p : Nat × Nat) : Nat := p.1 * 16 + p.2
section
variable {prog : Program} {w : World} {A : Around} {E : Value → Shared → Prop} {s : Shared}
end
section
variable {X : Cx}
noncomputable def rSortP (K : PySem.W.Frag) : List V → Hp → VK → Prop := fun xs H Q => ∃ (p : Addr) (ps : List (Nat × Nat)) (rs : List Addr), xs = [.ref p] ∧ SqL K H p (rs.map V.ref) ∧ BL K H ps rs ∧ (∀ p ∈ ps, p.2 < 16) ∧ ps.Nodup ∧ ps.length ≤ 5 ∧
  ∀ (l : Addr) (qs : List (Nat × Nat)) (ss : List Addr), H l = none → SortsTo ps qs → Paired (fun (q : Nat × Nat) r => SqT K H r [.int (q.1 : Int), .int (q.2 : Int)] ∧ r ∈ rs) qs ss → Q (.ref l) (upd H l (.lst (ss.map V.ref)))
end
end L2
set_option Elab.async false
set_option linter.all false
set_option maxRecDepth 100000
set_option maxHeartbeats 4000000
namespace L2
open PySem PySem.Spec PyProof.Rows PySem.W
noncomputable def EntAt (h : Heap) (d : Addr) (es : Array DictEntry) (ep : Nat) : Prop := ∃ o, h.get? d = some o ∧ o.ExactDict ∧ o.data = .dict es ep
theorem EntAt.at {h h' : Heap} {d : Addr} {es : Array DictEntry} {ep : Nat} (x : EntAt h d es ep) (k : ∀ o, h.get? d = some o → h'.get? d = some o) : EntAt h' d es ep := let ⟨o, g, r⟩ := x; ⟨o, k o g, r⟩
theorem EntAt.typeIs {s : Shared} {d : Addr} {es : Array DictEntry} {ep : Nat} (x : EntAt s.heap d es ep) : s.TypeIs (.ref d) "dict" := let ⟨o, g, c, _⟩ := x; ⟨o, g, c.1⟩
section
variable {prog : Program} {w : World} {A : Around} {E : Value → Shared → Prop} {s : Shared} {it d : Addr} {es : Array DictEntry} {ep i : Nat}
end
section
variable {prog : Program} {w : World} {A : Around} {E : Value → Shared → Prop} {s : Shared}
end
section
variable {X : Cx}
noncomputable def rSortD : List V → Hp → VK → Prop := fun xs H Q => ∃ (d : Addr) (kvs : List (List Key × V)) (ps : List (Nat × Nat)), xs = [.ref d] ∧ H d = some (.dT kvs) ∧ kvs.map (·.1) = ps.map (fun p => pk p.1 p.2) ∧ (∀ p ∈ ps, p.2 < 16) ∧ ps.Nodup ∧ ps.length ≤ 5 ∧
  ∀ (l : Addr) (qs : List (Nat × Nat)) (ss : List Addr), H l = none → SortsTo ps qs → PL H qs ss → Q (.ref l) (upd H l (.lst (ss.map V.ref)))
end
end L2
set_option Elab.async false
set_option linter.all false
set_option maxRecDepth 100000
set_option maxHeartbeats 4000000
namespace L2
open PySem PySem.Spec PyProof.Rows
structure CalleeD (P : Program) (w : World) (K : PySem.W.Frag) (mg : Str → Option Value) (base : Heap) (x : Str) (st : Stmt) (CX : CXT) (k : Nat) (ps : List Str) (sp : Sp) : Prop where
  ex : ∃ f fd, Fun K x x st f fd ∧ mg x = some (.ref f) ∧ Binds K fd ps [] ∧ FnOk P w K mg base CX k f fd ps sp
section
variable {P : Program} {w : World} {K : PySem.W.Frag} {mg : Str → Option Value} {base : Heap} {x : Str} {st : Stmt} {N ps : List Str} {n k k2 : Nat} {sp sp2 : Sp}
theorem HasDef.okD (D : HasDef K mg x st) (S : FnScope N ps (defScope st))
    (hb : ∀ (kV doc pm : Value) (an : Option Addr) (cdv ct : Value) (us : List Value), us.length = ps.length → bindArgs (PySem.W.fnOf x x (defArgs st) (defBody st) (defScope st) .none kV doc pm an cdv ct) ⟨us, []⟩ = pure (ps.zip us))
    (len : ∀ vs H Q E, sp vs H Q E → vs.length = ps.length)
    (hbody : ∀ (f : Addr) (cdv : Value) (A : Around) (outer : List Env) (s : Shared) (H : Hp) (vs : List V) (Q : VK) (E : XK), Room n (A.deeper (envOfC x (defScope st) s.heap.objs.size f cdv)) → sp vs H Q E →
      ∃ t, PSs (cxOf CX0 P w K mg base N x (defScope st) f cdv A outer s H E).nox (defBody st) t ∧ t { nx := fun _ H' => Q .non H', rt := Q } (start N vs) H) : CalleeD P w K mg base x st CX0 (n + 1) ps sp := by
  obtain ⟨f, fd, F, hm⟩ := D.ex
  exact ⟨f, fd, F, hm, F.binds hb, F.ok S len fun cdv A outer s H vs Q E hr h => hbody f cdv A outer s H vs Q E hr h⟩
theorem HasDef.okXD (D : HasDef K mg x st) (S : FnScope N ps (defScope st))
    (hb : ∀ (kV doc pm : Value) (an : Option Addr) (cdv ct : Value) (us : List Value), us.length = ps.length → bindArgs (PySem.W.fnOf x x (defArgs st) (defBody st) (defScope st) .none kV doc pm an cdv ct) ⟨us, []⟩ = pure (ps.zip us))
    (len : ∀ vs H Q E, sp vs H Q E → vs.length = ps.length)
    (hbody : ∀ (f : Addr) (cdv : Value) (A : Around) (outer : List Env) (s : Shared) (H : Hp) (vs : List V) (Q : VK) (E : XK), Room n (A.deeper (envOfC x (defScope st) s.heap.objs.size f cdv)) → sp vs H Q E →
      ∃ t, PSs (cxOf (CX1 P w) P w K mg base N x (defScope st) f cdv A outer s H E) (defBody st) t ∧ t { nx := fun _ H' => Q .non H', rt := Q } (start N vs) H) : CalleeD P w K mg base x st (CX1 P w) (n + 1) ps sp := by
  obtain ⟨f, fd, F, hm⟩ := D.ex
  refine ⟨f, fd, F, hm, F.binds hb, ?_⟩
  obtain ⟨oc, od, kV, doc, pm, an, cdv, ct, osl, rfl, lk, hcd⟩ := F.ex
  exact fn_of lk hcd S len fun A outer s H vs Q E hr h => hbody f cdv A outer s H vs Q E hr h
theorem CalleeD.c (C : CalleeD P w K mg base x st CX0 k ps sp) : Callee P w K mg base x k ps sp := by
  obtain ⟨f, fd, F, hm, hb, R⟩ := C.ex
  exact ⟨f, fd, hm, F.kp, hb, R⟩
theorem CalleeD.cx (C : CalleeD P w K mg base x st (CX1 P w) k ps sp) : CalleeX P w K mg base x k ps sp := by
  obtain ⟨f, fd, F, hm, hb, R⟩ := C.ex
  exact ⟨f, fd, hm, F.kp, hb, R⟩
theorem CalleeD.both (C : CalleeD P w K mg base x st CX0 k ps sp) (C2 : CalleeD P w K mg base x st (CX1 P w) k2 ps sp2) (hk : k2 ≤ k) : CalleeX P w K mg base x k ps (fun vs H Q E => sp vs H Q E ∨ sp2 vs H Q E) := by
  obtain ⟨f, fd, F, hm, hb, R⟩ := C.ex
  obtain ⟨f2, fd2, F2, hm2, hb2, R2⟩ := C2.ex
  rw [hm] at hm2
  injection hm2 with e
  injection e with e
  subst e
  have ed : fd = fd2 := by
    obtain ⟨_, _, _, _, _, _, _, _, _, _, l1, _⟩ := F.ex
    obtain ⟨_, _, _, _, _, _, _, _, _, _, l2, _⟩ := F2.ex
    rw [l1] at l2
    injection l2 with l2
    injection l2 with _ _ l2 _
    injection l2
  subst ed
  refine ⟨f, fd, hm, F.kp, hb, fun vs H Q E h => h.elim (R.len vs H Q E) (R2.len vs H Q E), fun A outer s H args us vs Q E hr e0 bt r h => ?_⟩
  rcases h with h | h
  · refine codeAny_mono (R.run A outer s H args us vs Q E hr e0 bt r h) fun res s' q => ?_
    cases res with
    | ok fl => cases fl <;> exact q
    | error e => exact False.elim q
  · exact (R2.mono hk).run A outer s H args us vs Q E hr e0 bt r h
end
theorem star_tup {es : List Expr} {x1 : Nat} {p : Pos} {rest : List Expr} {env : Env} : starEach (.Tuple es x1 p :: rest) env = (false, eval (.Tuple es x1 p) env) :: starEach rest env := by rfl
theorem star_const {c j p} {rest : List Expr} {env : Env} : starEach (.Constant c j p :: rest) env = (false, eval (.Constant c j p) env) :: starEach rest env := by rfl
theorem star_bin {a o b p} {rest : List Expr} {env : Env} : starEach (.BinOp a o b p :: rest) env = (false, eval (.BinOp a o b p) env) :: starEach rest env := by rfl
theorem star_name {x p} {rest : List Expr} {env : Env} : starEach (.Name x p :: rest) env = (false, eval (.Name x p) env) :: starEach rest env := by rfl
theorem pa_const {X : Cx} {c j p} {te : TE} {es : List Expr} {t : TA} (ha : PE X (.Constant c j p) te) (hr : PA X es t) : PA X (.Constant c j p :: es) (tCons te t) := pa_cons ha hr star_const
theorem pa_bin {X : Cx} {a o b p} {te : TE} {es : List Expr} {t : TA} (ha : PE X (.BinOp a o b p) te) (hr : PA X es t) : PA X (.BinOp a o b p :: es) (tCons te t) := pa_cons ha hr star_bin
theorem pa_name {X : Cx} {x p} {te : TE} {es : List Expr} {t : TA} (ha : PE X (.Name x p) te) (hr : PA X es t) : PA X (.Name x p :: es) (tCons te t) := pa_cons ha hr star_name
theorem pa_tup {X : Cx} {l x1 p} {te : TE} {es : List Expr} {t : TA} (ha : PE X (.Tuple l x1 p) te) (hr : PA X es t) : PA X (.Tuple l x1 p :: es) (tCons te t) := pa_cons ha hr star_tup
theorem vals_bl : ∀ {xs : List Bool} {us : List Value}, Vals (xs.map V.bl) us → us = xs.map Value.bool
  | [], _, h => by cases h; rfl
  | x :: xs, _, h => by
    cases h with
    | cons r t =>
      cases r
      rw [vals_bl t]
      rfl
noncomputable def rEqB (K : PySem.W.Frag) : R2 := fun x y H Q => ∃ (p p' : Addr) (xs ys : List Bool), x = .ref p ∧ y = .ref p' ∧ SqL K H p (xs.map V.bl) ∧ SqL K H p' (ys.map V.bl) ∧ xs.length = ys.length ∧ ∀ b, (b = true ↔ xs = ys) → Q (.bl b) H
theorem op_eqB {X : Cx} {k : Nat} (hr : Room k X.A) : OpR X (compareOp .Eq) (rEqB X.K) := by
  intro pins s σ H x y u v Q I rx ry h
  obtain ⟨p, p', xs, ys, rfl, rfl, hx, hy, hl, q⟩ := h
  cases rx
  cases ry
  obtain ⟨us, rv, pl, _⟩ := I.list hx
  obtain ⟨us', rv', pl', _⟩ := I.list hy
  have e1 := vals_bl rv
  have e2 := vals_bl rv'
  subst e1
  subst e2
  have hu : X.A.units < cLine := by have := hr.units; omega
  have hz : (xs.map Value.bool).toArray.size = (ys.map Value.bool).toArray.size := by simp [hl]
  have he : ∀ (j : Nat) (h1 : j < (xs.map Value.bool).toArray.size) (h2 : j < (ys.map Value.bool).toArray.size), PySem.SeqAt.EqAt X.A.in1 s (xs.map Value.bool).toArray[j] (ys.map Value.bool).toArray[j] (decide (xs[j]? = ys[j]?)) := by
    intro j h1 h2
    have l1 : j < xs.length := by simpa using h1
    have l2 : j < ys.length := by simpa using h2
    have z := PySem.SeqAt.EqAt.bool_bool (A := X.A.in1) (s := s) xs[j] ys[j]
    have e : (xs[j] == ys[j]) = decide (xs[j]? = ys[j]?) := by
      rw [List.getElem?_eq_getElem l1, List.getElem?_eq_getElem l2, Bool.eq_iff_iff]
      simp
    rw [e] at z
    simpa using z
  have r := PySem.SeqAt.RcAt.lists pl.isList pl'.isList hz hu he
  refine r _ _ _ _ ⟨.bl _, H, I, rfl, q _ ?_⟩
  rw [all_range]
  simp only [decide_eq_true_eq, List.size_toArray, List.length_map]
  constructor
  · intro h
    refine List.ext_getElem? fun j => ?_
    rcases Nat.lt_or_ge j xs.length with l | l
    · exact h j l
    · rw [List.getElem?_eq_none (by omega), List.getElem?_eq_none (by omega)]
  · rintro rfl j _
    rfl
end L2
set_option Elab.async false
set_option linter.all false
set_option maxRecDepth 100000
set_option maxHeartbeats 4000000
namespace H
open PySem L2 Nim
noncomputable def top (i : Nat) : Stmt := PySem.Challenge.pw_coinrows_k18_which_refusal.main.body.getD i (.Pass ⟨0, 0, 0, 0⟩)
theorem bitXor_xI {x y : Int} (hx : 0 ≤ x) (hy : 0 ≤ y) : Builtin.bitXor x y = xI x y := by
  have h := xor_and_add x.toNat x.toNat y.toNat (Nat.le_refl _)
  have e : Builtin.bitAnd x y = ((x.toNat &&& y.toNat : Nat) : Int) := PyProof.Rows.bitAnd_pp hx hy
  have d : Builtin.bitXor x y = x + y - 2 * Builtin.bitAnd x y := by first | exact bitXor_and x y | exact PySem.W.bitXor_and x y | exact PyProof.Rows.bitXor_and x y
  rw [d, e]
  unfold xI
  omega
noncomputable abbrev s_law_cell_at : Stmt := top 50
noncomputable abbrev n_law_cell_at : List Str := ["script", "k"]
noncomputable abbrev p_law_cell_at : List Str := ["script", "k"]
theorem sc_law_cell_at : FnScope n_law_cell_at p_law_cell_at (defScope s_law_cell_at) := ⟨rfl, rfl, rfl, by decide +kernel, rfl, by decide +kernel, by decide +kernel⟩
structure LenOnly (mg : Str → Option Value) : Prop where
  n_len : mg "len" = none
section
variable {P : Program} {w : World} {K : PySem.W.Frag} {mg : Str → Option Value} {base : Heap}
theorem ok_cell (D : HasDef K mg "_law_cell_at" s_law_cell_at) (n_len : mg "len" = none) : Callee P w K mg base "_law_cell_at" 1 p_law_cell_at (spCell K) := by
  refine D.ok sc_law_cell_at (fun _ _ _ _ _ _ us hl => match us, hl with | [_, _], _ => rfl) (fun vs H Q E h => ?_) (fun f cdv A outer s H vs Q E hr h => ?_)
  · obtain ⟨a, ns, k, rfl, _⟩ := h
    rfl
  obtain ⟨a, ns, k, rfl, hS, q⟩ := h
  have T : LenOnly mg := ⟨n_len⟩
  refine ⟨_, (pss_cons (ps_if (pt_cmpR op_lt (pv 1) (pe_callB call_len_seq rfl T.n_len bt_len (pa_cons (pv 0) pa_nil)) (nomark _)) (pss_one (ps_ret (pe_ix ix_list (pv 0) (pv 1) (fun _ _ => rfl)))) pss_nil)
    (pss_one (ps_ret pe_int))), ?_⟩
  rw [show start n_law_cell_at [V.ref a, V.int k] = [some (V.ref a), some (V.int k)] from rfl]
  simp only [tSeq, tIfS, tRet, tRetN, tNext, tOr, tAnd, tNot, tTest, tB, tOp, tUn, tVar, tC, tCall, tCons, tNil, rI0, rI, rU, tGT, tAsg, gName, tDrop, tCB, tAndV, tOrV, tNotV, tIf, tChain, tTup, tLst, tNever, cxK, bkK, noxK, tRaise, tTry, xTry, endsH, tCallH]
  simp
  refine ⟨_, .inl hS, ?_⟩
  rw [List.length_map]
  refine ite2 (fun c => ?_) (fun c => ?_)
  · refine ⟨a, _, _, .int (cell ns k), rfl, rfl, hS, atI_nat ?_, q⟩
    rw [List.getElem?_map, List.getElem?_eq_getElem (by omega)]
    show some (V.int ns[k]) = _
    rw [cell, List.getD_eq_getElem?_getD, List.getElem?_eq_getElem (by omega)]
    rfl
  · have e : cell ns k = 0 := by
      rw [cell, List.getD_eq_getElem?_getD, List.getElem?_eq_none (by omega)]
      rfl
    rw [e] at q
    exact q
end
noncomputable abbrev s_check_rule : Stmt := top 14
noncomputable abbrev n_check_rule : List Str := ["rule"]
noncomputable abbrev p_check_rule : List Str := ["rule"]
theorem sc_check_rule : FnScope n_check_rule p_check_rule (defScope s_check_rule) := ⟨rfl, rfl, rfl, by decide +kernel, rfl, by decide +kernel, by decide +kernel⟩
noncomputable abbrev gk : List (Str × V) := [("most", .int 3), ("just", .int 3), ("run", .int 40)]
noncomputable def spCheckRule (K : PySem.W.Frag) : Sp := fun vs H Q _ => ∃ (pr : Addr) (r : Row.Rule), vs = [.ref pr] ∧ SqT K H pr (ruleV r) ∧ Row.Good r ∧ Q .non H
structure TxRu (K : PySem.W.Frag) (w : World) (mg : Str → Option Value) : Prop where
  GREATEST_K : GDic K w.params mg "GREATEST_K" gk
theorem gk_at {r : Row.Rule} (hg : Row.Good r) : ∃ m : Nat, atS gk (word r.1) = some (.int (m : Int)) ∧ 1 ≤ r.2 ∧ r.2 ≤ m := by
  obtain ⟨t, k⟩ := r
  rcases hg with ⟨h | h, h1, h3⟩ | ⟨h, h1, h3⟩ <;> simp only at h h1 h3 ⊢ <;> subst h
  · exact ⟨3, by decide, h1, h3⟩
  · exact ⟨3, by decide, h1, h3⟩
  · exact ⟨40, by decide, h1, h3⟩
section
variable {P : Program} {w : World} {K : PySem.W.Frag} {mg : Str → Option Value} {base : Heap}
theorem ok_checkRule (D : HasDef K mg "check_rule" s_check_rule) (T : TxRu K w mg) : Callee P w K mg base "check_rule" 1 p_check_rule (spCheckRule K) := by
  refine D.ok sc_check_rule (fun _ _ _ _ _ _ us hl => match us, hl with | [_], _ => rfl) (fun vs H Q E h => ?_) (fun f cdv A outer s H vs Q E hr h => ?_)
  · obtain ⟨pr, r, rfl, _⟩ := h
    rfl
  obtain ⟨pr, r, rfl, hR, hg, q⟩ := h
  obtain ⟨m, hm, h1, h2⟩ := gk_at hg
  refine ⟨_, (pss_cons (ps_if (pt_cmp (pc_knotin T.GREATEST_K (pe_ix ix_tup (pv 0) pe_int (fun _ _ => rfl)))) (pss_one ps_never) pss_nil)
    (pss_one (ps_if (PW.pt (pw_or (pt_cmpR op_lt (pe_ix ix_tup (pv 0) pe_int (fun _ _ => rfl)) pe_int (nomark _)) (pw_or1 (pt_cmpR op_gt (pe_ix ix_tup (pv 0) pe_int (fun _ _ => rfl)) (pe_kget T.GREATEST_K (pe_ix ix_tup (pv 0) pe_int (fun _ _ => rfl)) (fun _ _ => rfl)) (nomark _))))) (pss_one ps_never) pss_nil))), ?_⟩
  rw [show start n_check_rule [V.ref pr] = [some (V.ref pr)] from rfl]
  refine seq_of (ifS_of (ev_tB (ev_kin (ev_rule0 rfl hR))) (fun c => absurd c (by rw [hm]; simp)) (fun _ => next_of ?_))
  dsimp only
  refine ifS_of (ev_or (ev_test (ev_i0 (ev_rule1 rfl hR) ev_c)) (fun _ => ev_test (ev_i0 (ev_rule1 rfl hR) (ev_kget (ev_rule0 rfl hR) hm)))) (fun c => ?_) (fun _ => ?_)
  · rcases Bool.or_eq_true_iff.mp c with c | c <;> have c := of_decide_eq_true c <;> omega
  · exact q
end
noncomputable abbrev s_check_place : Stmt := top 15
noncomputable abbrev n_check_place : List Str := ["place"]
noncomputable abbrev p_check_place : List Str := ["place"]
theorem sc_check_place : FnScope n_check_place p_check_place (defScope s_check_place) := ⟨rfl, rfl, rfl, by decide +kernel, rfl, by decide +kernel, by decide +kernel⟩
noncomputable def spCheckPlace : Sp := fun vs H Q _ => ∃ n : Nat, vs = [.int (n : Int)] ∧ n < 40 ∧ Q .non H
structure TxPlc (mg : Str → Option Value) : Prop where
  GREATEST_PLACE : GInt mg "GREATEST_PLACE" 39
section
variable {P : Program} {w : World} {K : PySem.W.Frag} {mg : Str → Option Value} {base : Heap}
theorem ok_checkPlace (D : HasDef K mg "check_place" s_check_place) (T : TxPlc mg) : Callee P w K mg base "check_place" 1 p_check_place spCheckPlace := by
  refine D.ok sc_check_place (fun _ _ _ _ _ _ us hl => match us, hl with | [_], _ => rfl) (fun vs H Q E h => ?_) (fun f cdv A outer s H vs Q E hr h => ?_)
  · obtain ⟨n, rfl, _⟩ := h
    rfl
  obtain ⟨n, rfl, hn, q⟩ := h
  refine ⟨_, (pss_one (ps_if (PW.pt (pw_or (pt_cmpR op_lt (pv 0) pe_int (nomark _)) (pw_or1 (pt_cmpR op_gt (pv 0) (pe_globI T.GREATEST_PLACE) (nomark _))))) (pss_one ps_never) pss_nil)), ?_⟩
  rw [show start n_check_place [V.int n] = [some (V.int n)] from rfl]
  refine ifS_of (ev_or (ev_test (ev_i0 (ev_var rfl) ev_c)) (fun _ => ev_test (ev_i0 (ev_var rfl) ev_c))) (fun c => ?_) (fun _ => ?_)
  · rcases Bool.or_eq_true_iff.mp c with c | c <;> have c := of_decide_eq_true c <;> omega
  · exact q
end
noncomputable abbrev s_rises : Stmt := top 19
noncomputable abbrev n_rises : List Str := ["places", "greatest", "ahead", "place"]
noncomputable abbrev p_rises : List Str := ["places", "greatest"]
theorem sc_rises : FnScope n_rises p_rises (defScope s_rises) := ⟨rfl, rfl, rfl, by decide +kernel, rfl, by decide +kernel, by decide +kernel⟩
noncomputable abbrev s_check_row : Stmt := top 16
noncomputable abbrev n_check_row : List Str := ["heads"]
noncomputable abbrev p_check_row : List Str := ["heads"]
theorem sc_check_row : FnScope n_check_row p_check_row (defScope s_check_row) := ⟨rfl, rfl, rfl, by decide +kernel, rfl, by decide +kernel, by decide +kernel⟩
noncomputable def Rises (g : Int) (ahead : Int) : List Int → Bool
  | [] => true
  | p :: r => if p ≤ ahead ∨ p > g then false else Rises g p r
theorem rises_take {g ahead : Int} : ∀ {ps : List Int} {i : Nat} {x : Int}, ps[i]? = some x → (∀ k y, k < i → ps[k]? = some y → ¬ (y ≤ (if k = 0 then ahead else ps.getD (k - 1) 0) ∨ y > g)) → (x ≤ (if i = 0 then ahead else ps.getD (i - 1) 0) ∨ x > g) → Rises g ahead ps = false
  | [], i, x, h, _, _ => by simp at h
  | p :: r, 0, x, h, _, c => by
    simp at h
    subst h
    rw [Rises, if_pos (by simpa using c)]
  | p :: r, i + 1, x, h, hk, c => by
    have h0 := hk 0 p (by omega) rfl
    rw [Rises, if_neg (by simpa using h0)]
    refine rises_take (i := i) (x := x) (by simpa using h) (fun k y hk' hy => ?_) ?_
    · have := hk (k + 1) y (by omega) (by simpa using hy)
      cases k with
      | zero => simpa using this
      | succ k => simpa using this
    · cases i with
      | zero => simpa using c
      | succ i => simpa using c
theorem rises_all {g ahead : Int} : ∀ {ps : List Int}, (∀ k y, ps[k]? = some y → ¬ (y ≤ (if k = 0 then ahead else ps.getD (k - 1) 0) ∨ y > g)) → Rises g ahead ps = true
  | [], _ => rfl
  | p :: r, hk => by
    have h0 := hk 0 p rfl
    rw [Rises, if_neg (by simpa using h0)]
    refine rises_all fun k y hy => ?_
    have := hk (k + 1) y (by simpa using hy)
    cases k with
    | zero => simpa using this
    | succ k => simpa using this
theorem rises_row : ∀ {hs : List Nat} {a : Int}, Row.Sorted hs → (∀ p ∈ hs, a < (p : Int) ∧ p < 40) → Rises 39 a (ni hs) = true
  | [], _, _, _ => rfl
  | p :: r, a, h, hl => by
    have hp := hl p List.mem_cons_self
    show Rises 39 a ((p : Int) :: ni r) = true
    rw [Rises, if_neg (by omega)]
    unfold Row.Sorted at h
    rw [List.pairwise_cons] at h
    exact rises_row h.2 fun b hb => ⟨by have := h.1 b hb; omega, (hl b (List.mem_cons_of_mem _ hb)).2⟩
noncomputable def spRises (K : PySem.W.Frag) : Sp := fun vs H Q _ => ∃ (pp : Addr) (ps : List Int) (g : Int), vs = [.ref pp, .int g] ∧ SqL K H pp (ps.map V.int) ∧ Q (.bl (Rises g (-1) ps)) H
noncomputable def spCheckRow (K : PySem.W.Frag) : Sp := fun vs H Q _ => ∃ (ph : Addr) (hs : List Nat), vs = [.ref ph] ∧ SqL K H ph (nl hs) ∧ Row.IsRow hs ∧ Q .non H
section
variable {P : Program} {w : World} {K : PySem.W.Frag} {mg : Str → Option Value} {base : Heap}
theorem ok_rises (D : HasDef K mg "rises" s_rises) : Callee P w K mg base "rises" 1 p_rises (spRises K) := by
  refine D.ok sc_rises (fun _ _ _ _ _ _ us hl => match us, hl with | [_, _], _ => rfl) (fun vs H Q E h => ?_) (fun f cdv A outer s H vs Q E hr h => ?_)
  · obtain ⟨pp, ps, g, rfl, _⟩ := h
    rfl
  obtain ⟨pp, ps, g, rfl, hp, q⟩ := h
  refine ⟨_, (pss_cons (ps_set (i := 2) sc_rises.nd rfl (Or.inl rfl) (pe_un un_neg pe_int))
    (pss_cons (ps_for PassesOwn.never rfl (pi_list (pv 0)) (pg_name (i := 3) sc_rises.nd rfl (Or.inl rfl)) (pss_cons (ps_if (PW.pt (pw_or (pt_cmpR op_le (pv 3) (pv 2) (nomark _)) (pw_or1 (pt_cmpR op_gt (pv 3) (pv 1) (nomark _))))) (pss_one (ps_ret pe_bl)) pss_nil)
    (pss_one (ps_set (i := 2) sc_rises.nd rfl (Or.inl rfl) (pv 3)))))
    (pss_one (ps_ret pe_bl)))), ?_⟩
  rw [show start n_rises [V.ref pp, V.int g] = [some (V.ref pp), some (V.int g), none, none] from rfl]
  refine seq_of (asg_of (ev_u ev_c) ?_)
  dsimp only
  refine seq_of ⟨_, rfl, pp, rfl, ⟨_, hp⟩, ?_⟩
  refine for_list (xs := ps.map V.int) (fun i σ H' => H' = H ∧ (∀ k y, k < i → ps[k]? = some y → ¬ (y ≤ (if k = 0 then -1 else ps.getD (k - 1) 0) ∨ y > g)) ∧ ∃ u, σ = [some (V.ref pp), some (V.int g), some (V.int (if i = 0 then -1 else ps.getD (i - 1) 0)), u]) ⟨rfl, fun k y hk => by omega, none, rfl⟩ ?_ ?_ ?_
  · rintro i σ H' _ ⟨rfl, _⟩
    exact hp
  · rintro i x σ H' hx ⟨rfl, hk, u, rfl⟩
    rw [List.getElem?_map] at hx
    cases e : ps[i]? with
    | none => rw [e] at hx; cases hx
    | some y =>
      rw [e] at hx
      cases hx
      dsimp only [gName]
      refine seq_of (ifS_of (ev_or (ev_test (ev_i0 (ev_var rfl) (ev_var rfl))) (fun _ => ev_test (ev_i0 (ev_var rfl) (ev_var rfl)))) (fun c => ?_) (fun c => next_of ?_))
      · have c : y ≤ (if i = 0 then -1 else ps.getD (i - 1) 0) ∨ y > g := (Bool.or_eq_true_iff.mp c).imp of_decide_eq_true of_decide_eq_true
        refine ret_of ev_c ?_
        rw [rises_take e hk c] at q
        exact q
      · have c' : ¬ (y ≤ (if i = 0 then -1 else ps.getD (i - 1) 0) ∨ y > g) := by
          rw [Bool.or_eq_false_iff] at c
          exact fun z => z.elim (of_decide_eq_false c.1) (of_decide_eq_false c.2)
        refine asg_of (ev_var rfl) ⟨rfl, fun k z hki hz => ?_, some (V.int y), ?_⟩
        · by_cases ck : k = i
          · subst ck
            rw [e] at hz
            cases hz
            exact c'
          · exact hk k z (by omega) hz
        · have e3 : (if i + 1 = 0 then (-1 : Int) else ps.getD (i + 1 - 1) 0) = y := by
            rw [if_neg (Nat.succ_ne_zero i), Nat.add_sub_cancel, List.getD_eq_getElem?_getD, e]
            rfl
          rw [e3]
          rfl
  · rintro σ H' ⟨rfl, hk, u, rfl⟩
    dsimp only
    refine ret_of ev_c ?_
    rw [rises_all fun k y hy => hk k y (by rw [List.length_map]; exact (List.getElem?_eq_some_iff.mp hy).1) hy] at q
    exact q
structure CnRi (P : Program) (w : World) (K : PySem.W.Frag) (mg : Str → Option Value) (base : Heap) : Prop where
  rises : Callee P w K mg base "rises" 1 p_rises (spRises K)
structure TxPlr (mg : Str → Option Value) : Prop where
  GREATEST_PLACE : GInt mg "GREATEST_PLACE" 39
theorem ok_checkRow (D : HasDef K mg "check_row" s_check_row) (T : TxPlr mg) (C : CnRi P w K mg base) : Callee P w K mg base "check_row" 2 p_check_row (spCheckRow K) := by
  refine D.ok sc_check_row (fun _ _ _ _ _ _ us hl => match us, hl with | [_], _ => rfl) (fun vs H Q E h => ?_) (fun f cdv A outer s H vs Q E hr h => ?_)
  · obtain ⟨ph, hs, rfl, _⟩ := h
    rfl
  obtain ⟨ph, hs, rfl, hH, hrow, q⟩ := h
  refine ⟨_, (pss_one (ps_if (pt_not (pt_val (pe_callC C.rises hr (by omega) rfl (pa_cons (pv 0) (pa_cons (pe_globI T.GREATEST_PLACE) pa_nil))))) (pss_one ps_never) pss_nil)), ?_⟩
  rw [show start n_check_row [V.ref ph] = [some (V.ref ph)] from rfl]
  refine ifS_of (ev_not (ev_tB (ev_call (v := .bl true) (ev_cons (ev_var rfl) (ev_cons ev_c ev_nil)) (fun Q q => ⟨ph, ni hs, 39, rfl, by rw [← nl_ni]; exact hH, ?_⟩)))) (fun c => by cases c) (fun _ => ?_)
  · rw [rises_row hrow.sorted fun p hp => ⟨by omega, hrow.lt p hp⟩]
    exact q
  · exact q
end
noncomputable abbrev s_has_odd_ones : Stmt := top 38
noncomputable abbrev n_has_odd_ones : List Str := ["number", "odd"]
noncomputable abbrev p_has_odd_ones : List Str := ["number"]
theorem sc_has_odd_ones : FnScope n_has_odd_ones p_has_odd_ones (defScope s_has_odd_ones) := ⟨rfl, rfl, rfl, by decide +kernel, rfl, by decide +kernel, by decide +kernel⟩
noncomputable abbrev s_run_number : Stmt := top 39
noncomputable abbrev n_run_number : List Str := ["k", "place", "power"]
noncomputable abbrev p_run_number : List Str := ["k", "place"]
theorem sc_run_number : FnScope n_run_number p_run_number (defScope s_run_number) := ⟨rfl, rfl, rfl, by decide +kernel, rfl, by decide +kernel, by decide +kernel⟩
noncomputable abbrev s_most_number : Stmt := top 37
noncomputable abbrev n_most_number : List Str := ["k", "place"]
noncomputable abbrev p_most_number : List Str := ["k", "place"]
theorem sc_most_number : FnScope n_most_number p_most_number (defScope s_most_number) := ⟨rfl, rfl, rfl, by decide +kernel, rfl, by decide +kernel, by decide +kernel⟩
noncomputable abbrev s_place_number : Stmt := top 36
noncomputable abbrev n_place_number : List Str := ["rule", "place", "k"]
noncomputable abbrev p_place_number : List Str := ["rule", "place"]
theorem sc_place_number : FnScope n_place_number p_place_number (defScope s_place_number) := ⟨rfl, rfl, rfl, by decide +kernel, rfl, by decide +kernel, by decide +kernel⟩
noncomputable def spOdd : Sp := fun vs H Q _ => ∃ n : Nat, vs = [.int (n : Int)] ∧ n < 40 ∧ Q (.bl (Row.oddOnes n)) H
noncomputable def spRun : Sp := fun vs H Q _ => ∃ k n : Nat, vs = [.int (k : Int), .int (n : Int)] ∧ 1 ≤ k ∧ k ≤ 40 ∧ n < 40 ∧ Q (.int (Row.runNum k n : Int)) H
noncomputable def spMost : Sp := fun vs H Q _ => ∃ k n : Nat, vs = [.int (k : Int), .int (n : Int)] ∧ 1 ≤ k ∧ k ≤ 3 ∧ n < 40 ∧ Q (.int (Row.mostNum k n : Int)) H
noncomputable def spPlaceN (K : PySem.W.Frag) : Sp := fun vs H Q _ => ∃ (pr : Addr) (r : Row.Rule) (n : Nat), vs = [.ref pr, .int (n : Int)] ∧ SqT K H pr (ruleV r) ∧ Row.Good r ∧ n < 40 ∧ Q (.int (Row.num r n : Int)) H
theorem oddGo0 (f : Nat) : Row.oddOnesGo f 0 = false := by cases f <;> rfl
section
variable {P : Program} {w : World} {K : PySem.W.Frag} {mg : Str → Option Value} {base : Heap}
theorem ok_odd (D : HasDef K mg "has_odd_ones" s_has_odd_ones) : Callee P w K mg base "has_odd_ones" 1 p_has_odd_ones spOdd := by
  refine D.ok sc_has_odd_ones (fun _ _ _ _ _ _ us hl => match us, hl with | [_], _ => rfl) (fun vs H Q E h => ?_) (fun f cdv A outer s H vs Q E hr h => ?_)
  · obtain ⟨n, rfl, _⟩ := h
    rfl
  obtain ⟨n, rfl, hn, q⟩ := h
  refine ⟨_, (pss_cons (ps_set (i := 1) sc_has_odd_ones.nd rfl (Or.inl rfl) pe_bl)
    (pss_cons (ps_while PassesOwn.never (pt_cmpR op_gt (pv 0) pe_int (nomark _)) (pss_cons (ps_if (pt_cmpR op_eq (pe_op op_mod (pv 0) pe_int) pe_int (nomark _)) (pss_one (ps_set (i := 1) sc_has_odd_ones.nd rfl (Or.inl rfl) (pe_not (pv 1)))) pss_nil)
    (pss_one (ps_set (i := 0) sc_has_odd_ones.nd rfl (Or.inl rfl) (pe_op op_fdiv (pv 0) pe_int)))))
    (pss_one (ps_ret (pv 1))))), ?_⟩
  rw [show start n_has_odd_ones [V.int n] = [some (V.int n), none] from rfl]
  refine seq_of (asg_of ev_c ?_)
  dsimp only
  refine seq_of (while_ev (fun σ H' => H' = H ∧ ∃ (m fu : Nat) (b : Bool), σ = [some (V.int (m : Int)), some (V.bl b)] ∧ m < 2 ^ fu ∧ (b != Row.oddOnesGo fu m) = Row.oddOnes n) (fun σ _ => intAt 0 σ)
    ⟨rfl, n, 64, false, rfl, Nat.lt_of_lt_of_le hn (by decide), by simp [Row.oddOnes]⟩ ?_)
  rintro σ H' ⟨rfl, m, fu, b, rfl, hm, hb⟩
  refine ⟨_, ev_test (ev_i0 (ev_var rfl) ev_c), fun c => ?_, fun c => ?_⟩
  · have c : (m : Int) > 0 := of_decide_eq_true c
    obtain ⟨f', rfl⟩ : ∃ f', fu = f' + 1 := by
      cases fu with
      | zero => simp at hm; omega
      | succ f' => exact ⟨f', rfl⟩
    have e : Row.oddOnesGo (f' + 1) m = ((m % 2 == 1) != Row.oddOnesGo f' (m / 2)) := by
      rw [Row.oddOnesGo, if_neg (by omega)]
    rw [e] at hb
    have h2 : m / 2 < 2 ^ f' := by rw [Nat.pow_succ] at hm; omega
    have lt : intAt 0 [some (V.int ((m : Int) / 2)), some (V.bl b)] < intAt 0 [some (V.int (m : Int)), some (V.bl b)] := by
      show ((m : Int) / 2).toNat < ((m : Int)).toNat
      omega
    have ed : (m : Int) / 2 = ((m / 2 : Nat) : Int) := by omega
    refine seq_of (ifS_of (ev_test (ev_eqI (ev_i (ev_var rfl) ev_c (by decide)) ev_c)) (fun c2 => ?_) (fun c2 => next_of ?_))
    · have c2 : (m : Int) % 2 = 1 := of_decide_eq_true c2
      have m1 : (m % 2 == 1) = true := by rw [beq_iff_eq]; omega
      rw [m1] at hb
      refine asg_of (ev_notV (ev_var rfl)) ?_
      dsimp only
      refine asg_of (ev_i (ev_var rfl) ev_c (by unfold CDiv; decide)) ⟨⟨rfl, m / 2, f', !b, by rw [ed]; rfl, h2, ?_⟩, lt⟩
      rw [← hb]
      cases b <;> simp
    · have c2 : ¬ (m : Int) % 2 = 1 := of_decide_eq_false c2
      have m1 : (m % 2 == 1) = false := by rw [beq_eq_false_iff_ne]; omega
      rw [m1] at hb
      refine asg_of (ev_i (ev_var rfl) ev_c (by unfold CDiv; decide)) ⟨⟨rfl, m / 2, f', b, by rw [ed]; rfl, h2, ?_⟩, lt⟩
      rw [← hb]
      cases b <;> simp
  · have c : ¬ (m : Int) > 0 := of_decide_eq_false c
    have m0 : m = 0 := by omega
    subst m0
    rw [oddGo0] at hb
    have e : b = Row.oddOnes n := by rw [← hb]; simp
    rw [← e] at q
    exact ret_of (ev_var rfl) q
theorem ok_runNum (D : HasDef K mg "run_number" s_run_number) : Callee P w K mg base "run_number" 1 p_run_number spRun := by
  refine D.ok sc_run_number (fun _ _ _ _ _ _ us hl => match us, hl with | [_, _], _ => rfl) (fun vs H Q E h => ?_) (fun f cdv A outer s H vs Q E hr h => ?_)
  · obtain ⟨k, n, rfl, _⟩ := h
    rfl
  obtain ⟨k, n, rfl, hk1, hk, hn, q⟩ := h
  refine ⟨_, (pss_cons (ps_set (i := 2) sc_run_number.nd rfl (Or.inl rfl) pe_int)
    (pss_cons (ps_while PassesOwn.never (PW.pt (pw_and (pt_cmpR op_le (pe_op op_mul pe_int (pv 2)) (pv 0) (nomark _)) (pw_and1 (pt_cmpR op_eq (pe_op op_mod (pe_op op_add (pv 1) pe_int) (pe_op op_mul pe_int (pv 2))) pe_int (nomark _))))) (pss_one (ps_set (i := 2) sc_run_number.nd rfl (Or.inl rfl) (pe_op op_mul pe_int (pv 2)))))
    (pss_one (ps_ret (pv 2))))), ?_⟩
  rw [show start n_run_number [V.int k, V.int n] = [some (V.int k), some (V.int n), none] from rfl]
  refine seq_of (asg_of ev_c ?_)
  dsimp only
  refine seq_of (while_ev (fun σ H' => H' = H ∧ ∃ p fu : Nat, σ = [some (V.int (k : Int)), some (V.int (n : Int)), some (V.int (p : Int))] ∧ 1 ≤ p ∧ p ≤ k ∧ 64 < p * 2 ^ fu ∧ Row.runGo k n fu p = Row.runNum k n) (fun σ _ => 100 - intAt 2 σ)
    ⟨rfl, 1, 64, rfl, by decide, hk1, by decide, rfl⟩ ?_)
  rintro σ H' ⟨rfl, p, fu, rfl, hp1, hpk, hb, hr'⟩
  have cm : CMul 2 (p : Int) := .inl ⟨by omega, by omega⟩
  refine ⟨_, ev_and (ev_test (ev_i0 (ev_i ev_c (ev_var rfl) cm) (ev_var rfl))) (fun _ => ev_test (ev_eqI (ev_i (ev_i0 (ev_var rfl) ev_c) (ev_i ev_c (ev_var rfl) cm) (by omega)) ev_c)), fun c => ?_, fun c => ?_⟩
  · obtain ⟨c1, c2⟩ := Bool.and_eq_true_iff.mp c
    have c1 : 2 * (p : Int) ≤ k := of_decide_eq_true c1
    have c2 : ((n : Int) + 1) % (2 * (p : Int)) = 0 := of_decide_eq_true c2
    have c3 : (n + 1) % (2 * p) = 0 := by
      have : (((n + 1) % (2 * p) : Nat) : Int) = 0 := by rw [← c2]; simp
      omega
    obtain ⟨f', rfl⟩ : ∃ f', fu = f' + 1 := by
      cases fu with
      | zero => simp at hb; omega
      | succ f' => exact ⟨f', rfl⟩
    rw [Row.runGo, if_pos ⟨by omega, c3⟩] at hr'
    refine asg_of (ev_i ev_c (ev_var rfl) cm) ⟨⟨rfl, 2 * p, f', by rw [show 2 * (p : Int) = ((2 * p : Nat) : Int) by omega]; rfl, by omega, by omega, ?_, hr'⟩, ?_⟩
    · rw [Nat.pow_succ] at hb
      rw [Nat.mul_comm 2 p, Nat.mul_assoc, Nat.mul_comm 2]
      exact hb
    · show 100 - (2 * (p : Int)).toNat < 100 - ((p : Int)).toNat
      omega
  · have e : Row.runGo k n fu p = p := by
      cases fu with
      | zero => rfl
      | succ f' =>
        rw [Row.runGo, if_neg]
        rintro ⟨d1, d2⟩
        have x1 : 2 * (p : Int) ≤ k := by omega
        have x2 : ((n : Int) + 1) % (2 * (p : Int)) = 0 := by
          have : (((n + 1) % (2 * p) : Nat) : Int) = 0 := by rw [d2]; rfl
          rw [← this]; simp
        rw [decide_eq_true x1, decide_eq_true x2] at c
        cases c
    rw [e] at hr'
    refine ret_of (ev_var rfl) ?_
    rw [hr']
    exact q
structure CnMo (P : Program) (w : World) (K : PySem.W.Frag) (mg : Str → Option Value) (base : Heap) : Prop where
  has_odd_ones : Callee P w K mg base "has_odd_ones" 1 p_has_odd_ones spOdd
theorem ok_mostNum (D : HasDef K mg "most_number" s_most_number) (C : CnMo P w K mg base) : Callee P w K mg base "most_number" 2 p_most_number spMost := by
  refine D.ok sc_most_number (fun _ _ _ _ _ _ us hl => match us, hl with | [_, _], _ => rfl) (fun vs H Q E h => ?_) (fun f cdv A outer s H vs Q E hr h => ?_)
  · obtain ⟨k, n, rfl, _⟩ := h
    rfl
  obtain ⟨k, n, rfl, hk1, hk, hn, q⟩ := h
  refine ⟨_, (pss_cons (ps_if (pt_cmpR op_eq (pv 0) pe_int (nomark _)) (pss_one (ps_ret pe_int)) pss_nil)
    (pss_cons (ps_if (pt_cmpR op_eq (pv 0) pe_int (nomark _)) (pss_one (ps_ret (pe_op op_add (pv 1) pe_int))) pss_nil)
    (pss_cons (ps_if (pt_val (pe_callC C.has_odd_ones hr (by omega) rfl (pa_cons (pv 1) pa_nil))) (pss_one (ps_ret (pe_op op_mul pe_int (pv 1)))) pss_nil)
    (pss_one (ps_ret (pe_op op_add (pe_op op_mul pe_int (pv 1)) pe_int)))))), ?_⟩
  rw [show start n_most_number [V.int k, V.int n] = [some (V.int k), some (V.int n)] from rfl]
  have cm : CMul 2 (n : Int) := .inl ⟨by omega, by omega⟩
  refine seq_of (ifS_of (ev_test (ev_eqI (ev_var rfl) ev_c)) (fun c => ret_of ev_c ?_) (fun c1 => next_of ?_))
  · have c : (k : Int) = 1 := of_decide_eq_true c
    have : Row.mostNum k n = 1 := by unfold Row.mostNum; rw [if_pos (by omega)]
    rw [this] at q
    exact q
  have c1 : ¬ (k : Int) = 1 := of_decide_eq_false c1
  dsimp only
  refine seq_of (ifS_of (ev_test (ev_eqI (ev_var rfl) ev_c)) (fun c => ret_of (ev_i0 (ev_var rfl) ev_c) ?_) (fun c2 => next_of ?_))
  · have c : (k : Int) = 2 := of_decide_eq_true c
    have : Row.mostNum k n = n + 1 := by unfold Row.mostNum; rw [if_neg (by omega), if_pos (by omega)]
    rw [this] at q
    exact q
  have c2 : ¬ (k : Int) = 2 := of_decide_eq_false c2
  have e : Row.mostNum k n = if Row.oddOnes n then 2 * n else 2 * n + 1 := by unfold Row.mostNum; rw [if_neg (by omega), if_neg (by omega)]
  rw [e] at q
  dsimp only
  refine seq_of (ifS_of (ev_tB (ev_call (v := .bl (Row.oddOnes n)) (ev_cons (ev_var rfl) ev_nil) (fun Q q => ⟨n, rfl, hn, q⟩))) (fun c => ?_) (fun c => next_of ?_))
  · rw [if_pos c] at q
    exact ret_of (ev_i ev_c (ev_var rfl) cm) q
  · rw [if_neg (by rw [c]; decide)] at q
    dsimp only
    exact ret_of (ev_i0 (ev_i ev_c (ev_var rfl) cm) ev_c) q
structure CnPn (P : Program) (w : World) (K : PySem.W.Frag) (mg : Str → Option Value) (base : Heap) : Prop where
  run_number : Callee P w K mg base "run_number" 1 p_run_number spRun
  most_number : Callee P w K mg base "most_number" 2 p_most_number spMost
theorem ok_placeNum (D : HasDef K mg "place_number" s_place_number) (C : CnPn P w K mg base) : Callee P w K mg base "place_number" 3 p_place_number (spPlaceN K) := by
  refine D.ok sc_place_number (fun _ _ _ _ _ _ us hl => match us, hl with | [_, _], _ => rfl) (fun vs H Q E h => ?_) (fun f cdv A outer s H vs Q E hr h => ?_)
  · obtain ⟨pr, r, n, rfl, _⟩ := h
    rfl
  obtain ⟨pr, r, n, rfl, hR, hg, hn, q⟩ := h
  rw [Row.num_cl hg hn] at q
  have k40 : 1 ≤ r.2 ∧ r.2 ≤ 40 := by rcases hg with ⟨_, _, h⟩ | ⟨_, _, h⟩ <;> omega
  have r2 : r.1 ≤ 2 := by rcases hg with ⟨h, _⟩ | ⟨h, _⟩ <;> omega
  refine ⟨_, (pss_cons (ps_set (i := 2) sc_place_number.nd rfl (Or.inl rfl) (pe_ix ix_tup (pv 0) pe_int (fun _ _ => rfl)))
    (pss_cons (ps_if (pt_cmpR op_eq (pe_ix ix_tup (pv 0) pe_int (fun _ _ => rfl)) pe_str (nomark _)) (pss_one (ps_ret (pe_callC C.run_number hr (by omega) rfl (pa_cons (pv 2) (pa_cons (pv 1) pa_nil))))) pss_nil)
    (pss_cons (ps_if (pt_cmpR op_eq (pe_ix ix_tup (pv 0) pe_int (fun _ _ => rfl)) pe_str (nomark _)) (pss_one (ps_ret (pe_callC C.most_number hr (by omega) rfl (pa_cons (pv 2) (pa_cons (pv 1) pa_nil))))) pss_nil)
    (pss_cons (ps_if (pt_cmpR op_lt (pv 1) (pe_op op_sub (pv 2) pe_int) (nomark _)) (pss_one (ps_ret pe_int)) pss_nil)
    (pss_one (ps_ret (pe_callC C.most_number hr (by omega) rfl (pa_cons (pv 2) (pa_cons (pe_op op_sub (pv 1) (pe_op op_sub (pv 2) pe_int)) pa_nil))))))))), ?_⟩
  rw [show start n_place_number [V.ref pr, V.int n] = [some (V.ref pr), some (V.int n), none] from rfl]
  refine seq_of (asg_of (ev_rule1 rfl hR) ?_)
  dsimp only
  refine seq_of (ifS_of (ev_test (ev_isRun rfl hR r2)) (fun c => ?_) (fun c1 => next_of ?_))
  · have c := of_decide_eq_true c
    have e : Row.clNum r n = Row.runNum r.2 n := by unfold Row.clNum; rw [if_pos c]
    rw [e] at q
    exact ret_of (ev_call (v := .int (Row.runNum r.2 n : Int)) (ev_cons (ev_var rfl) (ev_cons (ev_var rfl) ev_nil)) (fun Q q => ⟨r.2, n, rfl, k40.1, k40.2, hn, q⟩)) q
  have c1 := of_decide_eq_false c1
  have k3 : r.2 ≤ 3 := by rcases hg with ⟨_, _, h⟩ | ⟨h, _⟩ <;> omega
  dsimp only
  refine seq_of (ifS_of (ev_test (ev_isMost rfl hR r2)) (fun c => ?_) (fun c2 => next_of ?_))
  · have c := of_decide_eq_true c
    have e : Row.clNum r n = Row.mostNum r.2 n := by unfold Row.clNum; rw [if_neg c1, if_pos c]
    rw [e] at q
    exact ret_of (ev_call (v := .int (Row.mostNum r.2 n : Int)) (ev_cons (ev_var rfl) (ev_cons (ev_var rfl) ev_nil)) (fun Q q => ⟨r.2, n, rfl, k40.1, k3, hn, q⟩)) q
  have c2 := of_decide_eq_false c2
  have e : Row.clNum r n = if n < r.2 - 1 then 0 else Row.mostNum r.2 (n - (r.2 - 1)) := by unfold Row.clNum; rw [if_neg c1, if_neg c2]
  rw [e] at q
  dsimp only
  refine seq_of (ifS_of (ev_test (ev_i0 (ev_var rfl) (ev_i0 (ev_var rfl) ev_c))) (fun c => ?_) (fun c3 => next_of ?_))
  · have c : (n : Int) < (r.2 : Int) - 1 := of_decide_eq_true c
    rw [if_pos (by omega)] at q
    exact ret_of ev_c q
  have c3 : ¬ (n : Int) < (r.2 : Int) - 1 := of_decide_eq_false c3
  rw [if_neg (by omega)] at q
  dsimp only
  exact ret_of (ev_call (v := .int (Row.mostNum r.2 (n - (r.2 - 1)) : Int)) (ev_cons (ev_var rfl) (ev_cons (ev_i0 (ev_var rfl) (ev_i0 (ev_var rfl) ev_c)) ev_nil)) (fun Q q => ⟨r.2, n - (r.2 - 1), by
    rw [show (n : Int) - ((r.2 : Int) - 1) = ((n - (r.2 - 1) : Nat) : Int) by omega]; rfl, k40.1, k3, by omega, q⟩)) q
end
noncomputable abbrev s_number_of : Stmt := top 30
noncomputable abbrev n_number_of : List Str := ["rule", "place"]
noncomputable abbrev p_number_of : List Str := ["rule", "place"]
theorem sc_number_of : FnScope n_number_of p_number_of (defScope s_number_of) := ⟨rfl, rfl, rfl, by decide +kernel, rfl, by decide +kernel, by decide +kernel⟩
section
variable {P : Program} {w : World} {K : PySem.W.Frag} {mg : Str → Option Value} {base : Heap}
structure CnNo (P : Program) (w : World) (K : PySem.W.Frag) (mg : Str → Option Value) (base : Heap) : Prop where
  check_rule : Callee P w K mg base "check_rule" 1 p_check_rule (spCheckRule K)
  check_place : Callee P w K mg base "check_place" 1 p_check_place spCheckPlace
  place_number : Callee P w K mg base "place_number" 3 p_place_number (spPlaceN K)
theorem ok_numberOf (D : HasDef K mg "number_of" s_number_of) (C : CnNo P w K mg base) : CalleeD P w K mg base "number_of" s_number_of CX0 5 p_number_of (spNumberOf K) := by
  refine D.okD sc_number_of (fun _ _ _ _ _ _ us hl => match us, hl with | [_, _], _ => rfl) (fun vs H Q E h => ?_) (fun f cdv A outer s H vs Q E hr h => ?_)
  · obtain ⟨pr, r, n, rfl, _⟩ := h
    rfl
  obtain ⟨pr, r, n, rfl, hR, hg, hn, q⟩ := h
  refine ⟨_, (pss_cons (ps_expr (pe_callC C.check_rule hr (by omega) rfl (pa_cons (pv 0) pa_nil)))
    (pss_cons (ps_expr (pe_callC C.check_place hr (by omega) rfl (pa_cons (pv 1) pa_nil)))
    (pss_one (ps_ret (pe_callC C.place_number hr (by omega) rfl (pa_cons (pv 0) (pa_cons (pv 1) pa_nil))))))), ?_⟩
  rw [show start n_number_of [V.ref pr, V.int n] = [some (V.ref pr), some (V.int n)] from rfl]
  exact ⟨_, rfl, pr, r, rfl, hR, hg, _, rfl, n, rfl, hn, _, rfl, _, rfl, pr, r, n, rfl, hR, hg, hn, q _ (Same.refl H)⟩
end
noncomputable abbrev s_check_number : Stmt := top 13
noncomputable abbrev n_check_number : List Str := ["number"]
noncomputable abbrev p_check_number : List Str := ["number"]
theorem sc_check_number : FnScope n_check_number p_check_number (defScope s_check_number) := ⟨rfl, rfl, rfl, by decide +kernel, rfl, by decide +kernel, by decide +kernel⟩
noncomputable def spCheck : Sp := fun vs H Q _ => ∃ a : Int, vs = [.int a] ∧ 0 ≤ a ∧ a < 65536 ∧ Q .non H
structure TxN (mg : Str → Option Value) : Prop where
  GREATEST_NUMBER : GInt mg "GREATEST_NUMBER" 65535
section
variable {P : Program} {w : World} {K : PySem.W.Frag} {mg : Str → Option Value} {base : Heap}
theorem ok_check (D : HasDef K mg "check_number" s_check_number) (T : TxN mg) : Callee P w K mg base "check_number" 1 p_check_number spCheck := by
  refine D.ok sc_check_number (fun _ _ _ _ _ _ us hl => match us, hl with | [_], _ => rfl) (fun vs H Q E h => ?_) (fun f cdv A outer s H vs Q E hr h => ?_)
  · obtain ⟨a, rfl, _⟩ := h
    rfl
  obtain ⟨a, rfl, h0, h1, q⟩ := h
  refine ⟨_, (pss_one (ps_if (PW.pt (pw_or (pt_cmpR op_lt (pv 0) pe_int (nomark _)) (pw_or1 (pt_cmpR op_gt (pv 0) (pe_globI T.GREATEST_NUMBER) (nomark _))))) (pss_one ps_never) pss_nil)), ?_⟩
  rw [show start n_check_number [V.int a] = [some (V.int a)] from rfl]
  simp only [tSeq, tIfS, tRet, tRetN, tNext, tOr, tAnd, tNot, tTest, tB, tOp, tUn, tVar, tC, tCall, tCons, tNil, rI0, rI, rU, tGT, tAsg, gName, tDrop, tCB, tAndV, tOrV, tNotV, tIf, tChain, tTup, tLst, tNever, cxK, bkK, noxK, tRaise, tTry, xTry, endsH, tCallH]
  simp
  exact ⟨h0, by omega, q⟩
end
noncomputable def Dom (a b d : Int) : Prop := 0 ≤ a ∧ 0 ≤ b ∧ ((d = 0 ∧ a < 2 ∧ b < 2) ∨ (d = 1 ∧ a < 4 ∧ b < 4) ∨ (d = 2 ∧ a < 16 ∧ b < 16) ∨ (d = 3 ∧ a < 256 ∧ b < 256) ∨ (d = 4 ∧ a < 65536 ∧ b < 65536))
noncomputable def spProd (n : Nat) : Sp := fun vs H Q _ => ∃ a b d : Int, vs = [.int a, .int b, .int d] ∧ Dom a b d ∧ d < n ∧ Q (.int (pI a b d)) H
structure TxP (K : PySem.W.Frag) (mg : Str → Option Value) : Prop where
  n_len : mg "len" = none
  BASES : GTup K mg "BASES" [.int 2, .int 4, .int 16, .int 256]
noncomputable abbrev s_product : Stmt := top 25
noncomputable abbrev n_product : List Str := ["one", "two", "depth", "base", "high_one", "low_one", "high_two", "low_two", "highs", "lows", "whole", "with_base", "with_half"]
noncomputable abbrev p_product : List Str := ["one", "two", "depth"]
theorem sc_product : FnScope n_product p_product (defScope s_product) := ⟨rfl, rfl, rfl, by decide +kernel, rfl, by decide +kernel, by decide +kernel⟩
section
variable {P : Program} {w : World} {K : PySem.W.Frag} {mg : Str → Option Value} {base : Heap}
structure CProd (P : Program) (w : World) (K : PySem.W.Frag) (mg : Str → Option Value) (base : Heap) (k n : Nat) : Prop where
  product : Callee P w K mg base "product" k p_product (spProd n)
theorem ok_product {k : Nat} (D : HasDef K mg "product" s_product) (T : TxP K mg) (C : CProd P w K mg base k k) : Callee P w K mg base "product" (k + 1) p_product (spProd (k + 1)) := by
  refine D.ok sc_product (fun _ _ _ _ _ _ us hl => match us, hl with | [_, _, _], _ => rfl) (fun vs H Q E h => ?_) (fun f cdv A outer s H vs Q E hr h => ?_)
  · obtain ⟨a, b, d, rfl, _⟩ := h
    rfl
  obtain ⟨a, b, d, rfl, hD, hn, q⟩ := h
  refine ⟨_, (pss_cons (ps_if (PW.pt (pw_or (pt_cmpR op_lt (pv 0) pe_int (nomark _)) (pw_or1 (pt_cmpR op_lt (pv 1) pe_int (nomark _))))) (pss_one (ps_ret (pe_op op_mul (pv 0) (pv 1)))) pss_nil)
    (pss_cons (ps_set (i := 3) sc_product.nd rfl (Or.inl rfl) (pe_ix ix_tup (pe_globT T.BASES) (pe_op op_sub (pv 2) pe_int) (fun _ _ => rfl)))
    (pss_cons (ps_set (i := 4) sc_product.nd rfl (Or.inl rfl) (pe_op op_fdiv (pv 0) (pv 3)))
    (pss_cons (ps_set (i := 5) sc_product.nd rfl (Or.inl rfl) (pe_op op_mod (pv 0) (pv 3)))
    (pss_cons (ps_set (i := 6) sc_product.nd rfl (Or.inl rfl) (pe_op op_fdiv (pv 1) (pv 3)))
    (pss_cons (ps_set (i := 7) sc_product.nd rfl (Or.inl rfl) (pe_op op_mod (pv 1) (pv 3)))
    (pss_cons (ps_set (i := 8) sc_product.nd rfl (Or.inl rfl) (pe_callC C.product hr (by omega) rfl (pa_cons (pv 4) (pa_cons (pv 6) (pa_cons (pe_op op_sub (pv 2) pe_int) pa_nil)))))
    (pss_cons (ps_set (i := 9) sc_product.nd rfl (Or.inl rfl) (pe_callC C.product hr (by omega) rfl (pa_cons (pv 5) (pa_cons (pv 7) (pa_cons (pe_op op_sub (pv 2) pe_int) pa_nil)))))
    (pss_cons (ps_set (i := 10) sc_product.nd rfl (Or.inl rfl) (pe_callC C.product hr (by omega) rfl (pa_cons (pe_op op_xor (pv 4) (pv 5)) (pa_cons (pe_op op_xor (pv 6) (pv 7)) (pa_cons (pe_op op_sub (pv 2) pe_int) pa_nil)))))
    (pss_cons (ps_set (i := 11) sc_product.nd rfl (Or.inl rfl) (pe_op op_xor (pv 10) (pv 9)))
    (pss_cons (ps_set (i := 12) sc_product.nd rfl (Or.inl rfl) (pe_callC C.product hr (by omega) rfl (pa_cons (pv 8) (pa_cons (pe_op op_fdiv (pv 3) pe_int) (pa_cons (pe_op op_sub (pv 2) pe_int) pa_nil)))))
    (pss_one (ps_ret (pe_op op_xor (pe_op op_xor (pe_op op_mul (pv 11) (pv 3)) (pv 12)) (pv 9))))))))))))))), ?_⟩
  rw [show start n_product [V.int a, V.int b, V.int d] = [some (V.int a), some (V.int b), some (V.int d), none, none, none, none, none, none, none, none, none, none] from rfl]
  simp only [tSeq, tIfS, tRet, tRetN, tNext, tOr, tAnd, tNot, tTest, tB, tOp, tUn, tVar, tC, tCall, tCons, tNil, rI0, rI, rU, tGT, tAsg, gName, tDrop, tCB, tAndV, tOrV, tNotV, tIf, tChain, tTup, tLst, tNever, cxK, bkK, noxK, tRaise, tTry, xTry, endsH, tCallH]
  simp
  have cm : ∀ {x y : Int}, 0 ≤ x → x < 65536 → CMul x y := fun h1 h2 => .inl ⟨by omega, by omega⟩
  obtain ⟨a0, b0, hd⟩ := hD
  have ab : a < 65536 ∧ b < 65536 := by omega
  refine ite2 (fun c => ⟨cm a0 ab.1, ?_⟩) fun c => ite2 (fun c' => ⟨cm a0 ab.1, ?_⟩) fun c' => ?_
  · rw [K4.small a0 b0 hd (.inl c)]; exact q
  · rw [K4.small a0 b0 hd (.inr c')]; exact q
  intro aB hB
  obtain ⟨B, hat, B2, B256, hx, hp, hdm, q1, q2, htn⟩ : ∃ B : Int, atI [V.int 2, V.int 4, V.int 16, V.int 256] (d - 1) = some (.int B) ∧ 2 ≤ B ∧ B ≤ 256 ∧ (∀ x y : Int, x < B → y < B → xI x y < B) ∧ (∀ x y : Int, pI x y (d - 1) < B) ∧ (∀ x y : Int, 0 ≤ x → x < B → 0 ≤ y → y < B → Dom x y (d - 1)) ∧
      (0 ≤ a / B ∧ a / B < B ∧ 0 ≤ a % B ∧ a % B < B) ∧ (0 ≤ b / B ∧ b / B < B ∧ 0 ≤ b % B ∧ b % B < B) ∧
      xI (xI (xI (pI (xI (a / B) (a % B)) (xI (b / B) (b % B)) (d - 1)) (pI (a % B) (b % B) (d - 1)) * B) (pI (pI (a / B) (b / B) (d - 1)) (B / 2) (d - 1))) (pI (a % B) (b % B) (d - 1)) = pI a b d := by
    rcases hd with ⟨rfl, h1, h2⟩ | ⟨rfl, h1, h2⟩ | ⟨rfl, h1, h2⟩ | ⟨rfl, h1, h2⟩ | ⟨rfl, h1, h2⟩
    · exact absurd h1 c
    · exact ⟨2, rfl, by decide, by decide, fun x y h h' => xI_lt 1 h h', fun x y => pI_lt0 x y, fun x y _ _ _ _ => ⟨by omega, by omega, by omega⟩, ⟨by omega, by omega, by omega, by omega⟩, ⟨by omega, by omega, by omega, by omega⟩, turn1 a0 b0 h1 h2⟩
    · exact ⟨4, rfl, by decide, by decide, fun x y h h' => xI_lt 2 h h', fun x y => pI_lt1 x y, fun x y _ _ _ _ => ⟨by omega, by omega, by omega⟩, ⟨by omega, by omega, by omega, by omega⟩, ⟨by omega, by omega, by omega, by omega⟩, turn2 a0 b0 h1 h2⟩
    · exact ⟨16, rfl, by decide, by decide, fun x y h h' => xI_lt 4 h h', fun x y => pI_lt2 x y, fun x y _ _ _ _ => ⟨by omega, by omega, by omega⟩, ⟨by omega, by omega, by omega, by omega⟩, ⟨by omega, by omega, by omega, by omega⟩, turn3 a0 b0 h1 h2⟩
    · exact ⟨256, rfl, by decide, by decide, fun x y h h' => xI_lt 8 h h', fun x y => pI_lt3 x y, fun x y _ _ _ _ => ⟨by omega, by omega, by omega⟩, ⟨by omega, by omega, by omega, by omega⟩, ⟨by omega, by omega, by omega, by omega⟩, turn4 a0 b0 h1 h2⟩
  have hk : d - 1 < (k : Int) := by omega
  clear hd hn
  obtain ⟨a1, a2, a3, a4⟩ := q1
  obtain ⟨b1, b2, b3, b4⟩ := q2
  have cd : CDiv a B ∧ CDiv b B := ⟨⟨by omega, by omega⟩, ⟨by omega, by omega⟩⟩
  refine ⟨aB, _, _, .int B, rfl, rfl, hB H, hat, ?_⟩
  refine ⟨B, rfl, cd.1, B, rfl, by omega, B, rfl, cd.2, B, rfl, by omega, ?_⟩
  refine ⟨_, _, _, rfl, hdm _ _ a1 a2 b1 b2, hk, ?_⟩
  refine ⟨_, _, _, rfl, hdm _ _ a3 a4 b3 b4, hk, ?_⟩
  rw [bitXor_xI a1 a3, bitXor_xI b1 b3]
  refine ⟨_, _, _, rfl, hdm _ _ (xI_nonneg _ _) (hx _ _ a2 a4) (xI_nonneg _ _) (hx _ _ b2 b4), hk, ?_⟩
  have p1 := pI_nonneg (xI (a / B) (a % B)) (xI (b / B) (b % B)) (d - 1)
  have p2 := pI_nonneg (a % B) (b % B) (d - 1)
  have p3 := pI_nonneg (a / B) (b / B) (d - 1)
  refine ⟨_, rfl, _, rfl, B, rfl, ⟨by decide, by decide⟩, ?_⟩
  refine ⟨_, _, _, rfl, hdm _ _ p3 (hp _ _) (by omega) (by omega), hk, ?_⟩
  have n3 := xI_nonneg (pI (xI (a / B) (a % B)) (xI (b / B) (b % B)) (d - 1)) (pI (a % B) (b % B) (d - 1))
  have l3 := hx _ _ (hp (xI (a / B) (a % B)) (xI (b / B) (b % B))) (hp (a % B) (b % B))
  rw [bitXor_xI p1 p2]
  refine ⟨B, rfl, cm n3 (by omega), _, rfl, _, rfl, ?_⟩
  rw [bitXor_xI (x := _ * B) (Int.mul_nonneg n3 (by omega)) (pI_nonneg _ _ _), bitXor_xI (xI_nonneg _ _) p2]
  rw [← htn] at q
  exact q
end
theorem prod0 {P : Program} {w : World} {K : PySem.W.Frag} {mg : Str → Option Value} {base : Heap} (D : HasDef K mg "product" s_product) : Callee P w K mg base "product" 0 p_product (spProd 0) := by
  obtain ⟨f, fd, F, hm⟩ := D.ex
  have no : ∀ vs H Q E, ¬ spProd 0 vs H Q E := fun vs H Q E h => by
    obtain ⟨a, b, d, _, ⟨_, _, h1⟩, h2, _⟩ := h
    omega
  exact ⟨f, fd, hm, F.kp, F.binds fun _ _ _ _ _ _ us hl => match us, hl with | [_, _, _], _ => rfl, ⟨fun vs H Q E h => absurd h (no vs H Q E), fun A outer s H args us vs Q E _ _ _ _ h => absurd h (no vs H Q E)⟩⟩
theorem prodN {P : Program} {w : World} {K : PySem.W.Frag} {mg : Str → Option Value} {base : Heap} (D : HasDef K mg "product" s_product) (T : TxP K mg) : ∀ k, Callee P w K mg base "product" k p_product (spProd k)
  | 0 => prod0 D
  | k + 1 => ok_product D T ⟨prodN D T k⟩
noncomputable abbrev s_times : Stmt := top 24
noncomputable abbrev n_times : List Str := ["one", "two"]
noncomputable abbrev p_times : List Str := ["one", "two"]
theorem sc_times : FnScope n_times p_times (defScope s_times) := ⟨rfl, rfl, rfl, by decide +kernel, rfl, by decide +kernel, by decide +kernel⟩
noncomputable def spTimes : Sp := fun vs H Q _ => ∃ a b : Int, vs = [.int a, .int b] ∧ 0 ≤ a ∧ a < 65536 ∧ 0 ≤ b ∧ b < 65536 ∧ Q (.int (tI a b)) H
structure CsT (P : Program) (w : World) (K : PySem.W.Frag) (mg : Str → Option Value) (base : Heap) : Prop where
  check_number : Callee P w K mg base "check_number" 1 p_check_number spCheck
  product : Callee P w K mg base "product" 5 p_product (spProd 5)
section
variable {P : Program} {w : World} {K : PySem.W.Frag} {mg : Str → Option Value} {base : Heap}
theorem ok_times (D : HasDef K mg "times" s_times) (T : TxP K mg) (C : CsT P w K mg base) : Callee P w K mg base "times" 6 p_times spTimes := by
  refine D.ok sc_times (fun _ _ _ _ _ _ us hl => match us, hl with | [_, _], _ => rfl) (fun vs H Q E h => ?_) (fun f cdv A outer s H vs Q E hr h => ?_)
  · obtain ⟨a, b, rfl, _⟩ := h
    rfl
  obtain ⟨a, b, rfl, a0, a1, b0, b1, q⟩ := h
  refine ⟨_, (pss_cons (ps_expr (pe_callC C.check_number hr (by omega) rfl (pa_cons (pv 0) pa_nil)))
    (pss_cons (ps_expr (pe_callC C.check_number hr (by omega) rfl (pa_cons (pv 1) pa_nil)))
    (pss_one (ps_ret (pe_callC C.product hr (by omega) rfl (pa_cons (pv 0) (pa_cons (pv 1) (pa_cons (pe_callB call_len_seq rfl T.n_len bt_len (pa_cons (pe_globT T.BASES) pa_nil)) pa_nil)))))))), ?_⟩
  rw [show start n_times [V.int a, V.int b] = [some (V.int a), some (V.int b)] from rfl]
  simp only [tSeq, tIfS, tRet, tRetN, tNext, tOr, tAnd, tNot, tTest, tB, tOp, tUn, tVar, tC, tCall, tCons, tNil, rI0, rI, rU, tGT, tAsg, gName, tDrop, tCB, tAndV, tOrV, tNotV, tIf, tChain, tTup, tLst, tNever, cxK, bkK, noxK, tRaise, tTry, xTry, endsH, tCallH]
  simp
  refine ⟨a, rfl, a0, a1, b, rfl, b0, b1, ?_⟩
  intro aB hB
  refine ⟨_, .inr (hB H), ?_⟩
  exact ⟨a, b, 4, rfl, ⟨a0, b0, by omega⟩, by decide, q⟩
end
noncomputable abbrev s_check_board_place : Stmt := top 17
noncomputable abbrev n_check_board_place : List Str := ["x", "y"]
noncomputable abbrev p_check_board_place : List Str := ["x", "y"]
theorem sc_check_board_place : FnScope n_check_board_place p_check_board_place (defScope s_check_board_place) := ⟨rfl, rfl, rfl, by decide +kernel, rfl, by decide +kernel, by decide +kernel⟩
noncomputable abbrev s_board_number : Stmt := top 43
noncomputable abbrev n_board_number : List Str := ["rule_x", "rule_y", "x", "y"]
noncomputable abbrev p_board_number : List Str := ["rule_x", "rule_y", "x", "y"]
theorem sc_board_number : FnScope n_board_number p_board_number (defScope s_board_number) := ⟨rfl, rfl, rfl, by decide +kernel, rfl, by decide +kernel, by decide +kernel⟩
noncomputable def spCheckBP : Sp := fun vs H Q _ => ∃ x y : Nat, vs = [.int (x : Int), .int (y : Int)] ∧ x < 16 ∧ y < 16 ∧ Q .non H
structure TxBp (mg : Str → Option Value) : Prop where
  GREATEST_BOARD_PLACE : GInt mg "GREATEST_BOARD_PLACE" 15
section
variable {P : Program} {w : World} {K : PySem.W.Frag} {mg : Str → Option Value} {base : Heap}
theorem ok_checkBP (D : HasDef K mg "check_board_place" s_check_board_place) (T : TxBp mg) : Callee P w K mg base "check_board_place" 1 p_check_board_place spCheckBP := by
  refine D.ok sc_check_board_place (fun _ _ _ _ _ _ us hl => match us, hl with | [_, _], _ => rfl) (fun vs H Q E h => ?_) (fun f cdv A outer s H vs Q E hr h => ?_)
  · obtain ⟨x, y, rfl, _⟩ := h
    rfl
  obtain ⟨x, y, rfl, hx, hy, q⟩ := h
  refine ⟨_, (pss_one (ps_if (PW.pt (pw_or (pt_cmpR op_lt (pv 0) pe_int (nomark _)) (pw_or (pt_cmpR op_gt (pv 0) (pe_globI T.GREATEST_BOARD_PLACE) (nomark _)) (pw_or (pt_cmpR op_lt (pv 1) pe_int (nomark _)) (pw_or1 (pt_cmpR op_gt (pv 1) (pe_globI T.GREATEST_BOARD_PLACE) (nomark _))))))) (pss_one ps_never) pss_nil)), ?_⟩
  rw [show start n_check_board_place [V.int x, V.int y] = [some (V.int x), some (V.int y)] from rfl]
  refine ifS_of (ev_or (ev_test (ev_i0 (ev_var rfl) ev_c)) (fun _ => ev_or (ev_test (ev_i0 (ev_var rfl) ev_c)) (fun _ => ev_or (ev_test (ev_i0 (ev_var rfl) ev_c)) (fun _ => ev_test (ev_i0 (ev_var rfl) ev_c))))) (fun c => ?_) (fun _ => ?_)
  · simp only [Bool.or_eq_true, decide_eq_true_eq] at c
    omega
  · exact q
structure CnBn (P : Program) (w : World) (K : PySem.W.Frag) (mg : Str → Option Value) (base : Heap) : Prop where
  check_rule : Callee P w K mg base "check_rule" 1 p_check_rule (spCheckRule K)
  check_board_place : Callee P w K mg base "check_board_place" 1 p_check_board_place spCheckBP
  number_of : Callee P w K mg base "number_of" 5 p_number_of (spNumberOf K)
  times : Callee P w K mg base "times" 6 p_times spTimes
theorem ok_boardNumber (D : HasDef K mg "board_number" s_board_number) (C : CnBn P w K mg base) : CalleeD P w K mg base "board_number" s_board_number CX0 7 p_board_number (spBoardNumber K) := by
  refine D.okD sc_board_number (fun _ _ _ _ _ _ us hl => match us, hl with | [_, _, _, _], _ => rfl) (fun vs H Q E h => ?_) (fun f cdv A outer s H vs Q E hr h => ?_)
  · obtain ⟨px, py, rx, ry, x, y, rfl, _⟩ := h
    rfl
  obtain ⟨px, py, rx, ry, x, y, rfl, hRx, hRy, hgx, hgy, hx, hy, q⟩ := h
  refine ⟨_, (pss_cons (ps_expr (pe_callC C.check_rule hr (by omega) rfl (pa_cons (pv 0) pa_nil)))
    (pss_cons (ps_expr (pe_callC C.check_rule hr (by omega) rfl (pa_cons (pv 1) pa_nil)))
    (pss_cons (ps_expr (pe_callC C.check_board_place hr (by omega) rfl (pa_cons (pv 2) (pa_cons (pv 3) pa_nil))))
    (pss_one (ps_ret (pe_callC C.times hr (by omega) rfl (pa_cons (pe_callC C.number_of hr (by omega) rfl (pa_cons (pv 0) (pa_cons (pv 2) pa_nil))) (pa_cons (pe_callC C.number_of hr (by omega) rfl (pa_cons (pv 1) (pa_cons (pv 3) pa_nil))) pa_nil)))))))), ?_⟩
  rw [show start n_board_number [V.ref px, V.ref py, V.int x, V.int y] = [some (V.ref px), some (V.ref py), some (V.int x), some (V.int y)] from rfl]
  refine ⟨_, rfl, px, rx, rfl, hRx, hgx, _, rfl, py, ry, rfl, hRy, hgy, _, rfl, _, rfl, x, y, rfl, hx, hy, ?_⟩
  have nx : Row.num rx x < 65536 := Nat.lt_trans (Row.num_lt hgx (by omega)) (by decide)
  have ny : Row.num ry y < 65536 := Nat.lt_trans (Row.num_lt hgy (by omega)) (by decide)
  refine ⟨_, rfl, _, rfl, px, rx, x, rfl, hRx, hgx, by omega, fun H1 s1 => ⟨_, rfl, _, rfl, py, ry, y, rfl, s1.tup hRy, hgy, by omega, fun H2 s2 => ⟨_, _, rfl, by omega, by omega, by omega, by omega, ?_⟩⟩⟩
  have e : tI ((Row.num rx x : Nat) : Int) ((Row.num ry y : Nat) : Int) = ((Row.num2 rx ry (x, y) : Nat) : Int) := pI_nat (d := 4) (by decide) (by rw [N4]; exact nx) (by rw [N4]; exact ny)
  rw [e]
  exact q _ (s1.trans s2)
end
noncomputable abbrev s_check_board : Stmt := top 18
noncomputable abbrev n_check_board : List Str := ["heads", "ahead", "x", "y"]
noncomputable abbrev p_check_board : List Str := ["heads"]
theorem sc_check_board : FnScope n_check_board p_check_board (defScope s_check_board) := ⟨rfl, rfl, rfl, by decide +kernel, rfl, by decide +kernel, by decide +kernel⟩
noncomputable def spCheckBoard (K : PySem.W.Frag) : Sp := fun vs H Q _ => ∃ (ph : Addr) (ps : List (Nat × Nat)) (rs : List Addr), vs = [.ref ph] ∧ SqL K H ph (rs.map V.ref) ∧ BL K H ps rs ∧ Row.IsBoard ps ∧ ∀ H', Same H H' → Q .non H'
section
variable {P : Program} {w : World} {K : PySem.W.Frag} {mg : Str → Option Value} {base : Heap}
structure CnCb (P : Program) (w : World) (K : PySem.W.Frag) (mg : Str → Option Value) (base : Heap) : Prop where
  check_board_place : Callee P w K mg base "check_board_place" 1 p_check_board_place spCheckBP
theorem ok_checkBoard (D : HasDef K mg "check_board" s_check_board) (C : CnCb P w K mg base) : Callee P w K mg base "check_board" 2 p_check_board (spCheckBoard K) := by
  refine D.ok sc_check_board (fun _ _ _ _ _ _ us hl => match us, hl with | [_], _ => rfl) (fun vs H Q E h => ?_) (fun f cdv A outer s H vs Q E hr h => ?_)
  · obtain ⟨ph, ps, rs, rfl, _⟩ := h
    rfl
  obtain ⟨ph, ps, rs, rfl, hH, hB, hb, q⟩ := h
  refine ⟨_, (pss_cons (ps_set (i := 1) sc_check_board.nd rfl (Or.inl rfl) (pe_tup (pa_cons (pe_un un_neg pe_int) (pa_cons (pe_un un_neg pe_int) pa_nil))))
    (pss_one (ps_for PassesOwn.never rfl (pi_list (pv 0)) (pg_tup rfl (pgs_cons (pg_name (i := 2) sc_check_board.nd rfl (Or.inl rfl)) (pgs_cons (pg_name (i := 3) sc_check_board.nd rfl (Or.inl rfl)) pgs_nil))) (pss_cons (ps_expr (pe_callC C.check_board_place hr (by omega) rfl (pa_cons (pv 2) (pa_cons (pv 3) pa_nil))))
    (pss_cons (ps_if (pt_cmpR (op_leT (Nat.lt_of_succ_lt (hu_of hr))) (pe_tup (pa_cons (pv 2) (pa_cons (pv 3) pa_nil))) (pv 1) (nomark _)) (pss_one ps_never) pss_nil)
    (pss_one (ps_set (i := 1) sc_check_board.nd rfl (Or.inl rfl) (pe_tup (pa_cons (pv 2) (pa_cons (pv 3) pa_nil)))))))))), ?_⟩
  rw [show start n_check_board [V.ref ph] = [some (V.ref ph), none, none, none] from rfl]
  have two : ∀ a b : V, ([a, b] : List V).length ≤ sizeLine := fun a b => by show 2 ≤ sizeLine; decide
  refine seq_of (asgO_of (tup_of (ev_cons (ev_u ev_c) (ev_cons (ev_u ev_c) ev_nil)) (two _ _) fun t0 ht0 => ?_))
  dsimp only
  refine ⟨_, rfl, ph, rfl, ⟨_, (same_new ht0 _).seq hH⟩, ?_⟩
  refine for_list (xs := rs.map V.ref) (fun i σ H' => Same H H' ∧ ∃ (t : Addr) (a b : Int) (u v : Option V), SqT K H' t [.int a, .int b] ∧ (∀ p : Nat × Nat, ps[i]? = some p → HT.lexLe [(p.1 : Int), (p.2 : Int)] [a, b] = false) ∧ σ = [some (V.ref ph), some (V.ref t), u, v])
    ⟨same_new ht0 _, t0, -1, -1, none, none, .inl (.inl upd_same), fun p _ => ?_, rfl⟩ ?_ ?_ ?_
  · simp only [HT.lexLe]
    rw [if_neg (by omega), decide_eq_false (by omega)]
  · rintro i σ H' _ ⟨sm, _⟩
    exact sm.seq hH
  · rintro i x σ H' hx ⟨sm, t, a, b, u, v, hs, hnx, rfl⟩
    obtain ⟨p, r, hp, hr', rfl, hF⟩ := at_refs2 (hB.same sm) hx
    have lp := hb.lt p (List.mem_of_getElem? hp)
    refine ⟨r, _, rfl, hF, rfl, _, _, rfl, _, _, rfl, rfl, ?_⟩
    dsimp only [gName]
    refine seq_of ⟨_, rfl, _, rfl, p.1, p.2, rfl, lp.1, lp.2, ?_⟩
    dsimp only
    refine seq_of (ifO_of (opO_of (tup_of (ev_cons (ev_var rfl) (ev_cons (ev_var rfl) ev_nil)) (two _ _) fun t1 ht1 => ⟨_, rfl, t1, t, [(p.1 : Int), (p.2 : Int)], [a, b], rfl, rfl, .inl (.inl upd_same), (same_new ht1 _).tup hs, _, rfl, ?_⟩)))
    rw [hnx p hp, if_neg (by decide)]
    refine next_of (asgO_of (tup_of (ev_cons (ev_var rfl) (ev_cons (ev_var rfl) ev_nil)) (two _ _) fun t2 ht2 => ?_))
    refine ⟨(sm.new ht1).new ht2, t2, _, _, some (V.int (p.1 : Int)), some (V.int (p.2 : Int)), .inl (.inl upd_same), fun p' hp' => lexLe_plt ?_, rfl⟩
    obtain ⟨h1, e1⟩ := List.getElem?_eq_some_iff.mp hp
    obtain ⟨h2, e2⟩ := List.getElem?_eq_some_iff.mp hp'
    have := List.pairwise_iff_getElem.mp hb.sorted i (i + 1) h1 h2 (by omega)
    rw [e1, e2] at this
    exact this
  · rintro σ H' ⟨sm, _⟩
    exact q _ sm
end
noncomputable abbrev s_summed : Stmt := top 23
noncomputable abbrev n_summed : List Str := ["one", "two"]
noncomputable abbrev p_summed : List Str := ["one", "two"]
theorem sc_summed : FnScope n_summed p_summed (defScope s_summed) := ⟨rfl, rfl, rfl, by decide +kernel, rfl, by decide +kernel, by decide +kernel⟩
noncomputable def spSummedN : Sp := fun vs H Q _ => ∃ a b : Nat, vs = [.int (a : Int), .int (b : Int)] ∧ a < 65536 ∧ b < 65536 ∧ Q (.int ((a ^^^ b : Nat) : Int)) H
section
variable {P : Program} {w : World} {K : PySem.W.Frag} {mg : Str → Option Value} {base : Heap}
structure CnCk (P : Program) (w : World) (K : PySem.W.Frag) (mg : Str → Option Value) (base : Heap) : Prop where
  check_number : Callee P w K mg base "check_number" 1 p_check_number spCheck
theorem ok_summedN (D : HasDef K mg "summed" s_summed) (C : CnCk P w K mg base) : Callee P w K mg base "summed" 2 p_summed spSummedN := by
  refine D.ok sc_summed (fun _ _ _ _ _ _ us hl => match us, hl with | [_, _], _ => rfl) (fun vs H Q E h => ?_) (fun f cdv A outer s H vs Q E hr h => ?_)
  · obtain ⟨a, b, rfl, _⟩ := h
    rfl
  obtain ⟨a, b, rfl, ha, hb, q⟩ := h
  refine ⟨_, (pss_cons (ps_expr (pe_callC C.check_number hr (by omega) rfl (pa_cons (pv 0) pa_nil)))
    (pss_cons (ps_expr (pe_callC C.check_number hr (by omega) rfl (pa_cons (pv 1) pa_nil)))
    (pss_one (ps_ret (pe_op op_xor (pv 0) (pv 1)))))), ?_⟩
  rw [show start n_summed [V.int (a : Int), V.int (b : Int)] = [some (V.int (a : Int)), some (V.int (b : Int))] from rfl]
  refine ⟨_, rfl, a, rfl, by omega, by omega, _, rfl, b, rfl, by omega, by omega, ?_⟩
  exact ret_of (ev_xorN (ev_var rfl) (ev_var rfl)) q
end
noncomputable abbrev s_sum_of_numbers : Stmt := top 35
noncomputable abbrev n_sum_of_numbers : List Str := ["rule", "places", "total", "place"]
noncomputable abbrev p_sum_of_numbers : List Str := ["rule", "places"]
theorem sc_sum_of_numbers : FnScope n_sum_of_numbers p_sum_of_numbers (defScope s_sum_of_numbers) := ⟨rfl, rfl, rfl, by decide +kernel, rfl, by decide +kernel, by decide +kernel⟩
noncomputable def spSumOf (K : PySem.W.Frag) : Sp := fun vs H Q _ => ∃ (pr pp : Addr) (r : Row.Rule) (ps : List Nat), vs = [.ref pr, .ref pp] ∧ SqT K H pr (ruleV r) ∧ Row.Good r ∧ SqL K H pp (nl ps) ∧ (∀ a ∈ ps, a < 40) ∧ Q (.int (Row.xs (Row.num r) ps : Int)) H
section
variable {P : Program} {w : World} {K : PySem.W.Frag} {mg : Str → Option Value} {base : Heap}
structure CnSu (P : Program) (w : World) (K : PySem.W.Frag) (mg : Str → Option Value) (base : Heap) : Prop where
  summed : Callee P w K mg base "summed" 2 p_summed spSummedN
  place_number : Callee P w K mg base "place_number" 3 p_place_number (spPlaceN K)
theorem ok_sumOf (D : HasDef K mg "sum_of_numbers" s_sum_of_numbers) (C : CnSu P w K mg base) : Callee P w K mg base "sum_of_numbers" 4 p_sum_of_numbers (spSumOf K) := by
  refine D.ok sc_sum_of_numbers (fun _ _ _ _ _ _ us hl => match us, hl with | [_, _], _ => rfl) (fun vs H Q E h => ?_) (fun f cdv A outer s H vs Q E hr h => ?_)
  · obtain ⟨pr, pp, r, ps, rfl, _⟩ := h
    rfl
  obtain ⟨pr, pp, r, ps, rfl, hR, hg, hp, hlt, q⟩ := h
  refine ⟨_, (pss_cons (ps_set (i := 2) sc_sum_of_numbers.nd rfl (Or.inl rfl) pe_int)
    (pss_cons (ps_for PassesOwn.never rfl (pi_list (pv 1)) (pg_name (i := 3) sc_sum_of_numbers.nd rfl (Or.inl rfl)) (pss_one (ps_set (i := 2) sc_sum_of_numbers.nd rfl (Or.inl rfl) (pe_callC C.summed hr (by omega) rfl (pa_cons (pv 2) (pa_cons (pe_callC C.place_number hr (by omega) rfl (pa_cons (pv 0) (pa_cons (pv 3) pa_nil))) pa_nil))))))
    (pss_one (ps_ret (pv 2))))), ?_⟩
  rw [show start n_sum_of_numbers [V.ref pr, V.ref pp] = [some (V.ref pr), some (V.ref pp), none, none] from rfl]
  refine seq_of (asg_of ev_c ?_)
  dsimp only
  refine seq_of ⟨_, rfl, pp, rfl, ⟨_, hp⟩, ?_⟩
  have h16 : ∀ l : List Nat, (∀ a ∈ l, a < 40) → Row.xs (Row.num r) l < 65536 := fun l hl => Row.xs_lt (k := 16) fun a ha => Nat.lt_trans (Row.num_lt hg (hl a ha)) (by decide)
  refine for_list (xs := nl ps) (fun i σ H' => H' = H ∧ ∃ u, σ = [some (V.ref pr), some (V.ref pp), some (V.int (Row.xs (Row.num r) (ps.take i) : Int)), u]) ⟨rfl, none, rfl⟩ ?_ ?_ ?_
  · rintro i σ H' _ ⟨rfl, _⟩
    exact hp
  · rintro i x σ H' hx ⟨rfl, u, rfl⟩
    obtain ⟨a, e, rfl⟩ := nl_mem hx
    have ha := hlt a (List.mem_of_getElem? e)
    dsimp only [gName]
    have e2 : ps.take (i + 1) = ps.take i ++ [a] := by
      rw [List.take_add_one, e]
      rfl
    refine asg_of (v := .int ((Row.xs (Row.num r) (ps.take i) ^^^ Row.num r a : Nat) : Int)) (ev_call (ev_cons (ev_var rfl) (ev_cons (ev_call (v := .int (Row.num r a : Int)) (ev_cons (ev_var rfl) (ev_cons (ev_var rfl) ev_nil)) (fun Q q => ⟨pr, r, a, rfl, hR, hg, ha, q⟩)) ev_nil)) (fun Q q => ⟨_, _, rfl, h16 _ fun b hb => hlt b (List.mem_of_mem_take hb), Nat.lt_trans (Row.num_lt hg ha) (by decide), q⟩)) ?_
    refine ⟨rfl, some (V.int (a : Int)), ?_⟩
    rw [e2, Row.xs_append]
    simp [Row.xs]
  · rintro σ H' ⟨rfl, u, rfl⟩
    dsimp only
    refine ret_of (ev_var rfl) ?_
    rw [nl_length, List.take_length]
    exact q
end
noncomputable abbrev s_value : Stmt := top 31
noncomputable abbrev n_value : List Str := ["rule", "heads"]
noncomputable abbrev p_value : List Str := ["rule", "heads"]
theorem sc_value : FnScope n_value p_value (defScope s_value) := ⟨rfl, rfl, rfl, by decide +kernel, rfl, by decide +kernel, by decide +kernel⟩
section
variable {P : Program} {w : World} {K : PySem.W.Frag} {mg : Str → Option Value} {base : Heap}
structure CnVa (P : Program) (w : World) (K : PySem.W.Frag) (mg : Str → Option Value) (base : Heap) : Prop where
  check_rule : Callee P w K mg base "check_rule" 1 p_check_rule (spCheckRule K)
  check_row : Callee P w K mg base "check_row" 2 p_check_row (spCheckRow K)
  sum_of_numbers : Callee P w K mg base "sum_of_numbers" 4 p_sum_of_numbers (spSumOf K)
theorem ok_value (D : HasDef K mg "value" s_value) (C : CnVa P w K mg base) : CalleeD P w K mg base "value" s_value CX0 15 p_value (spValue K) := by
  refine D.okD sc_value (fun _ _ _ _ _ _ us hl => match us, hl with | [_, _], _ => rfl) (fun vs H Q E h => ?_) (fun f cdv A outer s H vs Q E hr h => ?_)
  · obtain ⟨pr, ph, r, hs, rfl, _⟩ := h
    rfl
  obtain ⟨pr, ph, r, hs, rfl, hR, hg, hH, hrow, q⟩ := h
  refine ⟨_, (pss_cons (ps_expr (pe_callC C.check_rule hr (by omega) rfl (pa_cons (pv 0) pa_nil)))
    (pss_cons (ps_expr (pe_callC C.check_row hr (by omega) rfl (pa_cons (pv 1) pa_nil)))
    (pss_one (ps_ret (pe_callC C.sum_of_numbers hr (by omega) rfl (pa_cons (pv 0) (pa_cons (pv 1) pa_nil))))))), ?_⟩
  rw [show start n_value [V.ref pr, V.ref ph] = [some (V.ref pr), some (V.ref ph)] from rfl]
  exact ⟨_, rfl, pr, r, rfl, hR, hg, _, rfl, ph, hs, rfl, hH, hrow, _, rfl, _, rfl, pr, ph, r, hs, rfl, hR, hg, hH, hrow.lt, q _ (Same.refl H)⟩
end
noncomputable abbrev s_choices : Stmt := top 34
noncomputable abbrev n_choices : List Str := ["start", "end", "count", "found", "first"]
noncomputable abbrev p_choices : List Str := ["start", "end", "count"]
theorem sc_choices : FnScope n_choices p_choices (defScope s_choices) := ⟨rfl, rfl, rfl, by decide +kernel, rfl, by decide +kernel, by decide +kernel⟩
noncomputable abbrev s_turns_ending : Stmt := top 33
noncomputable abbrev n_turns_ending : List Str := ["rule", "place", "k", "shortest", "found", "length"]
noncomputable abbrev p_turns_ending : List Str := ["rule", "place"]
theorem sc_turns_ending : FnScope n_turns_ending p_turns_ending (defScope s_turns_ending) := ⟨rfl, rfl, rfl, by decide +kernel, rfl, by decide +kernel, by decide +kernel⟩
noncomputable def spChoices (n : Nat) : Sp := fun vs H Q _ => ∃ s e c : Nat, vs = [.int (s : Int), .int (e : Int), .int (c : Int)] ∧ s ≤ 41 ∧ e ≤ 40 ∧ c < n ∧ c ≤ 2 ∧
  ∀ H' p rs, Same H H' → H p = none → H' p = some (.lst (rs.map V.ref)) → RL H H' (Row.chs e c s) rs → rs.Nodup → Q (.ref p) H'
noncomputable def spEnds (K : PySem.W.Frag) : Sp := fun vs H Q _ => ∃ (pr : Addr) (r : Row.Rule) (n : Nat), vs = [.ref pr, .int (n : Int)] ∧ SqT K H pr (ruleV r) ∧ Row.Good r ∧ n < 40 ∧
  ∀ H' p rs, Same H H' → H p = none → H' p = some (.lst (rs.map V.ref)) → RL H H' (Row.shapes r n) rs → rs.Nodup → Q (.ref p) H'
structure TxEn (mg : Str → Option Value) : Prop where
  n_range : mg "range" = none
  n_list : mg "list" = none
  n_min : mg "min" = none
section
variable {P : Program} {w : World} {K : PySem.W.Frag} {mg : Str → Option Value} {base : Heap}
structure CChs (P : Program) (w : World) (K : PySem.W.Frag) (mg : Str → Option Value) (base : Heap) (k n : Nat) : Prop where
  choices : Callee P w K mg base "choices" k p_choices (spChoices n)
theorem ok_choices {k : Nat} (D : HasDef K mg "choices" s_choices) (T : TxEn mg) (C : CChs P w K mg base k k) : Callee P w K mg base "choices" (k + 1) p_choices (spChoices (k + 1)) := by
  refine D.ok sc_choices (fun _ _ _ _ _ _ us hl => match us, hl with | [_, _, _], _ => rfl) (fun vs H Q E h => ?_) (fun f cdv A outer s H vs Q E hr h => ?_)
  · obtain ⟨s, e, c, rfl, _⟩ := h
    rfl
  obtain ⟨s0, e, c, rfl, hs, he, hc, hc2, q⟩ := h
  refine ⟨_, (pss_cons (ps_if (pt_cmpR op_eq (pv 2) pe_int (nomark _)) (pss_one (ps_ret (pe_lst (pa_cons (pe_lst pa_nil) pa_nil)))) pss_nil)
    (pss_cons (ps_set (i := 3) sc_choices.nd rfl (Or.inl rfl) (pe_lst pa_nil))
    (pss_cons (ps_for PassesOwn.never rfl (pi_range2 rfl T.n_range (pa_cons (pv 0) (pa_cons (pv 1) pa_nil))) (pg_name (i := 4) sc_choices.nd rfl (Or.inr rfl)) (pss_one (ps_expr (pe_bm PySem.F.plainAttrs_list PySem.F.slot_list_extend PySem.F.type_list_extend mt_extend (pv 3) (pa_cons (pe_comp (Block.of (out := defScope s_choices) (N := n_choices) (x := "rest") (frees := ["first"]) (ix := [4]) (by decide +kernel)) rfl (pi_list (pe_callC C.choices hr (by omega) rfl (pa_cons (pe_op op_add (pv 4) pe_int) (pa_cons (pv 1) (pa_cons (pe_op op_sub (pv 2) pe_int) pa_nil))))) (fun _ _ _ _ => pts_nil) (fun _ _ _ _ => (pe_op op_cat (pe_lst (pa_cons (pv 1) pa_nil)) (pv 0)))) pa_nil)))))
    (pss_one (ps_ret (pv 3)))))), ?_⟩
  rw [show start n_choices [V.int s0, V.int e, V.int c] = [some (V.int s0), some (V.int e), some (V.int c), none, none] from rfl]
  have hsz : ∀ {n : Nat}, n ≤ 100000 → n < sizeLine := fun h => Nat.lt_of_le_of_lt h (by decide)
  refine seq_of (ifS_of (ev_test (ev_eqI (ev_var rfl) ev_c)) (fun c0 => ?_) (fun c0 => next_of ?_))
  · have c0 : (c : Int) = 0 := of_decide_eq_true c0
    have c1 : c = 0 := by omega
    subst c1
    refine ⟨by decide, fun p hp => ⟨by show 1 ≤ sizeLine; decide, fun p2 hp2 => ?_⟩⟩
    have pp : p ≠ p2 := ne_of_none upd_same hp2
    refine q _ p2 [p] ((same_new hp _).trans (same_new hp2 _)) ((same_new hp _).free hp2) upd_same (.cons ⟨?_, hp⟩ .nil) (by simp)
    rw [upd_ne pp, upd_same]
    rfl
  have c0 : ¬ (c : Int) = 0 := of_decide_eq_false c0
  obtain ⟨d, rfl⟩ : ∃ d, c = d + 1 := ⟨c - 1, by omega⟩
  refine seq_of ⟨by decide, fun p hp => ?_⟩
  dsimp only [gName]
  refine seq_of (rng2_of (ev_cons (ev_var rfl) (ev_cons (ev_var rfl) ev_nil)) (by omega) (by omega) (by omega) (by omega) ?_)
  have hlen : ∀ i, i ≤ 40 → ((List.range' s0 i).flatMap fun f => (Row.chs e d (f + 1)).map fun rest => f :: rest).length ≤ 64000 := fun i hi => by
    refine Nat.le_trans (Row.flat_len (m := 1600) fun a _ => ?_) ?_
    · rw [List.length_map]
      refine Nat.le_trans (Row.chs_len he d _) ?_
      rcases (by omega : d = 0 ∨ d = 1) with rfl | rfl <;> decide
    · rw [List.length_range']
      omega
  refine for_range (fun i σ H' => ∃ rs u, Same H H' ∧ H' p = some (.lst (rs.map V.ref)) ∧ RL H H' ((List.range' s0 i).flatMap fun f => (Row.chs e d (f + 1)).map fun rest => f :: rest) rs ∧ rs.Nodup ∧
    σ = [some (V.int (s0 : Int)), some (V.int (e : Int)), some (V.int ((d + 1 : Nat) : Int)), some (V.ref p), u]) ⟨[], none, same_new hp _, upd_same, .nil, List.nodup_nil, rfl⟩ ?_ ?_
  · rintro i σ H' hi ⟨rs, u, sm, hl, hr', nd, rfl⟩
    dsimp only [gName]
    refine ⟨_, rfl, .inl ⟨rfl, _, .of hl⟩, ?_⟩
    have li : i < 40 := by omega
    refine comp_rows (K := K) (xss := Row.chs e d (s0 + i + 1)) (fun rest => (s0 + i) :: rest) (fun H1 la rs0 => Same H' H1 ∧ H1 la = some (.lst (rs0.map V.ref)) ∧ RL H' H1 (Row.chs e d (s0 + i + 1)) rs0) (fun R rr => ?_) (fun H1 la rs0 h => h) (hsz ?_) (fun x r H1 R hx s1 hx1 rr => ?_) (fun acc rs' H2 hacc s2 hacc2 hr2 nd2 => ?_)
    · refine iList_of (call_of (ev_cons (ev_i0 (ev_var rfl) ev_c) (ev_cons (ev_var rfl) (ev_cons (ev_i0 (ev_var rfl) ev_c) ev_nil))) ⟨s0 + i + 1, e, d, by simp, by omega, he, by omega, by omega, fun H1 la rs0 s1 hla hla2 hr1 _ => ⟨la, rfl, ⟨_, .of hla2⟩, rr _ _ _ ⟨s1, hla2, hr1⟩⟩⟩)
    · refine Nat.le_trans (Row.chs_len he d _) ?_
      rcases (by omega : d = 0 ∨ d = 1) with rfl | rfl <;> decide
    · refine ⟨_, rfl, by show 1 ≤ sizeLine; decide, fun p1 hp1 => ⟨_, rfl, p1, r, _, _, rfl, rfl, upd_same, by rw [upd_ne (ne_of_none hx1 hp1)]; exact hx1, ?_, fun p2 hp2 => ?_⟩⟩
      · have := Row.chs_mem_len hx
        rw [nl_length, this]
        exact Nat.le_trans (show 1 + d ≤ 10 by omega) (by decide)
      · refine rr p2 _ ((same_new hp1 _).trans (same_new hp2 _)) ((same_new hp1 _).free hp2) ?_
        rw [upd_same]
        unfold nl
        simp
    · have lr := hr'.length
      have lr2 := hr2.length
      have l1 := hlen i (by omega)
      have l2 : ((Row.chs e d (s0 + i + 1)).map fun rest => (s0 + i) :: rest).length ≤ 1600 := by
        rw [List.length_map]
        refine Nat.le_trans (Row.chs_len he d _) ?_
        rcases (by omega : d = 0 ∨ d = 1) with rfl | rfl <;> decide
      refine ⟨p, acc, _, _, rfl, rfl, s2 _ _ hl, hacc2, ?_, rs ++ rs', _, (sm.trans s2).upd hp, by rw [upd_same, List.map_append], ?_, nodup_behind hr' hr2 nd nd2, rfl⟩
      · rw [List.length_map, List.length_map]
        exact Nat.le_of_lt (hsz (by omega))
      · rw [List.range'_1_concat, List.flatMap_append, List.flatMap_singleton]
        have a1 : p ∉ rs := hr'.apart hl
        have a2 : p ∉ rs' := fun hm => by
          obtain ⟨_, _, _, e2⟩ := paired_mem hr2 hm
          rw [hl] at e2
          cases e2
        exact RL.app (RL.set (hr'.same s2) a1) (RL.set (hr2.base sm) a2)
  · rintro σ H' ⟨rs, u, sm, hl, hr', nd, rfl⟩
    dsimp only
    refine ret_of (ev_var rfl) ?_
    rw [show ((e : Int) - (s0 : Int)).toNat = e - s0 by omega] at hr'
    exact q _ p rs sm hp hl hr' nd
theorem chs0 (D : HasDef K mg "choices" s_choices) : Callee P w K mg base "choices" 0 p_choices (spChoices 0) := by
  obtain ⟨f, fd, F, hm⟩ := D.ex
  have no : ∀ vs H Q E, ¬ spChoices 0 vs H Q E := fun vs H Q E h => by
    obtain ⟨a, b, d, _, _, _, h2, _⟩ := h
    omega
  exact ⟨f, fd, hm, F.kp, F.binds fun _ _ _ _ _ _ us hl => match us, hl with | [_, _, _], _ => rfl, ⟨fun vs H Q E h => absurd h (no vs H Q E), fun A outer s H args us vs Q E _ _ _ _ h => absurd h (no vs H Q E)⟩⟩
theorem chsN (D : HasDef K mg "choices" s_choices) (T : TxEn mg) : ∀ k, Callee P w K mg base "choices" k p_choices (spChoices k)
  | 0 => chs0 D
  | k + 1 => ok_choices D T ⟨chsN D T k⟩
structure CnEn (P : Program) (w : World) (K : PySem.W.Frag) (mg : Str → Option Value) (base : Heap) : Prop where
  choices : Callee P w K mg base "choices" 3 p_choices (spChoices 3)
theorem ok_ends (D : HasDef K mg "turns_ending" s_turns_ending) (T : TxEn mg) (C : CnEn P w K mg base) : Callee P w K mg base "turns_ending" 5 p_turns_ending (spEnds K) := by
  refine D.ok sc_turns_ending (fun _ _ _ _ _ _ us hl => match us, hl with | [_, _], _ => rfl) (fun vs H Q E h => ?_) (fun f cdv A outer s H vs Q E hr h => ?_)
  · obtain ⟨pr, r, n, rfl, _⟩ := h
    rfl
  obtain ⟨pr, r, n, rfl, hR, hg, hn, q⟩ := h
  rw [← Row.endsAt_eq hg] at q
  have k40 : 1 ≤ r.2 ∧ r.2 ≤ 40 := by rcases hg with ⟨_, _, h⟩ | ⟨_, _, h⟩ <;> omega
  have r2 : r.1 ≤ 2 := by rcases hg with ⟨h, _⟩ | ⟨h, _⟩ <;> omega
  have hsz : ∀ {n : Nat}, n ≤ 100000 → n < sizeLine := fun h => Nat.lt_of_le_of_lt h (by decide)
  refine ⟨_, (pss_cons (ps_set (i := 2) sc_turns_ending.nd rfl (Or.inl rfl) (pe_ix ix_tup (pv 0) pe_int (fun _ _ => rfl)))
    (pss_cons (ps_if (pt_cmpR op_eq (pe_ix ix_tup (pv 0) pe_int (fun _ _ => rfl)) pe_str (nomark _)) (pss_one (ps_ret (pe_comp (Block.of (out := defScope s_turns_ending) (N := n_turns_ending) (x := "more") (frees := ["place"]) (ix := [1]) (by decide +kernel)) rfl (pi_range1 rfl T.n_range (pa_cons (pe_callB (call_min2 rfl) rfl T.n_min bt_min (pa_cons (pv 2) (pa_cons (pe_op op_add (pv 1) pe_int) pa_nil))) pa_nil)) (fun _ _ _ _ => pts_nil) (fun _ _ _ _ => (pe_callTy (call_list_rng rfl) rfl T.n_list bt_list (pa_cons (pe_callTy call_rng2 rfl T.n_range PyProof.Rows.boot_range (pa_cons (pe_op op_sub (pv 1) (pv 0)) (pa_cons (pe_op op_add (pv 1) pe_int) pa_nil))) pa_nil)))))) pss_nil)
    (pss_cons (ps_set (i := 3) sc_turns_ending.nd rfl (Or.inl rfl) (pe_ifExp (pt_cmpR op_eq (pe_ix ix_tup (pv 0) pe_int (fun _ _ => rfl)) pe_str (nomark _)) (pv 2) pe_int))
    (pss_cons (ps_set (i := 4) sc_turns_ending.nd rfl (Or.inl rfl) (pe_lst pa_nil))
    (pss_cons (ps_for PassesOwn.never rfl (pi_range2 rfl T.n_range (pa_cons (pv 3) (pa_cons (pe_op op_add (pv 2) pe_int) pa_nil))) (pg_name (i := 5) sc_turns_ending.nd rfl (Or.inl rfl)) (pss_one (ps_expr (pe_bm PySem.F.plainAttrs_list PySem.F.slot_list_extend PySem.F.type_list_extend mt_extend (pv 4) (pa_cons (pe_comp (Block.of (out := defScope s_turns_ending) (N := n_turns_ending) (x := "lesser") (frees := ["place"]) (ix := [1]) (by decide +kernel)) rfl (pi_list (pe_callC C.choices hr (by omega) rfl (pa_cons pe_int (pa_cons (pv 1) (pa_cons (pe_op op_sub (pv 5) pe_int) pa_nil))))) (fun _ _ _ _ => pts_nil) (fun _ _ _ _ => (pe_op op_cat (pv 0) (pe_lst (pa_cons (pv 1) pa_nil))))) pa_nil)))))
    (pss_one (ps_ret (pv 4)))))))), ?_⟩
  rw [show start n_turns_ending [V.ref pr, V.int n] = [some (V.ref pr), some (V.int n), none, none, none, none] from rfl]
  refine seq_of (asg_of (ev_rule1 rfl hR) ?_)
  dsimp only
  refine seq_of (ifS_of (ev_test (ev_isRun rfl hR r2)) (fun c => ?_) (fun c1 => next_of ?_))
  · have c := of_decide_eq_true c
    have e : Row.endsAt r n = Row.endRun r.2 n := by unfold Row.endsAt; rw [if_pos c]
    rw [e] at q
    refine retO_of (comp_range_rows (lo := 0) (n := min r.2 (n + 1)) (fun more => List.range' (n - more) (more + 1)) (fun R rr => ?_) (hsz (by omega)) (fun i H' R hi s1 rr => ?_) (fun acc rs H2 ha s2 ha2 hr2 nd => ?_))
    · refine rng1_of (ev_cons (ev_min2 (ev_cons (ev_var rfl) (ev_cons (ev_i0 (ev_var rfl) ev_c) ev_nil))) ev_nil) (by split <;> omega) (by split <;> omega) ?_
      rw [show (if ((n : Int) + 1) < (r.2 : Int) then ((n : Int) + 1) else (r.2 : Int)).toNat = min r.2 (n + 1) by split <;> omega]
      exact rr
    · have hi' : i ≤ n := by omega
      refine cb1_of (cb_of (ev_cons (ev_i0 (ev_var rfl) (ev_var rfl)) (ev_cons (ev_i0 (ev_var rfl) ev_c) ev_nil)) ⟨_, _, rfl, fun p1 hp1 => ?_⟩)
      refine ⟨p1, _, _, rfl, upd_same, by omega, by omega, by omega, by omega, by omega, fun p2 hp2 => ?_⟩
      refine rr p2 _ ((same_new hp1 _).trans (same_new hp2 _)) ((same_new hp1 _).free hp2) ?_
      rw [upd_same, show ((n : Int) + 1 - ((n : Int) - (0 + (i : Int)))).toNat = i + 1 by omega, List.range'_eq_map_range]
      unfold nl
      rw [List.map_map]
      congr 2
      refine List.map_congr_left fun k _ => ?_
      simp only [Function.comp_apply]
      congr 1
      omega
    · exact q _ acc rs s2 ha ha2 hr2 nd
  have c1 := of_decide_eq_false c1
  have k3 : r.2 ≤ 3 := by rcases hg with ⟨_, _, h⟩ | ⟨h, _⟩ <;> omega
  dsimp only
  obtain ⟨lo, hlo, h1, h2⟩ : ∃ lo, (if r.1 = 1 then r.2 else 1) = lo ∧ 1 ≤ lo ∧ lo ≤ r.2 := ⟨_, rfl, by split <;> omega, by split <;> omega⟩
  have e : Row.endsAt r n = Row.endFew lo r.2 n := by unfold Row.endsAt; rw [if_neg c1, hlo]
  rw [e] at q
  refine seq_of (asg_of (v := .int (lo : Int)) (fun Q q => ?_) ?_)
  · refine (ev_test (ev_isJust rfl hR r2)) _ ?_
    by_cases c : r.1 = 1
    · rw [if_pos c] at hlo
      rw [decide_eq_true c, if_pos rfl, ← hlo] at *
      exact ev_var rfl _ q
    · rw [if_neg c] at hlo
      rw [decide_eq_false c, if_neg (by decide)]
      rw [← hlo] at q
      exact q
  dsimp only
  refine seq_of ⟨by decide, fun p hp => ?_⟩
  dsimp only [gName]
  refine seq_of (rng2_of (ev_cons (ev_var rfl) (ev_cons (ev_i0 (ev_var rfl) ev_c) ev_nil)) (by omega) (by omega) (by omega) (by omega) ?_)
  have hlen : ∀ i, lo + i ≤ 4 → ((List.range' lo i).flatMap fun len => (Row.chs n (len - 1) 0).map fun l => l ++ [n]).length ≤ 6000 := fun i hi => by
    refine Nat.le_trans (Row.flat_len (m := 1600) fun a ha => ?_) ?_
    · rw [List.mem_range'_1] at ha
      rw [List.length_map]
      refine Nat.le_trans (Row.chs_len (by omega) _ _) ?_
      rcases (by omega : a - 1 = 0 ∨ a - 1 = 1 ∨ a - 1 = 2) with h | h | h <;> rw [h] <;> decide
    · rw [List.length_range']
      omega
  refine for_range (fun i σ H' => ∃ rs u, Same H H' ∧ H' p = some (.lst (rs.map V.ref)) ∧ RL H H' ((List.range' lo i).flatMap fun len => (Row.chs n (len - 1) 0).map fun l => l ++ [n]) rs ∧ rs.Nodup ∧
    σ = [some (V.ref pr), some (V.int (n : Int)), some (V.int (r.2 : Int)), some (V.int (lo : Int)), some (V.ref p), u]) ⟨[], none, same_new hp _, upd_same, .nil, List.nodup_nil, rfl⟩ ?_ ?_
  · rintro i σ H' hi ⟨rs, u, sm, hl, hr', nd, rfl⟩
    dsimp only [gName]
    refine ⟨_, rfl, .inl ⟨rfl, _, .of hl⟩, ?_⟩
    obtain ⟨d, hd⟩ : ∃ d, lo + i = d + 1 := ⟨lo + i - 1, by omega⟩
    have d2 : d ≤ 2 := by omega
    have cl : (Row.chs n d 0).length ≤ 1600 := by
      refine Nat.le_trans (Row.chs_len (by omega) _ _) ?_
      rcases (by omega : d = 0 ∨ d = 1 ∨ d = 2) with h | h | h <;> rw [h] <;> decide
    refine comp_rows (K := K) (xss := Row.chs n d 0) (fun l => l ++ [n]) (fun H1 la rs0 => Same H' H1 ∧ H1 la = some (.lst (rs0.map V.ref)) ∧ RL H' H1 (Row.chs n d 0) rs0) (fun R rr => ?_) (fun H1 la rs0 h => h) (hsz (by omega)) (fun x r' H1 R hx s1 hx1 rr => ?_) (fun acc rs' H2 hacc s2 hacc2 hr2 nd2 => ?_)
    · exact iList_of (call_of (ev_cons ev_c (ev_cons (ev_var rfl) (ev_cons (ev_i0 (ev_var rfl) ev_c) ev_nil))) ⟨0, n, d, by simp; omega, by omega, by omega, by omega, by omega, fun H1 la rs0 s1 hla hla2 hr1 _ => ⟨la, rfl, ⟨_, .of hla2⟩, rr _ _ _ ⟨s1, hla2, hr1⟩⟩⟩)
    · refine ⟨_, rfl, _, rfl, by show 1 ≤ sizeLine; decide, fun p1 hp1 => ⟨r', p1, _, _, rfl, rfl, by rw [upd_ne (ne_of_none hx1 hp1)]; exact hx1, upd_same, ?_, fun p2 hp2 => ?_⟩⟩
      · have := Row.chs_mem_len hx
        rw [nl_length, this]
        exact Nat.le_trans (show d + 1 ≤ 10 by omega) (by decide)
      · refine rr p2 _ ((same_new hp1 _).trans (same_new hp2 _)) ((same_new hp1 _).free hp2) ?_
        rw [upd_same, nl_append]
        rfl
    · have lr := hr'.length
      have lr2 := hr2.length
      have l1 := hlen i (by omega)
      rw [List.length_map] at lr2
      refine ⟨p, acc, _, _, rfl, rfl, s2 _ _ hl, hacc2, ?_, rs ++ rs', _, (sm.trans s2).upd hp, by rw [upd_same, List.map_append], ?_, nodup_behind hr' hr2 nd nd2, rfl⟩
      · rw [List.length_map, List.length_map]
        exact Nat.le_of_lt (hsz (by omega))
      · rw [List.range'_1_concat, List.flatMap_append, List.flatMap_singleton, show lo + i - 1 = d by omega]
        have a1 : p ∉ rs := hr'.apart hl
        have a2 : p ∉ rs' := fun hm => by
          obtain ⟨_, _, _, e2⟩ := paired_mem hr2 hm
          rw [hl] at e2
          cases e2
        exact RL.app (RL.set (hr'.same s2) a1) (RL.set (hr2.base sm) a2)
  · rintro σ H' ⟨rs, u, sm, hl, hr', nd, rfl⟩
    dsimp only
    refine ret_of (ev_var rfl) ?_
    rw [show ((r.2 : Int) + 1 - (lo : Int)).toNat = r.2 + 1 - lo by omega] at hr'
    exact q _ p rs sm hp hl hr' nd
end
noncomputable abbrev s_turns : Stmt := top 27
noncomputable abbrev n_turns : List Str := ["rule", "heads", "found", "place"]
noncomputable abbrev p_turns : List Str := ["rule", "heads"]
theorem sc_turns : FnScope n_turns p_turns (defScope s_turns) := ⟨rfl, rfl, rfl, by decide +kernel, rfl, by decide +kernel, by decide +kernel⟩
section
variable {P : Program} {w : World} {K : PySem.W.Frag} {mg : Str → Option Value} {base : Heap}
structure CnTu (P : Program) (w : World) (K : PySem.W.Frag) (mg : Str → Option Value) (base : Heap) : Prop where
  check_rule : Callee P w K mg base "check_rule" 1 p_check_rule (spCheckRule K)
  check_row : Callee P w K mg base "check_row" 2 p_check_row (spCheckRow K)
  turns_ending : Callee P w K mg base "turns_ending" 5 p_turns_ending (spEnds K)
theorem ok_turns (D : HasDef K mg "turns" s_turns) (C : CnTu P w K mg base) : CalleeD P w K mg base "turns" s_turns CX0 20 p_turns (spTurns K) := by
  refine D.okD sc_turns (fun _ _ _ _ _ _ us hl => match us, hl with | [_, _], _ => rfl) (fun vs H Q E h => ?_) (fun f cdv A outer s H vs Q E hr h => ?_)
  · obtain ⟨pr, ph, r, hs, rfl, _⟩ := h
    rfl
  obtain ⟨pr, ph, r, hs, rfl, hR, hg, hH, hrow, q⟩ := h
  refine ⟨_, (pss_cons (ps_expr (pe_callC C.check_rule hr (by omega) rfl (pa_cons (pv 0) pa_nil)))
    (pss_cons (ps_expr (pe_callC C.check_row hr (by omega) rfl (pa_cons (pv 1) pa_nil)))
    (pss_cons (ps_set (i := 2) sc_turns.nd rfl (Or.inl rfl) (pe_lst pa_nil))
    (pss_cons (ps_for PassesOwn.never rfl (pi_list (pv 1)) (pg_name (i := 3) sc_turns.nd rfl (Or.inl rfl)) (pss_one (ps_expr (pe_bm PySem.F.plainAttrs_list PySem.F.slot_list_extend PySem.F.type_list_extend mt_extend (pv 2) (pa_cons (pe_callC C.turns_ending hr (by omega) rfl (pa_cons (pv 0) (pa_cons (pv 3) pa_nil))) pa_nil)))))
    (pss_one (ps_ret (pv 2))))))), ?_⟩
  rw [show start n_turns [V.ref pr, V.ref ph] = [some (V.ref pr), some (V.ref ph), none, none] from rfl]
  refine ⟨_, rfl, pr, r, rfl, hR, hg, _, rfl, ph, hs, rfl, hH, hrow, ?_⟩
  refine seq_of ⟨by decide, fun p hp => ?_⟩
  dsimp only [gName]
  have sm0 := same_new hp (.lst [])
  refine seq_of ⟨_, rfl, ph, rfl, ⟨_, sm0.seq hH⟩, ?_⟩
  refine for_list (xs := nl hs) (fun i σ H' => ∃ rs u, Same H H' ∧ H' p = some (.lst (rs.map V.ref)) ∧ RL H H' (Row.turnsOf r (hs.take i)) rs ∧ rs.Nodup ∧ σ = [some (V.ref pr), some (V.ref ph), some (V.ref p), u]) ⟨[], none, sm0, upd_same, .nil, List.nodup_nil, rfl⟩ ?_ ?_ ?_
  · rintro i σ H' _ ⟨rs, u, sm, _⟩
    exact sm.seq hH
  · rintro i x σ H' hx ⟨rs, u, sm, hl, hr', nd, rfl⟩
    obtain ⟨a, e, rfl⟩ := nl_mem hx
    have ha := hrow.lt a (List.mem_of_getElem? e)
    dsimp only [gName]
    refine ⟨_, rfl, .inl ⟨rfl, _, .of hl⟩, _, rfl, _, rfl, pr, r, a, rfl, sm.tup hR, hg, ha, fun H1 p1 rs1 s1 hp1 hl1 hr1 nd1 => ?_⟩
    have l1 := Row.turnsOf_len hg (hrow.take i)
    have l2 := Row.shapes_many hg ha
    have lr := hr'.length
    have lr1 := hr1.length
    have hl2 := s1 _ _ hl
    refine ⟨p, p1, _, _, rfl, rfl, hl2, hl1, ?_, rs ++ rs1, _, (sm.trans s1).upd hp, by rw [upd_same, List.map_append], ?_, nodup_behind hr' hr1 nd nd1, rfl⟩
    · rw [List.length_map, List.length_map]
      exact Nat.le_trans (show rs.length + rs1.length ≤ 3000000 by omega) (by decide)
    · rw [Row.turnsOf_take e]
      have a1 : p ∉ rs := hr'.apart hl
      have a2 : p ∉ rs1 := fun hm => by
        obtain ⟨_, _, _, e2⟩ := paired_mem hr1 hm
        rw [hl] at e2
        cases e2
      exact RL.app (RL.set (hr'.same s1) a1) (RL.set (hr1.base sm) a2)
  · rintro σ H' ⟨rs, u, sm, hl, hr', nd, rfl⟩
    dsimp only
    refine ret_of (ev_var rfl) ?_
    rw [nl_length, List.take_length] at hr'
    exact q _ p rs sm hp hl hr' nd (hr'.apart hl)
end
noncomputable abbrev s_reply : Stmt := top 32
noncomputable abbrev n_reply : List Str := ["rule", "heads", "goal", "place", "turn"]
noncomputable abbrev p_reply : List Str := ["rule", "heads"]
theorem sc_reply : FnScope n_reply p_reply (defScope s_reply) := ⟨rfl, rfl, rfl, by decide +kernel, rfl, by decide +kernel, by decide +kernel⟩
section
variable {P : Program} {w : World} {K : PySem.W.Frag} {mg : Str → Option Value} {base : Heap}
structure CnRe (P : Program) (w : World) (K : PySem.W.Frag) (mg : Str → Option Value) (base : Heap) : Prop where
  value : Callee P w K mg base "value" 15 p_value (spValue K)
  turns_ending : Callee P w K mg base "turns_ending" 5 p_turns_ending (spEnds K)
  sum_of_numbers : Callee P w K mg base "sum_of_numbers" 4 p_sum_of_numbers (spSumOf K)
theorem ok_reply (D : HasDef K mg "reply" s_reply) (C : CnRe P w K mg base) : CalleeD P w K mg base "reply" s_reply CX0 20 p_reply (spReply K) := by
  refine D.okD sc_reply (fun _ _ _ _ _ _ us hl => match us, hl with | [_, _], _ => rfl) (fun vs H Q E h => ?_) (fun f cdv A outer s H vs Q E hr h => ?_)
  · obtain ⟨pr, ph, r, hs, rfl, _⟩ := h
    rfl
  obtain ⟨pr, ph, r, hs, rfl, hR0, hg, hH0, hrow, q0', q1'⟩ := h
  refine ⟨_, (pss_cons (ps_set (i := 2) sc_reply.nd rfl (Or.inl rfl) (pe_callC C.value hr (by omega) rfl (pa_cons (pv 0) (pa_cons (pv 1) pa_nil))))
    (pss_cons (ps_for PassesOwn.never rfl (pi_list (pv 1)) (pg_name (i := 3) sc_reply.nd rfl (Or.inl rfl)) (pss_one (ps_for PassesOwn.never rfl (pi_list (pe_callC C.turns_ending hr (by omega) rfl (pa_cons (pv 0) (pa_cons (pv 3) pa_nil)))) (pg_name (i := 4) sc_reply.nd rfl (Or.inl rfl)) (pss_one (ps_if (pt_cmpR op_eq (pe_callC C.sum_of_numbers hr (by omega) rfl (pa_cons (pv 0) (pa_cons (pv 4) pa_nil))) (pv 2) (nomark _)) (pss_one (ps_ret (pv 4))) pss_nil)))))
    (pss_one (ps_ret pe_non)))), ?_⟩
  rw [show start n_reply [V.ref pr, V.ref ph] = [some (V.ref pr), some (V.ref ph), none, none, none] from rfl]
  refine seq_of ⟨_, rfl, _, rfl, pr, ph, r, hs, rfl, hR0, hg, hH0, hrow, fun H0 s0 => ?_⟩
  dsimp only [gName]
  have hR := s0.tup hR0
  have hH := s0.seq hH0
  have q1 : ∀ t, Row.replyOf r hs = some t → ∀ H' p, Same H0 H' → H0 p = none → H' p = some (.lst (nl t)) → Q (.ref p) H' := fun t ht H' p sm hp hl => by
    refine q1' (fun z => ?_) t ht H' p (s0.trans sm) (s0.free hp) hl
    obtain ⟨hm, hv⟩ := Row.reply_mem ht
    obtain ⟨last, hl2, hsh⟩ := List.mem_flatMap.mp hm
    exact Row.turn_not_zero hsh (hv.trans z)
  have q0 : Row.replyOf r hs = none → ∀ H', Same H0 H' → Q .non H' := fun hn H' sm => by
    by_cases z : Row.xs (Row.num r) hs = 0
    · exact q0' z H' (s0.trans sm)
    · obtain ⟨t, ht⟩ := Row.reply_some z
      rw [hn] at ht
      cases ht
  refine seq_of ⟨_, rfl, ph, rfl, ⟨_, hH⟩, ?_⟩
  refine for_list (xs := nl hs) (fun i σ H' => Same H0 H' ∧ (∀ t ∈ Row.turnsOf r (hs.take i), Row.xs (Row.num r) t ≠ Row.xs (Row.num r) hs) ∧ ∃ u v, σ = [some (V.ref pr), some (V.ref ph), some (V.int (Row.xs (Row.num r) hs : Int)), u, v])
    ⟨Same.refl H0, by simp [Row.turnsOf], none, none, rfl⟩ ?_ ?_ ?_
  · rintro i σ H' _ ⟨sm, _⟩
    exact sm.seq hH
  · rintro i x σ H' hx ⟨sm, hno, u, v, rfl⟩
    obtain ⟨last, e, rfl⟩ := nl_mem hx
    dsimp only [gName]
    have hm := List.mem_of_getElem? e
    have l40 := hrow.lt last hm
    have hi : i < hs.length := (List.getElem?_eq_some_iff.mp e).1
    refine ⟨_, rfl, _, rfl, pr, r, last, rfl, sm.tup hR, hg, l40, fun H2 p2 rs sm2 hp2 hpo hrs _ => ⟨p2, rfl, ⟨_, .of hpo⟩, ?_⟩⟩
    refine for_list (xs := rs.map V.ref) (fun j σ H3 => H3 = H2 ∧ (∀ t ∈ (Row.shapes r last).take j, Row.xs (Row.num r) t ≠ Row.xs (Row.num r) hs) ∧ ∃ v, σ = [some (V.ref pr), some (V.ref ph), some (V.int (Row.xs (Row.num r) hs : Int)), some (V.int (last : Int)), v])
      ⟨rfl, by simp, v, rfl⟩ ?_ ?_ ?_
    · rintro j σ H3 _ ⟨rfl, _⟩
      exact .of hpo
    · rintro j x σ H3 hx ⟨rfl, hno2, v, rfl⟩
      rw [List.getElem?_map] at hx
      cases e2 : rs[j]? with
      | none => rw [e2] at hx; cases hx
      | some rj =>
        rw [e2] at hx
        cases hx
        obtain ⟨sj, hsj, hrj, hn⟩ := paired_get hrs e2
        have hmj := List.mem_of_getElem? hsj
        dsimp only [gName]
        refine ifS_of (ev_test (ev_eqI
          (ev_call (v := .int (Row.xs (Row.num r) sj : Int)) (ev_cons (ev_var rfl) (ev_cons (ev_var rfl) ev_nil)) (fun Q q => ⟨pr, rj, r, sj, rfl, (sm.trans sm2).tup hR, hg, .of hrj, fun a ha => by
            have := Row.shape_le hmj a ha
            omega, q⟩)) (ev_var rfl))) (fun c => ?_) (fun c => next_of ?_)
        · have c : (Row.xs (Row.num r) sj : Int) = (Row.xs (Row.num r) hs : Int) := of_decide_eq_true c
          refine ret_of (ev_var rfl) (q1 sj ?_ _ rj (sm.trans sm2) (sm.free hn) hrj)
          unfold Row.replyOf
          have split : Row.turnsOf r hs = (Row.turnsOf r (hs.take i) ++ (Row.shapes r last).take j) ++ sj :: ((Row.shapes r last).drop (j + 1) ++ Row.turnsOf r (hs.drop (i + 1))) := by
            have a1 : hs = hs.take i ++ last :: hs.drop (i + 1) := by
              have := List.getElem_cons_drop (as := hs) (i := i) hi
              rw [(List.getElem?_eq_some_iff.mp e).2] at this
              rw [this, List.take_append_drop]
            have hj : j < (Row.shapes r last).length := (List.getElem?_eq_some_iff.mp hsj).1
            have a2 : Row.shapes r last = (Row.shapes r last).take j ++ sj :: (Row.shapes r last).drop (j + 1) := by
              have := List.getElem_cons_drop (as := Row.shapes r last) (i := j) hj
              rw [(List.getElem?_eq_some_iff.mp hsj).2] at this
              rw [this, List.take_append_drop]
            have a3 : Row.turnsOf r hs = Row.turnsOf r (hs.take i) ++ (Row.shapes r last ++ Row.turnsOf r (hs.drop (i + 1))) := by
              conv => lhs; rw [a1]
              unfold Row.turnsOf
              rw [List.flatMap_append, List.flatMap_cons]
            rw [a3]
            conv => lhs; rw [a2]
            simp
          rw [split, List.find?_append, List.find?_eq_none.mpr, Option.none_or, List.find?_cons]
          · have : (Row.xs (Row.num r) sj == Row.xs (Row.num r) hs) = true := by rw [beq_iff_eq]; omega
            rw [this]
          · intro t ht
            rw [beq_iff_eq]
            rcases List.mem_append.mp ht with ht | ht
            · exact hno t ht
            · exact hno2 t ht
        · have c : ¬ (Row.xs (Row.num r) sj : Int) = (Row.xs (Row.num r) hs : Int) := of_decide_eq_false c
          refine ⟨rfl, fun t ht => ?_, _, rfl⟩
          rw [List.take_add_one, hsj] at ht
          rcases List.mem_append.mp ht with ht | ht
          · exact hno2 t ht
          · have : t = sj := by simpa using ht
            rw [this]
            omega
    · rintro σ H3 ⟨rfl, hno2, v, rfl⟩
      refine ⟨sm.trans sm2, fun t ht => ?_, _, _, rfl⟩
      rw [Row.turnsOf_take e] at ht
      rcases List.mem_append.mp ht with ht | ht
      · exact hno t ht
      · refine hno2 t ?_
        rw [List.length_map, ← hrs.length, List.take_length]
        exact ht
  · rintro σ H' ⟨sm, hno, u, v, rfl⟩
    dsimp only
    refine ret_of ev_c (q0 ?_ _ sm)
    rw [nl_length, List.take_length] at hno
    unfold Row.replyOf
    rw [List.find?_eq_none]
    intro t ht
    rw [beq_iff_eq]
    exact hno t ht
end
noncomputable abbrev s_board_value : Stmt := top 44
noncomputable abbrev n_board_value : List Str := ["rule_x", "rule_y", "heads", "total", "x", "y"]
noncomputable abbrev p_board_value : List Str := ["rule_x", "rule_y", "heads"]
theorem sc_board_value : FnScope n_board_value p_board_value (defScope s_board_value) := ⟨rfl, rfl, rfl, by decide +kernel, rfl, by decide +kernel, by decide +kernel⟩
section
variable {P : Program} {w : World} {K : PySem.W.Frag} {mg : Str → Option Value} {base : Heap}
structure CnBv (P : Program) (w : World) (K : PySem.W.Frag) (mg : Str → Option Value) (base : Heap) : Prop where
  check_rule : Callee P w K mg base "check_rule" 1 p_check_rule (spCheckRule K)
  check_board : Callee P w K mg base "check_board" 2 p_check_board (spCheckBoard K)
  summed : Callee P w K mg base "summed" 2 p_summed spSummedN
  board_number : Callee P w K mg base "board_number" 7 p_board_number (spBoardNumber K)
theorem ok_boardValue (D : HasDef K mg "board_value" s_board_value) (C : CnBv P w K mg base) : CalleeD P w K mg base "board_value" s_board_value CX0 8 p_board_value (spBoardValue K) := by
  refine D.okD sc_board_value (fun _ _ _ _ _ _ us hl => match us, hl with | [_, _, _], _ => rfl) (fun vs H Q E h => ?_) (fun f cdv A outer s H vs Q E hr h => ?_)
  · obtain ⟨px, py, ph, rx, ry, ps, rs, rfl, _⟩ := h
    rfl
  obtain ⟨px, py, ph, rx, ry, ps, rs, rfl, hRx, hRy, hgx, hgy, hH, hB, hb, q⟩ := h
  refine ⟨_, (pss_cons (ps_expr (pe_callC C.check_rule hr (by omega) rfl (pa_cons (pv 0) pa_nil)))
    (pss_cons (ps_expr (pe_callC C.check_rule hr (by omega) rfl (pa_cons (pv 1) pa_nil)))
    (pss_cons (ps_expr (pe_callC C.check_board hr (by omega) rfl (pa_cons (pv 2) pa_nil)))
    (pss_cons (ps_set (i := 3) sc_board_value.nd rfl (Or.inl rfl) pe_int)
    (pss_cons (ps_for PassesOwn.never rfl (pi_list (pv 2)) (pg_tup rfl (pgs_cons (pg_name (i := 4) sc_board_value.nd rfl (Or.inl rfl)) (pgs_cons (pg_name (i := 5) sc_board_value.nd rfl (Or.inl rfl)) pgs_nil))) (pss_one (ps_set (i := 3) sc_board_value.nd rfl (Or.inl rfl) (pe_callC C.summed hr (by omega) rfl (pa_cons (pv 3) (pa_cons (pe_callC C.board_number hr (by omega) rfl (pa_cons (pv 0) (pa_cons (pv 1) (pa_cons (pv 4) (pa_cons (pv 5) pa_nil))))) pa_nil))))))
    (pss_one (ps_ret (pv 3)))))))), ?_⟩
  rw [show start n_board_value [V.ref px, V.ref py, V.ref ph] = [some (V.ref px), some (V.ref py), some (V.ref ph), none, none, none] from rfl]
  refine ⟨_, rfl, px, rx, rfl, hRx, hgx, _, rfl, py, ry, rfl, hRy, hgy, _, rfl, ph, ps, rs, rfl, hH, hB, hb, fun H0 s0 => ?_⟩
  dsimp only
  refine seq_of (asg_of ev_c ?_)
  dsimp only
  refine seq_of ⟨_, rfl, ph, rfl, ⟨_, s0.seq hH⟩, ?_⟩
  have h16 : ∀ l : List (Nat × Nat), (∀ p ∈ l, p.1 < 16 ∧ p.2 < 16) → Row.xs (Row.num2 rx ry) l < 65536 := fun l hl => Row.xs_lt (k := 16) fun p hp => Row.num2_lt (Row.n16 hgx (hl p hp).1) (Row.n16 hgy (hl p hp).2)
  refine for_list (xs := rs.map V.ref) (fun i σ H' => Same H H' ∧ ∃ u v, σ = [some (V.ref px), some (V.ref py), some (V.ref ph), some (V.int ((Row.xs (Row.num2 rx ry) (ps.take i) : Nat) : Int)), u, v]) ⟨s0, none, none, rfl⟩ ?_ ?_ ?_
  · rintro i σ H' _ ⟨sm, _⟩
    exact sm.seq hH
  · rintro i x σ H' hx ⟨sm, u, v, rfl⟩
    obtain ⟨p, r, hp, hr', rfl, hF⟩ := at_refs2 (hB.same sm) hx
    have lp := hb.lt p (List.mem_of_getElem? hp)
    refine ⟨r, _, rfl, hF, rfl, _, _, rfl, _, _, rfl, rfl, ?_⟩
    dsimp only [gName]
    refine ⟨_, rfl, _, rfl, _, rfl, _, rfl, _, rfl, px, py, rx, ry, p.1, p.2, rfl, sm.tup hRx, sm.tup hRy, hgx, hgy, lp.1, lp.2, fun H2 s2 => ⟨_, _, rfl, h16 _ fun b hb' => hb.lt b (List.mem_of_mem_take hb'), Row.num2_lt (Row.n16 hgx lp.1) (Row.n16 hgy lp.2), sm.trans s2, some (V.int (p.1 : Int)), some (V.int (p.2 : Int)), ?_⟩⟩
    have e2 : ps.take (i + 1) = ps.take i ++ [p] := by
      rw [List.take_add_one, hp]
      rfl
    rw [e2, Row.xs_append]
    simp [Row.xs]
  · rintro σ H' ⟨sm, u, v, rfl⟩
    dsimp only
    refine ret_of (ev_var rfl) ?_
    rw [List.length_map, ← hB.length, List.take_length]
    exact q _ sm
end
noncomputable abbrev s_kept_product : Stmt := top 48
noncomputable abbrev n_kept_product : List Str := ["products", "one", "two"]
noncomputable abbrev p_kept_product : List Str := ["products", "one", "two"]
theorem sc_kept_product : FnScope n_kept_product p_kept_product (defScope s_kept_product) := ⟨rfl, rfl, rfl, by decide +kernel, rfl, by decide +kernel, by decide +kernel⟩
noncomputable abbrev s_turns_with_sums : Stmt := top 46
noncomputable abbrev n_turns_with_sums : List Str := ["rule", "place"]
noncomputable abbrev p_turns_with_sums : List Str := ["rule", "place"]
theorem sc_turns_with_sums : FnScope n_turns_with_sums p_turns_with_sums (defScope s_turns_with_sums) := ⟨rfl, rfl, rfl, by decide +kernel, rfl, by decide +kernel, by decide +kernel⟩
noncomputable abbrev s_first_adding : Stmt := top 47
noncomputable abbrev n_first_adding : List Str := ["goal", "x_turns", "y_turns", "products", "xs", "x_sum", "ys", "y_sum"]
noncomputable abbrev p_first_adding : List Str := ["goal", "x_turns", "y_turns", "products"]
theorem sc_first_adding : FnScope n_first_adding p_first_adding (defScope s_first_adding) := ⟨rfl, rfl, rfl, by decide +kernel, rfl, by decide +kernel, by decide +kernel⟩
noncomputable abbrev s_board_reply : Stmt := top 45
noncomputable abbrev n_board_reply : List Str := ["rule_x", "rule_y", "heads", "goal", "products", "x", "y", "found"]
noncomputable abbrev p_board_reply : List Str := ["rule_x", "rule_y", "heads"]
theorem sc_board_reply : FnScope n_board_reply p_board_reply (defScope s_board_reply) := ⟨rfl, rfl, rfl, by decide +kernel, rfl, by decide +kernel, by decide +kernel⟩
section
variable {P : Program} {w : World} {K : PySem.W.Frag} {mg : Str → Option Value} {base : Heap}
structure CnKp (P : Program) (w : World) (K : PySem.W.Frag) (mg : Str → Option Value) (base : Heap) : Prop where
  times : Callee P w K mg base "times" 6 p_times spTimes
theorem ok_kept (D : HasDef K mg "kept_product" s_kept_product) (C : CnKp P w K mg base) : Callee P w K mg base "kept_product" 7 p_kept_product spKept := by
  refine D.ok sc_kept_product (fun _ _ _ _ _ _ us hl => match us, hl with | [_, _, _], _ => rfl) (fun vs H Q E h => ?_) (fun f cdv A outer s H vs Q E hr h => ?_)
  · obtain ⟨d, a, b, kvs, rfl, _⟩ := h
    rfl
  obtain ⟨d, a, b, kvs, rfl, ha, hb, hd, pk', q⟩ := h
  refine ⟨_, (pss_cons (ps_if (pt_cmp (pc_dnotin (hu_of hr) (pe_tup (pa_cons (pv 1) (pa_cons (pv 2) pa_nil))) (pv 0))) (pss_one (ps_dput (hu_of hr) (pv 0) (pe_tup (pa_cons (pv 1) (pa_cons (pv 2) pa_nil))) (pe_callC C.times hr (by omega) rfl (pa_cons (pv 1) (pa_cons (pv 2) pa_nil))) rfl)) pss_nil)
    (pss_one (ps_ret (pe_dget (hu_of hr) (pv 0) (pe_tup (pa_cons (pv 1) (pa_cons (pv 2) pa_nil))) (fun _ _ => rfl))))), ?_⟩
  rw [show start n_kept_product [V.ref d, V.int a, V.int b] = [some (V.ref d), some (V.int a), some (V.int b)] from rfl]
  have two : ∀ a b : V, ([a, b] : List V).length ≤ sizeLine := fun a b => by show 2 ≤ sizeLine; decide
  have rd : ∀ (H1 : Hp) (kvs1 : List (List Key × V)), Kp d H H1 → H1 d = some (.dT kvs1) → PKs kvs1 → valV kvs1 (pk a b) = some (.int ((nim 4 a b : Nat) : Int)) →
      tRet (tDGet (tVar 0) (tTup (tCons (tVar 1) (tCons (tVar 2) tNil)))) { nx := fun x H' => Q V.non H', rt := Q } [some (V.ref d), some (V.int ↑a), some (V.int ↑b)] H1 := fun H1 kvs1 k1 hd1 p1 e1 => by
    refine ⟨_, rfl, tup_of (ev_cons (ev_var rfl) (ev_cons (ev_var rfl) ev_nil)) (two _ _) fun k3 hk3 => ⟨d, .int ((nim 4 a b : Nat) : Int), rfl, ?_, ?_⟩⟩
    · rw [← e1]
      exact DGet.t (k := pk a b) (by rw [upd_ne (ne_of_none hd1 hk3)]; exact hd1) upd_same
    · exact q _ kvs1 (k1.same (same_new hk3 _)) (by rw [upd_ne (ne_of_none hd1 hk3)]; exact hd1) p1
  refine seq_of (ifB_of (tup_of (ev_cons (ev_var rfl) (ev_cons (ev_var rfl) ev_nil)) (two _ _) fun k1 hk1 => ⟨_, rfl, d, _, rfl, DGet.t (k := pk a b) (by rw [upd_ne (ne_of_none hd hk1)]; exact hd) upd_same, _, rfl, ?_⟩))
  have hd1 : upd H k1 (.tup [.int (a : Int), .int (b : Int)]) d = some (.dT kvs) := by rw [upd_ne (ne_of_none hd hk1)]; exact hd
  have kp1 : Kp d H (upd H k1 (.tup [.int (a : Int), .int (b : Int)])) := Kp.of (same_new hk1 _)
  cases e : valV kvs (pk a b) with
  | some v =>
    rw [show (!(some v).isSome) = false from rfl, if_neg (by decide)]
    rw [pk'.get e] at e
    exact next_of (rd _ kvs kp1 hd1 pk' e)
  | none =>
    rw [show (!(none : Option V).isSome) = true from rfl, if_pos rfl]
    refine ⟨_, rfl, _, rfl, a, b, rfl, by omega, by omega, by omega, by omega, _, rfl, tup_of (ev_cons (ev_var rfl) (ev_cons (ev_var rfl) ev_nil)) (two _ _) fun k2 hk2 => ⟨d, _, rfl, DPut.t (k := pk a b) (by rw [upd_ne (ne_of_none hd1 hk2)]; exact hd1) upd_same ?_, ?_⟩⟩
    · exact Nat.lt_of_le_of_lt pk'.len (by decide)
    have et : tI (a : Int) (b : Int) = ((nim 4 a b : Nat) : Int) := pI_nat (d := 4) (by decide) (by rw [N4]; omega) (by rw [N4]; omega)
    rw [et]
    refine rd _ _ ((kp1.same (same_new hk2 _)).put) upd_same (pk'.put ha hb e) ?_
    rw [valV_put, if_pos rfl]
structure CnTs (P : Program) (w : World) (K : PySem.W.Frag) (mg : Str → Option Value) (base : Heap) : Prop where
  turns_ending : Callee P w K mg base "turns_ending" 5 p_turns_ending (spEnds K)
  sum_of_numbers : Callee P w K mg base "sum_of_numbers" 4 p_sum_of_numbers (spSumOf K)
theorem ok_sums (D : HasDef K mg "turns_with_sums" s_turns_with_sums) (C : CnTs P w K mg base) : Callee P w K mg base "turns_with_sums" 6 p_turns_with_sums (spSums K) := by
  refine D.ok sc_turns_with_sums (fun _ _ _ _ _ _ us hl => match us, hl with | [_, _], _ => rfl) (fun vs H Q E h => ?_) (fun f cdv A outer s H vs Q E hr h => ?_)
  · obtain ⟨pr, r, n, rfl, _⟩ := h
    rfl
  obtain ⟨pr, r, n, rfl, hR, hg, hn, q⟩ := h
  refine ⟨_, (pss_one (ps_ret (pe_comp (Block.of (out := defScope s_turns_with_sums) (N := n_turns_with_sums) (x := "turn") (frees := ["rule"]) (ix := [0]) (by decide +kernel)) rfl (pi_list (pe_callC C.turns_ending hr (by omega) rfl (pa_cons (pv 0) (pa_cons (pv 1) pa_nil)))) (fun _ _ _ _ => pts_nil) (fun _ _ _ _ => (pe_tup (pa_cons (pv 0) (pa_cons (pe_callC C.sum_of_numbers hr (by omega) rfl (pa_cons (pv 1) (pa_cons (pv 0) pa_nil))) pa_nil))))))), ?_⟩
  rw [show start n_turns_with_sums [V.ref pr, V.int n] = [some (V.ref pr), some (V.int n)] from rfl]
  refine retO_of (comp_tups (K := K) (xss := Row.shapes r n) (fun s a => [.ref a, .int ((Row.xs (Row.num r) s : Nat) : Int)]) (fun H1 la rs0 => Same H H1 ∧ H1 la = some (.lst (rs0.map V.ref)) ∧ RL H H1 (Row.shapes r n) rs0) (fun R rr => ?_) (fun H1 la rs0 h => h) ?_ (fun x r' H1 R hx s1 hx1 rr => ?_) (fun acc ts H2 hacc s2 hacc2 ht => ?_))
  · exact ⟨_, rfl, _, rfl, pr, r, n, rfl, hR, hg, hn, fun H1 la rs0 s1 hla hla2 hr1 _ => ⟨la, rfl, ⟨_, .of hla2⟩, rr _ _ _ ⟨s1, hla2, hr1⟩⟩⟩
  · exact Nat.lt_of_le_of_lt (Row.shapes_many hg hn) (by decide)
  · refine ⟨_, rfl, _, rfl, _, rfl, pr, r', r, x, rfl, s1.tup hR, hg, .of hx1, fun a ha => ?_, by show 2 ≤ sizeLine; decide, fun p hp => rr p hp⟩
    have := Row.shape_le hx a ha
    omega
  · exact q _ acc ts s2 hacc hacc2 ht
structure CnFa (P : Program) (w : World) (K : PySem.W.Frag) (mg : Str → Option Value) (base : Heap) : Prop where
  kept_product : Callee P w K mg base "kept_product" 7 p_kept_product spKept
theorem ok_firstAdd (D : HasDef K mg "first_adding" s_first_adding) (C : CnFa P w K mg base) : Callee P w K mg base "first_adding" 8 p_first_adding spFirstAdd := by
  refine D.ok sc_first_adding (fun _ _ _ _ _ _ us hl => match us, hl with | [_, _, _, _], _ => rfl) (fun vs H Q E h => ?_) (fun f cdv A outer s H vs Q E hr h => ?_)
  · obtain ⟨g, px, py, d, PA, PB, f, f', xss, yss, ts, us, kvs, rfl, _⟩ := h
    rfl
  obtain ⟨g, px, py, d, PA, PB, f1, f2, xss, yss, ts, us, kvs, rfl, hpx, hpy, hT, hU, hf1, hf2, hd, hpk, q0, q1⟩ := h
  refine ⟨_, (pss_cons (ps_for PassesOwn.never rfl (pi_list (pv 1)) (pg_tup rfl (pgs_cons (pg_name (i := 4) sc_first_adding.nd rfl (Or.inl rfl)) (pgs_cons (pg_name (i := 5) sc_first_adding.nd rfl (Or.inl rfl)) pgs_nil))) (pss_one (ps_for PassesOwn.never rfl (pi_list (pv 2)) (pg_tup rfl (pgs_cons (pg_name (i := 6) sc_first_adding.nd rfl (Or.inl rfl)) (pgs_cons (pg_name (i := 7) sc_first_adding.nd rfl (Or.inl rfl)) pgs_nil))) (pss_one (ps_if (pt_cmpR op_eq (pe_callC C.kept_product hr (by omega) rfl (pa_cons (pv 3) (pa_cons (pv 5) (pa_cons (pv 7) pa_nil)))) (pv 0) (nomark _)) (pss_one (ps_ret (pe_tup (pa_cons (pv 4) (pa_cons (pv 6) pa_nil))))) pss_nil)))))
    (pss_one (ps_ret pe_non))), ?_⟩
  rw [show start n_first_adding [V.int g, V.ref px, V.ref py, V.ref d] = [some (V.int g), some (V.ref px), some (V.ref py), some (V.ref d), none, none, none, none] from rfl]
  have two : ∀ a b : V, ([a, b] : List V).length ≤ sizeLine := fun a b => by show 2 ≤ sizeLine; decide
  refine seq_of ⟨_, rfl, px, rfl, ⟨_, .of hpx⟩, ?_⟩
  refine for_list (xs := ts.map V.ref) (fun i σ H' => ∃ (kvs' : List (List Key × V)) (u4 u5 u6 u7 : Option V), Kp d H H' ∧ H' d = some (.dT kvs') ∧ PKs kvs' ∧ (∀ t ∈ pairsOf (xss.take i) yss, nim 4 (f1 t.1) (f2 t.2) ≠ g) ∧ σ = [some (V.int (g : Int)), some (V.ref px), some (V.ref py), some (V.ref d), u4, u5, u6, u7])
    ⟨kvs, none, none, none, none, Kp.refl, hd, hpk, by simp [pairsOf], rfl⟩ ?_ ?_ ?_
  · rintro i σ H' _ ⟨_, _, _, _, _, kp, _⟩
    exact .of (kp.lstT hd hpx)
  · rintro i x σ H' hx ⟨kvs', u4, u5, u6, u7, kp, hd', pk', hno, rfl⟩
    rw [List.getElem?_map] at hx
    cases et : ts[i]? with
    | none => rw [et] at hx; cases hx
    | some t =>
      rw [et] at hx
      cases hx
      obtain ⟨s1, a, hs1, ht, ha, hPa⟩ := hT.2 i t et
      have hm1 := List.mem_of_getElem? hs1
      refine ⟨t, _, rfl, .inl (.inl (kp.tupT hd ht)), rfl, _, _, rfl, _, _, rfl, rfl, ?_⟩
      dsimp only [gName]
      refine ⟨_, rfl, py, rfl, ⟨_, .of (kp.lstT hd hpy)⟩, ?_⟩
      refine for_list (xs := us.map V.ref) (fun j σ H' => ∃ (kvs' : List (List Key × V)) (u6 u7 : Option V), Kp d H H' ∧ H' d = some (.dT kvs') ∧ PKs kvs' ∧ (∀ u ∈ yss.take j, nim 4 (f1 s1) (f2 u) ≠ g) ∧ σ = [some (V.int (g : Int)), some (V.ref px), some (V.ref py), some (V.ref d), some (V.ref a), some (V.int ((f1 s1 : Nat) : Int)), u6, u7])
        ⟨kvs', u6, u7, kp, hd', pk', by simp, rfl⟩ ?_ ?_ ?_
      · rintro j σ H2 _ ⟨_, _, _, kp2, _⟩
        exact .of (kp2.lstT hd hpy)
      · rintro j x σ H2 hx ⟨kvs2, u6, u7, kp2, hd2, pk2, hno2, rfl⟩
        rw [List.getElem?_map] at hx
        cases eu : us[j]? with
        | none => rw [eu] at hx; cases hx
        | some u =>
          rw [eu] at hx
          cases hx
          obtain ⟨s2, b, hs2, hu, hb, hPb⟩ := hU.2 j u eu
          have hm2 := List.mem_of_getElem? hs2
          refine ⟨u, _, rfl, .inl (.inl (kp2.tupT hd hu)), rfl, _, _, rfl, _, _, rfl, rfl, ?_⟩
          dsimp only [gName]
          refine ifO_of (opO_of ⟨_, rfl, _, rfl, _, rfl, d, f1 s1, f2 s2, kvs2, rfl, hf1 s1 hm1, hf2 s2 hm2, hd2, pk2, fun H3 kvs3 k3 hd3 pk3 => ⟨_, rfl, rfl, _, rfl, ?_⟩⟩)
          have kp3 := kp2.trans k3
          by_cases c : nim 4 (f1 s1) (f2 s2) = g
          · rw [decide_eq_true (by rw [c]), if_pos rfl]
            refine retO_of (tup_of (ev_cons (ev_var rfl) (ev_cons (ev_var rfl) ev_nil)) (two _ _) fun p hp => ?_)
            refine q1 (s1, s2) ?_ _ kvs3 p a b (kp3.same (same_new hp _)) (by rw [upd_ne (ne_of_none hd3 hp)]; exact hd3) pk3 (kp3.free hd3 hp) upd_same ha hPa hb hPb
            have hi : i < xss.length := (List.getElem?_eq_some_iff.mp hs1).1
            have hj : j < yss.length := (List.getElem?_eq_some_iff.mp hs2).1
            have a1 : xss = xss.take i ++ s1 :: xss.drop (i + 1) := by
              have := List.getElem_cons_drop (as := xss) (i := i) hi
              rw [(List.getElem?_eq_some_iff.mp hs1).2] at this
              rw [this, List.take_append_drop]
            have a2 : yss = yss.take j ++ s2 :: yss.drop (j + 1) := by
              have := List.getElem_cons_drop (as := yss) (i := j) hj
              rw [(List.getElem?_eq_some_iff.mp hs2).2] at this
              rw [this, List.take_append_drop]
            have a3 : pairsOf xss yss = pairsOf (xss.take i) yss ++ ((yss.take j).map (fun u => (s1, u)) ++ (s1, s2) :: ((yss.drop (j + 1)).map (fun u => (s1, u)) ++ pairsOf (xss.drop (i + 1)) yss)) := by
              have b1 : pairsOf xss yss = pairsOf (xss.take i) yss ++ (yss.map (fun u => (s1, u)) ++ pairsOf (xss.drop (i + 1)) yss) := by
                conv => lhs; rw [a1]
                unfold pairsOf
                rw [List.flatMap_append, List.flatMap_cons]
              have b2 : yss.map (fun u => (s1, u)) = (yss.take j).map (fun u => (s1, u)) ++ (s1, s2) :: (yss.drop (j + 1)).map (fun u => (s1, u)) := by
                conv => lhs; rw [a2]
                rw [List.map_append, List.map_cons]
              rw [b1, b2]
              simp
            rw [a3, List.find?_append, List.find?_eq_none.mpr, Option.none_or, List.find?_append, List.find?_eq_none.mpr, Option.none_or, List.find?_cons]
            · have : (nim 4 (f1 (s1, s2).1) (f2 (s1, s2).2) == g) = true := by rw [beq_iff_eq]; exact c
              rw [this]
            · intro t ht
              obtain ⟨u', hu', rfl⟩ := List.mem_map.mp ht
              rw [beq_iff_eq]
              exact hno2 u' hu'
            · intro t ht
              rw [beq_iff_eq]
              exact hno t ht
          · rw [decide_eq_false (fun z => c (by have := V.int.inj z; omega)), if_neg (by decide)]
            refine next_of ⟨kvs3, _, _, kp3, hd3, pk3, fun u' hu' => ?_, rfl⟩
            rw [List.take_add_one, hs2] at hu'
            rcases List.mem_append.mp hu' with z | z
            · exact hno2 u' z
            · have : u' = s2 := by simpa using z
              rw [this]
              exact c
      · rintro σ H2 ⟨kvs2, u6, u7, kp2, hd2, pk2, hno2, rfl⟩
        refine ⟨kvs2, _, _, _, _, kp2, hd2, pk2, fun t' ht' => ?_, rfl⟩
        rw [List.length_map, hU.1, List.take_length] at hno2
        unfold pairsOf at ht' hno
        rw [List.take_add_one, hs1, List.flatMap_append] at ht'
        rcases List.mem_append.mp ht' with z | z
        · exact hno t' z
        · simp at z
          obtain ⟨u', hu', rfl⟩ := z
          exact hno2 u' hu'
  · rintro σ H' ⟨kvs', u4, u5, u6, u7, kp, hd', pk', hno, rfl⟩
    dsimp only
    refine ret_of ev_c (q0 ?_ _ kvs' kp hd' pk')
    rw [List.length_map, hT.1, List.take_length] at hno
    rw [List.find?_eq_none]
    intro t ht
    rw [beq_iff_eq]
    exact hno t ht
structure CnBr (P : Program) (w : World) (K : PySem.W.Frag) (mg : Str → Option Value) (base : Heap) : Prop where
  board_value : Callee P w K mg base "board_value" 8 p_board_value (spBoardValue K)
  turns_with_sums : Callee P w K mg base "turns_with_sums" 6 p_turns_with_sums (spSums K)
  first_adding : Callee P w K mg base "first_adding" 8 p_first_adding spFirstAdd
theorem ok_boardReply (D : HasDef K mg "board_reply" s_board_reply) (C : CnBr P w K mg base) : CalleeD P w K mg base "board_reply" s_board_reply CX0 20 p_board_reply (spBoardReply K) := by
  refine D.okD sc_board_reply (fun _ _ _ _ _ _ us hl => match us, hl with | [_, _, _], _ => rfl) (fun vs H Q E h => ?_) (fun f cdv A outer s H vs Q E hr h => ?_)
  · obtain ⟨px, py, ph, rx, ry, ps, rs, rfl, _⟩ := h
    rfl
  obtain ⟨px, py, ph, rx, ry, ps, rs, rfl, hRx, hRy, hgx, hgy, hH, hB, hb, q0, q1⟩ := h
  refine ⟨_, (pss_cons (ps_set (i := 3) sc_board_reply.nd rfl (Or.inl rfl) (pe_callC C.board_value hr (by omega) rfl (pa_cons (pv 0) (pa_cons (pv 1) (pa_cons (pv 2) pa_nil)))))
    (pss_cons (ps_set (i := 4) sc_board_reply.nd rfl (Or.inl rfl) pe_dnewT)
    (pss_cons (ps_for PassesOwn.never rfl (pi_list (pv 2)) (pg_tup rfl (pgs_cons (pg_name (i := 5) sc_board_reply.nd rfl (Or.inl rfl)) (pgs_cons (pg_name (i := 6) sc_board_reply.nd rfl (Or.inl rfl)) pgs_nil))) (pss_cons (ps_set (i := 7) sc_board_reply.nd rfl (Or.inl rfl) (pe_callC C.first_adding hr (by omega) rfl (pa_cons (pv 3) (pa_cons (pe_callC C.turns_with_sums hr (by omega) rfl (pa_cons (pv 0) (pa_cons (pv 5) pa_nil))) (pa_cons (pe_callC C.turns_with_sums hr (by omega) rfl (pa_cons (pv 1) (pa_cons (pv 6) pa_nil))) (pa_cons (pv 4) pa_nil))))))
    (pss_one (ps_if (pt_cmpR op_notN (pv 7) pe_non (nomark _)) (pss_one (ps_ret (pv 7))) pss_nil))))
    (pss_one (ps_ret pe_non))))), ?_⟩
  rw [show start n_board_reply [V.ref px, V.ref py, V.ref ph] = [some (V.ref px), some (V.ref py), some (V.ref ph), none, none, none, none, none] from rfl]
  refine seq_of ⟨_, rfl, _, rfl, _, rfl, px, py, ph, rx, ry, ps, rs, rfl, hRx, hRy, hgx, hgy, hH, hB, hb, fun Ha sa => ?_⟩
  dsimp only [gName]
  refine seq_of fun d nd => ?_
  dsimp only [gName]
  have hd0 : upd Ha d (.dT []) d = some (.dT []) := upd_same
  have sb : Same H (upd Ha d (.dT [])) := sa.new nd
  have nd0 : H d = none := sa.free nd
  generalize upd Ha d (.dT []) = Hb at hd0 sb
  refine seq_of ⟨_, rfl, ph, rfl, ⟨_, sb.seq hH⟩, ?_⟩
  refine for_list (xs := rs.map V.ref) (fun i σ H' => ∃ (kvs : List (List Key × V)) (u5 u6 u7 : Option V), Kp d Hb H' ∧ H' d = some (.dT kvs) ∧ PKs kvs ∧ (∀ t ∈ Row.turns2 rx ry (ps.take i), Row.tsum rx ry t ≠ Row.xs (Row.num2 rx ry) ps) ∧
    σ = [some (V.ref px), some (V.ref py), some (V.ref ph), some (V.int ((Row.xs (Row.num2 rx ry) ps : Nat) : Int)), some (V.ref d), u5, u6, u7]) ⟨[], none, none, none, Kp.refl, hd0, PKs.nil, by simp [Row.turns2], rfl⟩ ?_ ?_ ?_
  · rintro i σ H' _ ⟨_, _, _, _, kp, _⟩
    exact (kp.sameOf sb nd0).seq hH
  · rintro i x σ H' hx ⟨kvs, u5, u6, u7, kp, hd', pk', hno, rfl⟩
    have sm := kp.sameOf sb nd0
    obtain ⟨p, r, hp, hr', rfl, hF⟩ := at_refs2 (hB.same sm) hx
    have lp := hb.lt p (List.mem_of_getElem? hp)
    have hi : i < ps.length := (List.getElem?_eq_some_iff.mp hp).1
    refine ⟨r, _, rfl, hF, rfl, _, _, rfl, _, _, rfl, rfl, ?_⟩
    dsimp only [gName]
    have tk : Row.turns2 rx ry (ps.take (i + 1)) = Row.turns2 rx ry (ps.take i) ++ pairsOf (Row.shapes rx p.1) (Row.shapes ry p.2) := by
      unfold Row.turns2 pairsOf
      rw [List.take_add_one, hp, List.flatMap_append]
      simp
    refine seq_of ⟨_, rfl, _, rfl, _, rfl, px, rx, p.1, rfl, sm.tup hRx, hgx, by omega, fun H1 p1 ts s1 n1 hp1 hts => ⟨_, rfl, _, rfl, py, ry, p.2, rfl, s1.tup (sm.tup hRy), hgy, by omega, fun H2 p2 us s2 n2 hp2 hus => ⟨_, rfl, _, p1, p2, d, (fun a => H' a = none ∧ H1 a ≠ none), (fun a => H1 a = none), Row.xs (Row.num rx), Row.xs (Row.num ry), _, _, ts, us, kvs, rfl, s2 _ _ hp1, hp2,
      (hts.imp (Pr' := fun a => H' a = none ∧ H1 a ≠ none) fun a s e h => ⟨h, by rw [e]; simp⟩).keep (fun a xs e => s2 _ _ e) (fun a xs e => s2 _ _ e), hus, fun s hs => Row.sum32 hgx (Row.shape16 hs lp.1), fun s hs => Row.sum32 hgy (Row.shape16 hs lp.2), s2 _ _ (s1 _ _ hd'), pk', fun hn H3 kvs3 k3 hd3 pk3 => ?_, fun t ht H3 kvs3 z a b k3 hd3 pk3 nz hz ha hPa hb' hPb => ?_⟩⟩⟩
    · dsimp only [gName]
      refine ifS_of (ev_test fun Q q => ⟨_, rfl, rfl, q⟩) (fun c => absurd c (by simp)) (fun _ => next_of ⟨kvs3, _, _, _, (kp.trans (Kp.of (s1.trans s2))).trans k3, hd3, pk3, fun t ht => ?_, rfl⟩)
      rw [tk] at ht
      rcases List.mem_append.mp ht with w | w
      · exact hno t w
      · have := List.find?_eq_none.mp hn t w
        rw [beq_iff_eq] at this
        exact this
    · dsimp only [gName]
      refine ifS_of (ev_test fun Q q => ⟨_, rfl, rfl, q⟩) (fun _ => ?_) (fun c => absurd c (by simp))
      have k03 := (kp.trans (Kp.of (s1.trans s2))).trans k3
      refine ret_of (ev_var rfl) (q1 t ?_ H3 z a b (k03.sameOf sb nd0) (sm.free ((s1.trans s2).free nz)) hz (sm.free hPa.1) (sm.free (s1.free hPb)) (fun w => hPa.2 (w ▸ hPb)) ?_ ?_)
      · unfold Row.replyOf2
        have a1 : ps = ps.take (i + 1) ++ ps.drop (i + 1) := (List.take_append_drop _ _).symm
        have a2 : Row.turns2 rx ry ps = Row.turns2 rx ry (ps.take i) ++ (pairsOf (Row.shapes rx p.1) (Row.shapes ry p.2) ++ Row.turns2 rx ry (ps.drop (i + 1))) := by
          have : Row.turns2 rx ry ps = Row.turns2 rx ry (ps.take (i + 1)) ++ Row.turns2 rx ry (ps.drop (i + 1)) := by
            conv => lhs; rw [a1]
            unfold Row.turns2
            rw [List.flatMap_append]
          rw [this, tk, List.append_assoc]
        rw [a2, List.find?_append, List.find?_eq_none.mpr, Option.none_or, List.find?_append]
        · have ht' : List.find? (fun t => Row.tsum rx ry t == Row.xs (Row.num2 rx ry) ps) (pairsOf (Row.shapes rx p.1) (Row.shapes ry p.2)) = some t := ht
          rw [ht']
          rfl
        · intro t ht
          rw [beq_iff_eq]
          exact hno t ht
      · exact k3.lstT (s2 _ _ (s1 _ _ hd')) ha
      · exact k3.lstT (s2 _ _ (s1 _ _ hd')) hb'
  · rintro σ H' ⟨kvs, u5, u6, u7, kp, hd', pk', hno, rfl⟩
    dsimp only
    refine ret_of ev_c (q0 ?_ _ (kp.sameOf sb nd0))
    rw [List.length_map, ← hB.length, List.take_length] at hno
    unfold Row.replyOf2
    rw [List.find?_eq_none]
    intro t ht
    rw [beq_iff_eq]
    exact hno t ht
end
noncomputable def okR (x : Str) (k : Int) : Prop := ∃ m : Int, atS gk x = some (.int m) ∧ 1 ≤ k ∧ k ≤ m
theorem gk_cases {x : Str} {v : V} (h : atS gk x = some v) : (x = "most" ∧ v = .int 3) ∨ (x = "just" ∧ v = .int 3) ∨ (x = "run" ∧ v = .int 40) := by
  unfold atS at h
  simp only [List.find?_cons] at h
  split at h
  · rename_i e
    exact .inl ⟨(of_decide_eq_true e).symm, by simpa using h.symm⟩
  · split at h
    · rename_i e
      exact .inr (.inl ⟨(of_decide_eq_true e).symm, by simpa using h.symm⟩)
    · split at h
      · rename_i e
        exact .inr (.inr ⟨(of_decide_eq_true e).symm, by simpa using h.symm⟩)
      · simp at h
theorem okR_rule {x : Str} {k : Int} (h : okR x k) : ∃ r : Row.Rule, Row.Good r ∧ ruleV r = [.str x, .int k] := by
  obtain ⟨m, hm, h1, h2⟩ := h
  obtain ⟨n, rfl⟩ : ∃ n : Nat, k = (n : Int) := ⟨k.toNat, by omega⟩
  rcases gk_cases hm with ⟨rfl, e⟩ | ⟨rfl, e⟩ | ⟨rfl, e⟩ <;> injection e with e <;> subst e
  · exact ⟨(0, n), .inl ⟨.inl rfl, by simp only; omega, by simp only; omega⟩, rfl⟩
  · exact ⟨(1, n), .inl ⟨.inr rfl, by simp only; omega, by simp only; omega⟩, rfl⟩
  · exact ⟨(2, n), .inr ⟨rfl, by simp only; omega, by simp only; omega⟩, rfl⟩
theorem rule_okR {r : Row.Rule} (hg : Row.Good r) : okR (word r.1) (r.2 : Int) := by
  obtain ⟨m, hm, h1, h2⟩ := gk_at hg
  exact ⟨m, hm, by omega, by omega⟩
theorem rises_is {g : Int} : ∀ {xs : List Int} {a : Int}, -1 ≤ a → Rises g a xs = true → ∃ hs : List Nat, xs = ni hs ∧ Row.Sorted hs ∧ ∀ p ∈ hs, a < (p : Int) ∧ (p : Int) ≤ g
  | [], _, _, _ => ⟨[], rfl, List.Pairwise.nil, by simp⟩
  | x :: xs, a, ha, h => by
    unfold Rises at h
    split at h
    · cases h
    · rename_i c
      obtain ⟨hs, e, so, hl⟩ := rises_is (xs := xs) (a := x) (by omega) h
      obtain ⟨n, rfl⟩ : ∃ n : Nat, x = (n : Int) := ⟨x.toNat, by omega⟩
      refine ⟨n :: hs, by rw [e]; rfl, List.pairwise_cons.mpr ⟨fun b hb => by have := hl b hb; omega, so⟩, fun p hp => ?_⟩
      rcases List.mem_cons.mp hp with rfl | hp
      · omega
      · have := hl p hp
        omega
noncomputable def RisesB (a : Int × Int) : List (Int × Int) → Bool
  | [] => true
  | p :: r => if (p.1 < 0 ∨ p.1 > 15 ∨ p.2 < 0 ∨ p.2 > 15) ∨ HT.lexLe [p.1, p.2] [a.1, a.2] = true then false else RisesB p r
theorem lex2 {a b c d : Int} : HT.lexLe [a, b] [c, d] = false ↔ (c < a ∨ (a = c ∧ d < b)) := by
  simp only [HT.lexLe]
  by_cases h1 : a = c
  · rw [if_pos h1]
    by_cases h2 : b = d
    · rw [if_pos h2]
      constructor
      · intro h
        cases h
      · omega
    · rw [if_neg h2, decide_eq_false_iff_not]
      omega
  · rw [if_neg h1, decide_eq_false_iff_not]
    omega
noncomputable def BI (K : PySem.W.Frag) (H : Hp) (ps : List (Int × Int)) (rs : List Addr) : Prop := Paired (fun (p : Int × Int) r => SqT K H r [.int p.1, .int p.2]) ps rs
theorem BI.same {K : PySem.W.Frag} {H H' : Hp} {ps : List (Int × Int)} {rs : List Addr} (h : BI K H ps rs) (s : Same H H') : BI K H' ps rs := Paired.mapP h fun _ _ q => s.tup q
noncomputable def np (p : Nat × Nat) : Int × Int := ((p.1 : Int), (p.2 : Int))
theorem BI.bl {K : PySem.W.Frag} {H : Hp} : ∀ {ps : List (Nat × Nat)} {rs : List Addr}, BI K H (ps.map np) rs → BL K H ps rs
  | [], _, h => by cases h; exact .nil
  | p :: ps, _, h => by
    cases h with
    | cons h t => exact .cons h (BI.bl t)
theorem risesB_is : ∀ {ps : List (Int × Int)} {a : Int × Int}, RisesB a ps = true → ∃ qs : List (Nat × Nat), ps = qs.map np ∧ qs.Pairwise Row.PLt ∧ (∀ q ∈ qs, q.1 < 16 ∧ q.2 < 16) ∧ ∀ q ∈ qs, HT.lexLe [(q.1 : Int), (q.2 : Int)] [a.1, a.2] = false
  | [], _, _ => ⟨[], rfl, List.Pairwise.nil, by simp, by simp⟩
  | p :: ps, a, h => by
    unfold RisesB at h
    split at h
    · cases h
    · rename_i c
      obtain ⟨qs, e, so, hl, hlt⟩ := risesB_is (ps := ps) (a := p) h
      have c1 : ¬ (p.1 < 0 ∨ p.1 > 15 ∨ p.2 < 0 ∨ p.2 > 15) := fun z => c (.inl z)
      have c2 : HT.lexLe [p.1, p.2] [a.1, a.2] = false := by
        cases e : HT.lexLe [p.1, p.2] [a.1, a.2] with
        | false => rfl
        | true => exact absurd (.inr e) c
      obtain ⟨x, y⟩ := p
      simp only at c1 c2 hlt
      obtain ⟨n, rfl⟩ : ∃ n : Nat, x = (n : Int) := ⟨x.toNat, by omega⟩
      obtain ⟨m, rfl⟩ : ∃ m : Nat, y = (m : Int) := ⟨y.toNat, by omega⟩
      refine ⟨(n, m) :: qs, by rw [e]; rfl, List.pairwise_cons.mpr ⟨fun b hb => ?_, so⟩, fun q hq => ?_, fun q hq => ?_⟩
      · have := lex2.mp (hlt b hb)
        unfold Row.PLt
        simp only
        omega
      · rcases List.mem_cons.mp hq with rfl | hq
        · simp only; omega
        · exact hl q hq
      · rcases List.mem_cons.mp hq with rfl | hq
        · exact c2
        · have h1 := lex2.mp (hlt q hq)
          have c2 := lex2.mp c2
          refine lex2.mpr ?_
          omega
noncomputable def spCheckRuleX (K : PySem.W.Frag) (cU : Addr) : Sp := fun vs H Q E => ∃ (pr : Addr) (x : Str) (k : Int), vs = [.ref pr] ∧ SqT K H pr [.str x, .int k] ∧ (okR x k → Q .non H) ∧ (¬ okR x k → E (.ref cU) none H)
noncomputable def spCheckRowX (K : PySem.W.Frag) (cR : Addr) : Sp := fun vs H Q E => ∃ (ph : Addr) (xs : List Int), vs = [.ref ph] ∧ SqL K H ph (xs.map V.int) ∧ (Rises 39 (-1) xs = true → Q .non H) ∧ (Rises 39 (-1) xs = false → E (.ref cR) none H)
noncomputable def spCheckPlaceX (cR : Addr) : Sp := fun vs H Q E => ∃ n : Int, vs = [.int n] ∧ (0 ≤ n ∧ n < 40 → Q .non H) ∧ (¬ (0 ≤ n ∧ n < 40) → E (.ref cR) none H)
noncomputable def spCheckBPX (cB : Addr) : Sp := fun vs H Q E => ∃ x y : Int, vs = [.int x, .int y] ∧ (¬ (x < 0 ∨ x > 15 ∨ y < 0 ∨ y > 15) → Q .non H) ∧ ((x < 0 ∨ x > 15 ∨ y < 0 ∨ y > 15) → E (.ref cB) none H)
noncomputable def spCheckBoardX (K : PySem.W.Frag) (cB : Addr) : Sp := fun vs H Q E => ∃ (ph : Addr) (ps : List (Int × Int)) (rs : List Addr), vs = [.ref ph] ∧ SqL K H ph (rs.map V.ref) ∧ BI K H ps rs ∧ (RisesB (-1, -1) ps = true → ∀ H', Same H H' → Q .non H') ∧ (RisesB (-1, -1) ps = false → ∀ H', Same H H' → E (.ref cB) none H')
structure TxX (K : PySem.W.Frag) (w : World) (mg : Str → Option Value) (cB cR cU cT : Addr) : Prop where
  GREATEST_K : GDic K w.params mg "GREATEST_K" gk
  GREATEST_PLACE : GInt mg "GREATEST_PLACE" 39
  GREATEST_BOARD_PLACE : GInt mg "GREATEST_BOARD_PLACE" 15
  r_NoRule : ErrC K mg "NoRule" cU
  r_NoRow : ErrC K mg "NoRow" cR
  r_NoBoard : ErrC K mg "NoBoard" cB
  r_NoTurn : ErrC K mg "NoTurn" cT
section
variable {P : Program} {w : World} {K : PySem.W.Frag} {mg : Str → Option Value} {base : Heap} {cB cR cU cT : Addr}
set_option pp.deepTerms true in
theorem ok_checkRuleX (D : HasDef K mg "check_rule" s_check_rule) (T : TxX K w mg cB cR cU cT) : CalleeX P w K mg base "check_rule" 1 p_check_rule (spCheckRuleX K cU) := by
  refine D.okX sc_check_rule (fun _ _ _ _ _ _ us hl => match us, hl with | [_], _ => rfl) (fun vs H Q E h => ?_) (fun f cdv A outer s H vs Q E hr h => ?_)
  · obtain ⟨pr, x, k, rfl, _⟩ := h
    rfl
  obtain ⟨pr, x, k, rfl, hR, q1, q2⟩ := h
  refine ⟨_, (pss_cons (ps_if (pt_cmp (pc_knotin T.GREATEST_K (pe_ix ix_tup (pv 0) pe_int (fun _ _ => rfl)))) (pss_one (ps_raise raise1 rfl T.r_NoRule rfl (pa_cons pe_str pa_nil))) pss_nil)
    (pss_one (ps_if (PW.pt (pw_or (pt_cmpR op_lt (pe_ix ix_tup (pv 0) pe_int (fun _ _ => rfl)) pe_int (nomark _)) (pw_or1 (pt_cmpR op_gt (pe_ix ix_tup (pv 0) pe_int (fun _ _ => rfl)) (pe_kget T.GREATEST_K (pe_ix ix_tup (pv 0) pe_int (fun _ _ => rfl)) (fun _ _ => rfl)) (nomark _))))) (pss_one (ps_raise raise1 rfl T.r_NoRule rfl (pa_cons pe_str pa_nil))) pss_nil))), ?_⟩
  rw [show start n_check_rule [V.ref pr] = [some (V.ref pr)] from rfl]
  refine seq_of (ifS_of (ev_tB (ev_kin (ev_ixT (ev_var rfl) ev_c hR rfl))) (fun c => ⟨by decide, q2 ?_⟩) (fun c => next_of ?_))
  · rintro ⟨m, hm, _⟩
    rw [hm] at c
    cases c
  · dsimp only
    cases hm : atS gk x with
    | none => rw [hm] at c; cases c
    | some v =>
      obtain ⟨m, rfl⟩ : ∃ m : Int, v = .int m := by rcases gk_cases hm with ⟨_, e⟩ | ⟨_, e⟩ | ⟨_, e⟩ <;> exact ⟨_, e⟩
      refine ifS_of (ev_or (ev_test (ev_i0 (ev_ixT (ev_var rfl) ev_c hR rfl) ev_c)) (fun _ => ev_test (ev_i0 (ev_ixT (ev_var rfl) ev_c hR rfl) (ev_kget (ev_ixT (ev_var rfl) ev_c hR rfl) hm)))) (fun c => ⟨by decide, q2 ?_⟩) (fun c => q1 ⟨m, hm, ?_⟩)
      · rintro ⟨m', hm', h1, h2⟩
        rw [hm] at hm'
        cases hm'
        rcases Bool.or_eq_true_iff.mp c with c | c <;> have c := of_decide_eq_true c <;> omega
      · rw [Bool.or_eq_false_iff] at c
        have c1 := of_decide_eq_false c.1
        have c2 := of_decide_eq_false c.2
        omega
structure CnRx (P : Program) (w : World) (K : PySem.W.Frag) (mg : Str → Option Value) (base : Heap) : Prop where
  rises : Callee P w K mg base "rises" 1 p_rises (spRises K)
theorem ok_checkRowX (D : HasDef K mg "check_row" s_check_row) (T : TxX K w mg cB cR cU cT) (C : CnRx P w K mg base) : CalleeX P w K mg base "check_row" 2 p_check_row (spCheckRowX K cR) := by
  refine D.okX sc_check_row (fun _ _ _ _ _ _ us hl => match us, hl with | [_], _ => rfl) (fun vs H Q E h => ?_) (fun f cdv A outer s H vs Q E hr h => ?_)
  · obtain ⟨ph, xs, rfl, _⟩ := h
    rfl
  obtain ⟨ph, xs, rfl, hH, q1, q2⟩ := h
  refine ⟨_, (pss_one (ps_if (pt_not (pt_val (pe_callC C.rises hr (by omega) rfl (pa_cons (pv 0) (pa_cons (pe_globI T.GREATEST_PLACE) pa_nil))))) (pss_one (ps_raise raise1 rfl T.r_NoRow rfl (pa_cons pe_str pa_nil))) pss_nil)), ?_⟩
  rw [show start n_check_row [V.ref ph] = [some (V.ref ph)] from rfl]
  refine ifS_of (ev_not (ev_tB (ev_call (v := .bl (Rises 39 (-1) xs)) (ev_cons (ev_var rfl) (ev_cons ev_c ev_nil)) (fun Q q => ⟨ph, xs, 39, rfl, hH, q⟩)))) (fun c => ⟨by decide, q2 ?_⟩) (fun c => q1 ?_)
  · simpa using c
  · simpa using c
theorem ok_checkPlaceX (D : HasDef K mg "check_place" s_check_place) (T : TxX K w mg cB cR cU cT) : CalleeX P w K mg base "check_place" 1 p_check_place (spCheckPlaceX cR) := by
  refine D.okX sc_check_place (fun _ _ _ _ _ _ us hl => match us, hl with | [_], _ => rfl) (fun vs H Q E h => ?_) (fun f cdv A outer s H vs Q E hr h => ?_)
  · obtain ⟨n, rfl, _⟩ := h
    rfl
  obtain ⟨n, rfl, q1, q2⟩ := h
  refine ⟨_, (pss_one (ps_if (PW.pt (pw_or (pt_cmpR op_lt (pv 0) pe_int (nomark _)) (pw_or1 (pt_cmpR op_gt (pv 0) (pe_globI T.GREATEST_PLACE) (nomark _))))) (pss_one (ps_raise raise1 rfl T.r_NoRow rfl (pa_cons pe_str pa_nil))) pss_nil)), ?_⟩
  rw [show start n_check_place [V.int n] = [some (V.int n)] from rfl]
  refine ifS_of (ev_or (ev_test (ev_i0 (ev_var rfl) ev_c)) (fun _ => ev_test (ev_i0 (ev_var rfl) ev_c))) (fun c => ⟨by decide, q2 ?_⟩) (fun c => q1 ?_)
  · rcases Bool.or_eq_true_iff.mp c with c | c <;> have c := of_decide_eq_true c <;> omega
  · rw [Bool.or_eq_false_iff] at c
    have c1 := of_decide_eq_false c.1
    have c2 := of_decide_eq_false c.2
    omega
theorem ok_checkBPX (D : HasDef K mg "check_board_place" s_check_board_place) (T : TxX K w mg cB cR cU cT) : CalleeX P w K mg base "check_board_place" 1 p_check_board_place (spCheckBPX cB) := by
  refine D.okX sc_check_board_place (fun _ _ _ _ _ _ us hl => match us, hl with | [_, _], _ => rfl) (fun vs H Q E h => ?_) (fun f cdv A outer s H vs Q E hr h => ?_)
  · obtain ⟨x, y, rfl, _⟩ := h
    rfl
  obtain ⟨x, y, rfl, q1, q2⟩ := h
  refine ⟨_, (pss_one (ps_if (PW.pt (pw_or (pt_cmpR op_lt (pv 0) pe_int (nomark _)) (pw_or (pt_cmpR op_gt (pv 0) (pe_globI T.GREATEST_BOARD_PLACE) (nomark _)) (pw_or (pt_cmpR op_lt (pv 1) pe_int (nomark _)) (pw_or1 (pt_cmpR op_gt (pv 1) (pe_globI T.GREATEST_BOARD_PLACE) (nomark _))))))) (pss_one (ps_raise raise1 rfl T.r_NoBoard rfl (pa_cons pe_str pa_nil))) pss_nil)), ?_⟩
  rw [show start n_check_board_place [V.int x, V.int y] = [some (V.int x), some (V.int y)] from rfl]
  refine ifS_of (ev_or (ev_test (ev_i0 (ev_var rfl) ev_c)) (fun _ => ev_or (ev_test (ev_i0 (ev_var rfl) ev_c)) (fun _ => ev_or (ev_test (ev_i0 (ev_var rfl) ev_c)) (fun _ => ev_test (ev_i0 (ev_var rfl) ev_c))))) (fun c => ⟨by decide, q2 ?_⟩) (fun c => q1 ?_)
  · simp only [Bool.or_eq_true, decide_eq_true_eq] at c
    omega
  · simp only [Bool.or_eq_false_iff, decide_eq_false_iff_not] at c
    omega
structure CnBx (P : Program) (w : World) (K : PySem.W.Frag) (mg : Str → Option Value) (base : Heap) (cB : Addr) : Prop where
  check_board_place : CalleeX P w K mg base "check_board_place" 1 p_check_board_place (spCheckBPX cB)
theorem ok_checkBoardX (D : HasDef K mg "check_board" s_check_board) (T : TxX K w mg cB cR cU cT) (C : CnBx P w K mg base cB) : CalleeX P w K mg base "check_board" 2 p_check_board (spCheckBoardX K cB) := by
  refine D.okX sc_check_board (fun _ _ _ _ _ _ us hl => match us, hl with | [_], _ => rfl) (fun vs H Q E h => ?_) (fun f cdv A outer s H vs Q E hr h => ?_)
  · obtain ⟨ph, ps, rs, rfl, _⟩ := h
    rfl
  obtain ⟨ph, ps, rs, rfl, hH, hB, q1, q2⟩ := h
  refine ⟨_, (pss_cons (ps_set (i := 1) sc_check_board.nd rfl (Or.inl rfl) (pe_tup (pa_cons (pe_un un_neg pe_int) (pa_cons (pe_un un_neg pe_int) pa_nil))))
    (pss_one (ps_for PassesOwn.leaving rfl (pi_list (pv 0)) (pg_tup rfl (pgs_cons (pg_name (i := 2) sc_check_board.nd rfl (Or.inl rfl)) (pgs_cons (pg_name (i := 3) sc_check_board.nd rfl (Or.inl rfl)) pgs_nil))) (pss_cons (ps_expr (pe_callX C.check_board_place pass1 hr (by omega) rfl (pa_cons (pv 2) (pa_cons (pv 3) pa_nil))))
    (pss_cons (ps_if (pt_cmpR (op_leT (Nat.lt_of_succ_lt (hu_of hr))) (pe_tup (pa_cons (pv 2) (pa_cons (pv 3) pa_nil))) (pv 1) (nomark _)) (pss_one (ps_raise raise1 rfl T.r_NoBoard rfl (pa_cons pe_str pa_nil))) pss_nil)
    (pss_one (ps_set (i := 1) sc_check_board.nd rfl (Or.inl rfl) (pe_tup (pa_cons (pv 2) (pa_cons (pv 3) pa_nil)))))))))), ?_⟩
  rw [show start n_check_board [V.ref ph] = [some (V.ref ph), none, none, none] from rfl]
  have two : ∀ a b : V, ([a, b] : List V).length ≤ sizeLine := fun a b => by show 2 ≤ sizeLine; decide
  refine seq_of (asgO_of (tup_of (ev_cons (ev_u ev_c) (ev_cons (ev_u ev_c) ev_nil)) (two _ _) fun t0 ht0 => ?_))
  dsimp only
  refine ⟨_, rfl, ph, rfl, ⟨_, (same_new ht0 _).seq hH⟩, ?_⟩
  refine for_list (xs := rs.map V.ref) (fun i σ H' => Same H H' ∧ ∃ (t : Addr) (a : Int × Int) (u v : Option V), SqT K H' t [.int a.1, .int a.2] ∧ RisesB (-1, -1) ps = RisesB a (ps.drop i) ∧ σ = [some (V.ref ph), some (V.ref t), u, v])
    ⟨same_new ht0 _, t0, (-1, -1), none, none, .inl (.inl upd_same), rfl, rfl⟩ ?_ ?_ ?_
  · rintro i σ H' _ ⟨sm, _⟩
    exact sm.seq hH
  · rintro i x σ H' hx ⟨sm, t, a, u, v, hs, hre, rfl⟩
    obtain ⟨p, r, hp, hr', rfl, hF⟩ := at_refs2 (hB.same sm) hx
    have hst : RisesB a (ps.drop i) = (if (p.1 < 0 ∨ p.1 > 15 ∨ p.2 < 0 ∨ p.2 > 15) ∨ HT.lexLe [p.1, p.2] [a.1, a.2] = true then false else RisesB p (ps.drop (i + 1))) := by
      obtain ⟨hi, e⟩ := List.getElem?_eq_some_iff.mp hp
      rw [List.drop_eq_getElem_cons hi, e]
      rfl
    refine ⟨r, _, rfl, hF, rfl, _, _, rfl, _, _, rfl, rfl, ?_⟩
    dsimp only [gName]
    refine seq_of ⟨_, rfl, _, rfl, p.1, p.2, rfl, fun ok => ?_, fun bad => q2 (by rw [hre, hst, if_pos (.inl bad)]) _ sm⟩
    dsimp only
    refine seq_of (ifO_of (opO_of (tup_of (ev_cons (ev_var rfl) (ev_cons (ev_var rfl) ev_nil)) (two _ _) fun t1 ht1 => ⟨_, rfl, t1, t, [p.1, p.2], [a.1, a.2], rfl, rfl, .inl (.inl upd_same), (same_new ht1 _).tup hs, _, rfl, ?_⟩)))
    cases hl : HT.lexLe [p.1, p.2] [a.1, a.2] with
    | true =>
      rw [if_pos rfl]
      exact ⟨by decide, q2 (by rw [hre, hst, if_pos (.inr hl)]) _ (sm.new ht1)⟩
    | false =>
      rw [if_neg (by decide)]
      refine next_of (asgO_of (tup_of (ev_cons (ev_var rfl) (ev_cons (ev_var rfl) ev_nil)) (two _ _) fun t2 ht2 => ?_))
      refine ⟨(sm.new ht1).new ht2, t2, p, some (V.int p.1), some (V.int p.2), .inl (.inl upd_same), ?_, rfl⟩
      rw [hre, hst, if_neg]
      rintro (z | z)
      · exact ok z
      · rw [hl] at z
        cases z
  · rintro σ H' ⟨sm, t, a, u, v, hs, hre, rfl⟩
    refine q1 ?_ _ sm
    rw [hre, List.length_map, ← Paired.length hB, List.drop_length]
    rfl
end
noncomputable abbrev s_fits : Stmt := top 20
noncomputable abbrev n_fits : List Str := ["rule", "places", "greatest"]
noncomputable abbrev p_fits : List Str := ["rule", "places", "greatest"]
theorem sc_fits : FnScope n_fits p_fits (defScope s_fits) := ⟨rfl, rfl, rfl, by decide +kernel, rfl, by decide +kernel, by decide +kernel⟩
noncomputable abbrev s_allows : Stmt := top 28
noncomputable abbrev n_allows : List Str := ["rule", "heads", "turn"]
noncomputable abbrev p_allows : List Str := ["rule", "heads", "turn"]
theorem sc_allows : FnScope n_allows p_allows (defScope s_allows) := ⟨rfl, rfl, rfl, by decide +kernel, rfl, by decide +kernel, by decide +kernel⟩
noncomputable abbrev s_after : Stmt := top 29
noncomputable abbrev n_after : List Str := ["rule", "heads", "turn"]
noncomputable abbrev p_after : List Str := ["rule", "heads", "turn"]
theorem sc_after : FnScope n_after p_after (defScope s_after) := ⟨rfl, rfl, rfl, by decide +kernel, rfl, by decide +kernel, by decide +kernel⟩
noncomputable abbrev s_board_allows : Stmt := top 41
noncomputable abbrev n_board_allows : List Str := ["rule_x", "rule_y", "heads", "xs", "ys"]
noncomputable abbrev p_board_allows : List Str := ["rule_x", "rule_y", "heads", "xs", "ys"]
theorem sc_board_allows : FnScope n_board_allows p_board_allows (defScope s_board_allows) := ⟨rfl, rfl, rfl, by decide +kernel, rfl, by decide +kernel, by decide +kernel⟩
noncomputable abbrev s_board_after : Stmt := top 42
noncomputable abbrev n_board_after : List Str := ["rule_x", "rule_y", "heads", "xs", "ys", "turned", "x"]
noncomputable abbrev p_board_after : List Str := ["rule_x", "rule_y", "heads", "xs", "ys"]
theorem sc_board_after : FnScope n_board_after p_board_after (defScope s_board_after) := ⟨rfl, rfl, rfl, by decide +kernel, rfl, by decide +kernel, by decide +kernel⟩
noncomputable def badRow (cU cR : Addr) (x : Str) (k : Int) (xs : List Int) (E : XK) (H : Hp) : Prop := (¬ okR x k ∧ E (.ref cU) none H) ∨ (okR x k ∧ Rises 39 (-1) xs = false ∧ E (.ref cR) none H)
noncomputable def badBrd (cU cB : Addr) (x : Str) (k : Int) (y : Str) (l : Int) (ps : List (Int × Int)) (E : XK) (H : Hp) : Prop := (¬ (okR x k ∧ okR y l) ∧ E (.ref cU) none H) ∨ (okR x k ∧ okR y l ∧ RisesB (-1, -1) ps = false ∧ ∀ H', Same H H' → E (.ref cB) none H')
theorem row_chk {K : PySem.W.Frag} {cU cR pr ph : Addr} {x : Str} {k : Int} {xs : List Int} {R : TS} {D : Ends} {σ : St} {H : Hp} {E : XK} (h0 : σ[0]? = some (some (.ref pr))) (h1 : σ[1]? = some (some (.ref ph))) (hR : SqT K H pr [.str x, .int k]) (hH : SqL K H ph (xs.map V.int))
    (h : badRow cU cR x k xs E H ∨ (okR x k ∧ Rises 39 (-1) xs = true ∧ R D σ H)) : tSeq (tDrop (tCall (spCheckRuleX K cU) [] E (tCons (tVar 0) tNil))) (tSeq (tDrop (tCall (spCheckRowX K cR) [] E (tCons (tVar 1) tNil))) R) D σ H := by
  rcases h with (⟨nb, e⟩ | ⟨ok, hr, e⟩) | ⟨ok, hr, q⟩
  · exact ⟨_, h0, pr, x, k, rfl, hR, fun ok => absurd ok nb, fun _ => e⟩
  · exact ⟨_, h0, pr, x, k, rfl, hR, fun _ => ⟨_, h1, ph, xs, rfl, hH, fun z => (by rw [hr] at z; cases z), fun _ => e⟩, fun nb => absurd ok nb⟩
  · exact ⟨_, h0, pr, x, k, rfl, hR, fun _ => ⟨_, h1, ph, xs, rfl, hH, fun _ => q, fun z => (by rw [hr] at z; cases z)⟩, fun nb => absurd ok nb⟩
theorem brd_chk {K : PySem.W.Frag} {cU cB px py ph : Addr} {x y : Str} {k l : Int} {ps : List (Int × Int)} {rs : List Addr} {R : TS} {D : Ends} {σ : St} {H : Hp} {E : XK} (h0 : σ[0]? = some (some (.ref px))) (h1 : σ[1]? = some (some (.ref py))) (h2 : σ[2]? = some (some (.ref ph)))
    (hX : SqT K H px [.str x, .int k]) (hY : SqT K H py [.str y, .int l]) (hH : SqL K H ph (rs.map V.ref)) (hB : BI K H ps rs)
    (h : badBrd cU cB x k y l ps E H ∨ (okR x k ∧ okR y l ∧ RisesB (-1, -1) ps = true ∧ ∀ H', Same H H' → R D σ H')) :
    tSeq (tDrop (tCall (spCheckRuleX K cU) [] E (tCons (tVar 0) tNil))) (tSeq (tDrop (tCall (spCheckRuleX K cU) [] E (tCons (tVar 1) tNil))) (tSeq (tDrop (tCall (spCheckBoardX K cB) [] E (tCons (tVar 2) tNil))) R)) D σ H := by
  rcases h with (⟨nb, e⟩ | ⟨ok, ok2, hr, e⟩) | ⟨ok, ok2, hr, q⟩
  · exact ⟨_, h0, px, x, k, rfl, hX, fun ok => ⟨_, h1, py, y, l, rfl, hY, fun ok2 => absurd ⟨ok, ok2⟩ nb, fun _ => e⟩, fun _ => e⟩
  · exact ⟨_, h0, px, x, k, rfl, hX, fun _ => ⟨_, h1, py, y, l, rfl, hY, fun _ => ⟨_, h2, ph, ps, rs, rfl, hH, hB, fun z => (by rw [hr] at z; cases z), fun _ => e⟩, fun nb => absurd ok2 nb⟩, fun nb => absurd ok nb⟩
  · exact ⟨_, h0, px, x, k, rfl, hX, fun _ => ⟨_, h1, py, y, l, rfl, hY, fun _ => ⟨_, h2, ph, ps, rs, rfl, hH, hB, fun _ => q, fun z => (by rw [hr] at z; cases z)⟩, fun nb => absurd ok2 nb⟩, fun nb => absurd ok nb⟩
noncomputable def spRowBad (K : PySem.W.Frag) (cU cR : Addr) : Sp := fun vs H Q E => ∃ (pr ph : Addr) (x : Str) (k : Int) (xs : List Int), vs = [.ref pr, .ref ph] ∧ SqT K H pr [.str x, .int k] ∧ SqL K H ph (xs.map V.int) ∧ badRow cU cR x k xs E H
noncomputable def spPlaceBad (K : PySem.W.Frag) (cU cR : Addr) : Sp := fun vs H Q E => ∃ (pr : Addr) (x : Str) (k n : Int), vs = [.ref pr, .int n] ∧ SqT K H pr [.str x, .int k] ∧ ((¬ okR x k ∧ E (.ref cU) none H) ∨ (okR x k ∧ ¬ (0 ≤ n ∧ n < 40) ∧ E (.ref cR) none H))
noncomputable def spBrdBad (K : PySem.W.Frag) (cU cB : Addr) : Sp := fun vs H Q E => ∃ (px py ph : Addr) (x : Str) (k : Int) (y : Str) (l : Int) (ps : List (Int × Int)) (rs : List Addr), vs = [.ref px, .ref py, .ref ph] ∧ SqT K H px [.str x, .int k] ∧ SqT K H py [.str y, .int l] ∧ SqL K H ph (rs.map V.ref) ∧ BI K H ps rs ∧ badBrd cU cB x k y l ps E H
noncomputable def spBPBad (K : PySem.W.Frag) (cU cB : Addr) : Sp := fun vs H Q E => ∃ (px py : Addr) (x : Str) (k : Int) (y : Str) (l a b : Int), vs = [.ref px, .ref py, .int a, .int b] ∧ SqT K H px [.str x, .int k] ∧ SqT K H py [.str y, .int l] ∧ ((¬ (okR x k ∧ okR y l) ∧ E (.ref cU) none H) ∨ (okR x k ∧ okR y l ∧ (a < 0 ∨ a > 15 ∨ b < 0 ∨ b > 15) ∧ E (.ref cB) none H))
noncomputable def spFitsNil (K : PySem.W.Frag) : Sp := fun vs H Q _ => ∃ (pr pt : Addr) (g : Int), vs = [.ref pr, .ref pt, .int g] ∧ SqL K H pt [] ∧ ∀ H', Same H H' → Q (.bl false) H'
noncomputable def spAllowsX (K : PySem.W.Frag) (cU cR : Addr) : Sp := fun vs H Q E => ∃ (pr ph pt : Addr) (x : Str) (k : Int) (xs : List Int), vs = [.ref pr, .ref ph, .ref pt] ∧ SqT K H pr [.str x, .int k] ∧ SqL K H ph (xs.map V.int) ∧ SqL K H pt [] ∧ (badRow cU cR x k xs E H ∨ (okR x k ∧ Rises 39 (-1) xs = true ∧ ∀ H', Same H H' → Q (.bl false) H'))
noncomputable def spAfterX (K : PySem.W.Frag) (cU cR cT : Addr) : Sp := fun vs H Q E => ∃ (pr ph pt : Addr) (x : Str) (k : Int) (xs : List Int), vs = [.ref pr, .ref ph, .ref pt] ∧ SqT K H pr [.str x, .int k] ∧ SqL K H ph (xs.map V.int) ∧ SqL K H pt [] ∧ (badRow cU cR x k xs E H ∨ (okR x k ∧ Rises 39 (-1) xs = true ∧ ∀ H', Same H H' → E (.ref cT) none H'))
noncomputable def spBAllowsX (K : PySem.W.Frag) (cU cB : Addr) : Sp := fun vs H Q E => ∃ (px py ph pa pb : Addr) (x : Str) (k : Int) (y : Str) (l : Int) (ps : List (Int × Int)) (rs : List Addr), vs = [.ref px, .ref py, .ref ph, .ref pa, .ref pb] ∧ SqT K H px [.str x, .int k] ∧ SqT K H py [.str y, .int l] ∧ SqL K H ph (rs.map V.ref) ∧ BI K H ps rs ∧ SqL K H pa [] ∧
  (badBrd cU cB x k y l ps E H ∨ (okR x k ∧ okR y l ∧ RisesB (-1, -1) ps = true ∧ ∀ H', Same H H' → Q (.bl false) H'))
noncomputable def spBAfterX (K : PySem.W.Frag) (cU cB cT : Addr) : Sp := fun vs H Q E => ∃ (px py ph pa pb : Addr) (x : Str) (k : Int) (y : Str) (l : Int) (ps : List (Int × Int)) (rs : List Addr), vs = [.ref px, .ref py, .ref ph, .ref pa, .ref pb] ∧ SqT K H px [.str x, .int k] ∧ SqT K H py [.str y, .int l] ∧ SqL K H ph (rs.map V.ref) ∧ BI K H ps rs ∧ SqL K H pa [] ∧
  (badBrd cU cB x k y l ps E H ∨ (okR x k ∧ okR y l ∧ RisesB (-1, -1) ps = true ∧ ∀ H', Same H H' → E (.ref cT) none H'))
structure Cck (P : Program) (w : World) (K : PySem.W.Frag) (mg : Str → Option Value) (base : Heap) (cU cR cB : Addr) : Prop where
  check_rule : CalleeX P w K mg base "check_rule" 1 p_check_rule (spCheckRuleX K cU)
  check_row : CalleeX P w K mg base "check_row" 2 p_check_row (spCheckRowX K cR)
  check_place : CalleeX P w K mg base "check_place" 1 p_check_place (spCheckPlaceX cR)
  check_board_place : CalleeX P w K mg base "check_board_place" 1 p_check_board_place (spCheckBPX cB)
  check_board : CalleeX P w K mg base "check_board" 2 p_check_board (spCheckBoardX K cB)
section
variable {P : Program} {w : World} {K : PySem.W.Frag} {mg : Str → Option Value} {base : Heap} {cB cR cU cT : Addr}
theorem ok_turnsX (D : HasDef K mg "turns" s_turns) (C : Cck P w K mg base cU cR cB) : CalleeD P w K mg base "turns" s_turns (CX1 P w) 3 p_turns (spRowBad K cU cR) := by
  refine D.okXD sc_turns (fun _ _ _ _ _ _ us hl => match us, hl with | [_, _], _ => rfl) (fun vs H Q E h => ?_) (fun f cdv A outer s H vs Q E hr h => ?_)
  · obtain ⟨pr, ph, x, k, xs, rfl, _⟩ := h
    rfl
  obtain ⟨pr, ph, x, k, xs, rfl, hR, hH, hb⟩ := h
  refine ⟨_, (pss_cons (ps_expr (pe_callX C.check_rule pass1 hr (by omega) rfl (pa_cons (pv 0) pa_nil)))
    (pss_cons (ps_expr (pe_callX C.check_row pass1 hr (by omega) rfl (pa_cons (pv 1) pa_nil)))
    pss_never)), ?_⟩
  rw [show start n_turns [V.ref pr, V.ref ph] = [some (V.ref pr), some (V.ref ph), none, none] from rfl]
  exact row_chk rfl rfl hR hH (.inl hb)
theorem ok_valueX (D : HasDef K mg "value" s_value) (C : Cck P w K mg base cU cR cB) : CalleeD P w K mg base "value" s_value (CX1 P w) 3 p_value (spRowBad K cU cR) := by
  refine D.okXD sc_value (fun _ _ _ _ _ _ us hl => match us, hl with | [_, _], _ => rfl) (fun vs H Q E h => ?_) (fun f cdv A outer s H vs Q E hr h => ?_)
  · obtain ⟨pr, ph, x, k, xs, rfl, _⟩ := h
    rfl
  obtain ⟨pr, ph, x, k, xs, rfl, hR, hH, hb⟩ := h
  refine ⟨_, (pss_cons (ps_expr (pe_callX C.check_rule pass1 hr (by omega) rfl (pa_cons (pv 0) pa_nil)))
    (pss_cons (ps_expr (pe_callX C.check_row pass1 hr (by omega) rfl (pa_cons (pv 1) pa_nil)))
    pss_never)), ?_⟩
  rw [show start n_value [V.ref pr, V.ref ph] = [some (V.ref pr), some (V.ref ph)] from rfl]
  exact row_chk rfl rfl hR hH (.inl hb)
structure CvX (P : Program) (w : World) (K : PySem.W.Frag) (mg : Str → Option Value) (base : Heap) (cU cR : Addr) : Prop where
  value : CalleeX P w K mg base "value" 3 p_value (spRowBad K cU cR)
theorem ok_replyX (D : HasDef K mg "reply" s_reply) (C : CvX P w K mg base cU cR) : CalleeD P w K mg base "reply" s_reply (CX1 P w) 4 p_reply (spRowBad K cU cR) := by
  refine D.okXD sc_reply (fun _ _ _ _ _ _ us hl => match us, hl with | [_, _], _ => rfl) (fun vs H Q E h => ?_) (fun f cdv A outer s H vs Q E hr h => ?_)
  · obtain ⟨pr, ph, x, k, xs, rfl, _⟩ := h
    rfl
  obtain ⟨pr, ph, x, k, xs, rfl, hR, hH, hb⟩ := h
  refine ⟨_, (pss_cons (ps_set (i := 2) sc_reply.nd rfl (Or.inl rfl) (pe_callX C.value pass1 hr (by omega) rfl (pa_cons (pv 0) (pa_cons (pv 1) pa_nil))))
    pss_never), ?_⟩
  rw [show start n_reply [V.ref pr, V.ref ph] = [some (V.ref pr), some (V.ref ph), none, none, none] from rfl]
  exact ⟨_, rfl, _, rfl, pr, ph, x, k, xs, rfl, hR, hH, hb⟩
theorem ok_numberOfX (D : HasDef K mg "number_of" s_number_of) (C : Cck P w K mg base cU cR cB) : CalleeD P w K mg base "number_of" s_number_of (CX1 P w) 3 p_number_of (spPlaceBad K cU cR) := by
  refine D.okXD sc_number_of (fun _ _ _ _ _ _ us hl => match us, hl with | [_, _], _ => rfl) (fun vs H Q E h => ?_) (fun f cdv A outer s H vs Q E hr h => ?_)
  · obtain ⟨pr, x, k, n, rfl, _⟩ := h
    rfl
  obtain ⟨pr, x, k, n, rfl, hR, hb⟩ := h
  refine ⟨_, (pss_cons (ps_expr (pe_callX C.check_rule pass1 hr (by omega) rfl (pa_cons (pv 0) pa_nil)))
    (pss_cons (ps_expr (pe_callX C.check_place pass1 hr (by omega) rfl (pa_cons (pv 1) pa_nil)))
    pss_never)), ?_⟩
  rw [show start n_number_of [V.ref pr, V.int n] = [some (V.ref pr), some (V.int n)] from rfl]
  rcases hb with ⟨nb, e⟩ | ⟨ok, hr, e⟩
  · exact ⟨_, rfl, pr, x, k, rfl, hR, fun ok => absurd ok nb, fun _ => e⟩
  · exact ⟨_, rfl, pr, x, k, rfl, hR, fun _ => ⟨_, rfl, n, rfl, fun z => absurd z hr, fun _ => e⟩, fun nb => absurd ok nb⟩
theorem ok_boardValueX (D : HasDef K mg "board_value" s_board_value) (C : Cck P w K mg base cU cR cB) : CalleeD P w K mg base "board_value" s_board_value (CX1 P w) 3 p_board_value (spBrdBad K cU cB) := by
  refine D.okXD sc_board_value (fun _ _ _ _ _ _ us hl => match us, hl with | [_, _, _], _ => rfl) (fun vs H Q E h => ?_) (fun f cdv A outer s H vs Q E hr h => ?_)
  · obtain ⟨px, py, ph, x, k, y, l, ps, rs, rfl, _⟩ := h
    rfl
  obtain ⟨px, py, ph, x, k, y, l, ps, rs, rfl, hX, hY, hH, hB, hb⟩ := h
  refine ⟨_, (pss_cons (ps_expr (pe_callX C.check_rule pass1 hr (by omega) rfl (pa_cons (pv 0) pa_nil)))
    (pss_cons (ps_expr (pe_callX C.check_rule pass1 hr (by omega) rfl (pa_cons (pv 1) pa_nil)))
    (pss_cons (ps_expr (pe_callX C.check_board pass1 hr (by omega) rfl (pa_cons (pv 2) pa_nil)))
    pss_never))), ?_⟩
  rw [show start n_board_value [V.ref px, V.ref py, V.ref ph] = [some (V.ref px), some (V.ref py), some (V.ref ph), none, none, none] from rfl]
  exact brd_chk rfl rfl rfl hX hY hH hB (.inl hb)
structure CbvX (P : Program) (w : World) (K : PySem.W.Frag) (mg : Str → Option Value) (base : Heap) (cU cB : Addr) : Prop where
  board_value : CalleeX P w K mg base "board_value" 3 p_board_value (spBrdBad K cU cB)
theorem ok_boardReplyX (D : HasDef K mg "board_reply" s_board_reply) (C : CbvX P w K mg base cU cB) : CalleeD P w K mg base "board_reply" s_board_reply (CX1 P w) 4 p_board_reply (spBrdBad K cU cB) := by
  refine D.okXD sc_board_reply (fun _ _ _ _ _ _ us hl => match us, hl with | [_, _, _], _ => rfl) (fun vs H Q E h => ?_) (fun f cdv A outer s H vs Q E hr h => ?_)
  · obtain ⟨px, py, ph, x, k, y, l, ps, rs, rfl, _⟩ := h
    rfl
  obtain ⟨px, py, ph, x, k, y, l, ps, rs, rfl, hX, hY, hH, hB, hb⟩ := h
  refine ⟨_, (pss_cons (ps_set (i := 3) sc_board_reply.nd rfl (Or.inl rfl) (pe_callX C.board_value pass1 hr (by omega) rfl (pa_cons (pv 0) (pa_cons (pv 1) (pa_cons (pv 2) pa_nil)))))
    pss_never), ?_⟩
  rw [show start n_board_reply [V.ref px, V.ref py, V.ref ph] = [some (V.ref px), some (V.ref py), some (V.ref ph), none, none, none, none, none] from rfl]
  exact ⟨_, rfl, _, rfl, _, rfl, px, py, ph, x, k, y, l, ps, rs, rfl, hX, hY, hH, hB, hb⟩
theorem ok_boardNumberX (D : HasDef K mg "board_number" s_board_number) (C : Cck P w K mg base cU cR cB) : CalleeD P w K mg base "board_number" s_board_number (CX1 P w) 3 p_board_number (spBPBad K cU cB) := by
  refine D.okXD sc_board_number (fun _ _ _ _ _ _ us hl => match us, hl with | [_, _, _, _], _ => rfl) (fun vs H Q E h => ?_) (fun f cdv A outer s H vs Q E hr h => ?_)
  · obtain ⟨px, py, x, k, y, l, a, b, rfl, _⟩ := h
    rfl
  obtain ⟨px, py, x, k, y, l, a, b, rfl, hX, hY, hb⟩ := h
  refine ⟨_, (pss_cons (ps_expr (pe_callX C.check_rule pass1 hr (by omega) rfl (pa_cons (pv 0) pa_nil)))
    (pss_cons (ps_expr (pe_callX C.check_rule pass1 hr (by omega) rfl (pa_cons (pv 1) pa_nil)))
    (pss_cons (ps_expr (pe_callX C.check_board_place pass1 hr (by omega) rfl (pa_cons (pv 2) (pa_cons (pv 3) pa_nil))))
    pss_never))), ?_⟩
  rw [show start n_board_number [V.ref px, V.ref py, V.int a, V.int b] = [some (V.ref px), some (V.ref py), some (V.int a), some (V.int b)] from rfl]
  rcases hb with ⟨nb, e⟩ | ⟨ok, ok2, hr, e⟩
  · exact ⟨_, rfl, px, x, k, rfl, hX, fun ok => ⟨_, rfl, py, y, l, rfl, hY, fun ok2 => absurd ⟨ok, ok2⟩ nb, fun _ => e⟩, fun _ => e⟩
  · exact ⟨_, rfl, px, x, k, rfl, hX, fun _ => ⟨_, rfl, py, y, l, rfl, hY, fun _ => ⟨_, rfl, _, rfl, a, b, rfl, fun z => absurd hr z, fun _ => e⟩, fun nb => absurd ok2 nb⟩, fun nb => absurd ok nb⟩
structure CnFt (P : Program) (w : World) (K : PySem.W.Frag) (mg : Str → Option Value) (base : Heap) : Prop where
  rises : Callee P w K mg base "rises" 1 p_rises (spRises K)
theorem ok_fitsNil (D : HasDef K mg "fits" s_fits) (C : CnFt P w K mg base) : Callee P w K mg base "fits" 2 p_fits (spFitsNil K) := by
  refine D.ok sc_fits (fun _ _ _ _ _ _ us hl => match us, hl with | [_, _, _], _ => rfl) (fun vs H Q E h => ?_) (fun f cdv A outer s H vs Q E hr h => ?_)
  · obtain ⟨pr, pt, g, rfl, _⟩ := h
    rfl
  obtain ⟨pr, pt, g, rfl, hT, q⟩ := h
  refine ⟨_, (pss_cons (ps_if (PW.pt (pw_or (pt_cmpR (op_eqD (n := 0) hr (by decide)) (pv 1) (pe_lst pa_nil) (nomark _)) (pw_or1 (pt_not (pt_val (pe_callC C.rises hr (by omega) rfl (pa_cons (pv 1) (pa_cons (pv 2) pa_nil)))))))) (pss_one (ps_ret pe_bl)) pss_nil)
    pss_never), ?_⟩
  rw [show start n_fits [V.ref pr, V.ref pt, V.int g] = [some (V.ref pr), some (V.ref pt), some (V.int g)] from rfl]
  refine ⟨_, rfl, by decide, fun p hp => ⟨false, [], [], dat_list (xs := []) ((same_new hp _).seq hT), dat_list (xs := []) (.of upd_same), fun b hb => ⟨b, rfl, ?_⟩⟩⟩
  rw [hb.mpr rfl]
  exact q _ (same_new hp _)
structure CnAl (P : Program) (w : World) (K : PySem.W.Frag) (mg : Str → Option Value) (base : Heap) (cU cR cB : Addr) : Prop extends Cck P w K mg base cU cR cB where
  fits : Callee P w K mg base "fits" 2 p_fits (spFitsNil K)
theorem ok_allowsX (D : HasDef K mg "allows" s_allows) (T : TxX K w mg cB cR cU cT) (C : CnAl P w K mg base cU cR cB) : CalleeX P w K mg base "allows" 3 p_allows (spAllowsX K cU cR) := by
  refine D.okX sc_allows (fun _ _ _ _ _ _ us hl => match us, hl with | [_, _, _], _ => rfl) (fun vs H Q E h => ?_) (fun f cdv A outer s H vs Q E hr h => ?_)
  · obtain ⟨pr, ph, pt, x, k, xs, rfl, _⟩ := h
    rfl
  obtain ⟨pr, ph, pt, x, k, xs, rfl, hR, hH, hT, hb⟩ := h
  refine ⟨_, (pss_cons (ps_expr (pe_callX C.check_rule pass1 hr (by omega) rfl (pa_cons (pv 0) pa_nil)))
    (pss_cons (ps_expr (pe_callX C.check_row pass1 hr (by omega) rfl (pa_cons (pv 1) pa_nil)))
    (pss_one (ps_ret (pe_and (pe_callC C.fits hr (by omega) rfl (pa_cons (pv 0) (pa_cons (pv 2) (pa_cons (pe_globI T.GREATEST_PLACE) pa_nil)))) (pe_one (pe_cmpR op_in_seq (pe_ix ix_list (pv 2) (pe_un un_neg pe_int) (fun _ _ => rfl)) (pv 1) rfl))))))), ?_⟩
  rw [show start n_allows [V.ref pr, V.ref ph, V.ref pt] = [some (V.ref pr), some (V.ref ph), some (V.ref pt)] from rfl]
  refine row_chk rfl rfl hR hH (hb.imp_right fun ⟨h1, h2, q⟩ => ⟨h1, h2, ?_⟩)
  refine retO_of (call_of (ev_cons (ev_var rfl) (ev_cons (ev_var rfl) (ev_cons ev_c ev_nil))) ⟨pr, pt, 39, rfl, hT, fun H' sm => ⟨false, rfl, ?_⟩⟩)
  exact q _ sm
structure CnAf (P : Program) (w : World) (K : PySem.W.Frag) (mg : Str → Option Value) (base : Heap) (cU cR : Addr) : Prop where
  allows : CalleeX P w K mg base "allows" 3 p_allows (spAllowsX K cU cR)
theorem ok_afterX (D : HasDef K mg "after" s_after) (T : TxX K w mg cB cR cU cT) (C : CnAf P w K mg base cU cR) : CalleeX P w K mg base "after" 4 p_after (spAfterX K cU cR cT) := by
  refine D.okX sc_after (fun _ _ _ _ _ _ us hl => match us, hl with | [_, _, _], _ => rfl) (fun vs H Q E h => ?_) (fun f cdv A outer s H vs Q E hr h => ?_)
  · obtain ⟨pr, ph, pt, x, k, xs, rfl, _⟩ := h
    rfl
  obtain ⟨pr, ph, pt, x, k, xs, rfl, hR, hH, hT, hb⟩ := h
  refine ⟨_, (pss_cons (ps_if (pt_not (pt_val (pe_callX C.allows pass1 hr (by omega) rfl (pa_cons (pv 0) (pa_cons (pv 1) (pa_cons (pv 2) pa_nil)))))) (pss_one (ps_raise raise1 rfl T.r_NoTurn rfl (pa_cons pe_str pa_nil))) pss_nil)
    pss_never), ?_⟩
  rw [show start n_after [V.ref pr, V.ref ph, V.ref pt] = [some (V.ref pr), some (V.ref ph), some (V.ref pt)] from rfl]
  refine ⟨_, rfl, _, rfl, _, rfl, pr, ph, pt, x, k, xs, rfl, hR, hH, hT, hb.imp_right fun ⟨h1, h2, q⟩ => ⟨h1, h2, fun H' sm => ⟨false, rfl, ?_⟩⟩⟩
  exact ⟨by decide, q _ sm⟩
theorem ok_boardAllowsX (D : HasDef K mg "board_allows" s_board_allows) (T : TxX K w mg cB cR cU cT) (C : CnAl P w K mg base cU cR cB) : CalleeX P w K mg base "board_allows" 3 p_board_allows (spBAllowsX K cU cB) := by
  refine D.okX sc_board_allows (fun _ _ _ _ _ _ us hl => match us, hl with | [_, _, _, _, _], _ => rfl) (fun vs H Q E h => ?_) (fun f cdv A outer s H vs Q E hr h => ?_)
  · obtain ⟨px, py, ph, pa, pb, x, k, y, l, ps, rs, rfl, _⟩ := h
    rfl
  obtain ⟨px, py, ph, pa, pb, x, k, y, l, ps, rs, rfl, hX, hY, hH, hB, hA, hb⟩ := h
  refine ⟨_, (pss_cons (ps_expr (pe_callX C.check_rule pass1 hr (by omega) rfl (pa_cons (pv 0) pa_nil)))
    (pss_cons (ps_expr (pe_callX C.check_rule pass1 hr (by omega) rfl (pa_cons (pv 1) pa_nil)))
    (pss_cons (ps_expr (pe_callX C.check_board pass1 hr (by omega) rfl (pa_cons (pv 2) pa_nil)))
    (pss_cons (ps_if (PW.pt (pw_or (pt_not (pt_val (pe_callC C.fits hr (by omega) rfl (pa_cons (pv 0) (pa_cons (pv 3) (pa_cons (pe_globI T.GREATEST_BOARD_PLACE) pa_nil)))))) (pw_or1 (pt_not (pt_val (pe_callC C.fits hr (by omega) rfl (pa_cons (pv 1) (pa_cons (pv 4) (pa_cons (pe_globI T.GREATEST_BOARD_PLACE) pa_nil))))))))) (pss_one (ps_ret pe_bl)) pss_nil)
    pss_never)))), ?_⟩
  rw [show start n_board_allows [V.ref px, V.ref py, V.ref ph, V.ref pa, V.ref pb] = [some (V.ref px), some (V.ref py), some (V.ref ph), some (V.ref pa), some (V.ref pb)] from rfl]
  refine brd_chk rfl rfl rfl hX hY hH hB (hb.imp_right fun ⟨h1, h2, h3, q⟩ => ⟨h1, h2, h3, fun H' sm => ?_⟩)
  refine ⟨_, rfl, _, rfl, px, pa, 15, rfl, sm.seq hA, fun H2 sm2 => ⟨false, rfl, ?_⟩⟩
  exact q _ (sm.trans sm2)
structure CnBa (P : Program) (w : World) (K : PySem.W.Frag) (mg : Str → Option Value) (base : Heap) (cU cB : Addr) : Prop where
  board_allows : CalleeX P w K mg base "board_allows" 3 p_board_allows (spBAllowsX K cU cB)
theorem ok_boardAfterX (D : HasDef K mg "board_after" s_board_after) (T : TxX K w mg cB cR cU cT) (C : CnBa P w K mg base cU cB) : CalleeX P w K mg base "board_after" 4 p_board_after (spBAfterX K cU cB cT) := by
  refine D.okX sc_board_after (fun _ _ _ _ _ _ us hl => match us, hl with | [_, _, _, _, _], _ => rfl) (fun vs H Q E h => ?_) (fun f cdv A outer s H vs Q E hr h => ?_)
  · obtain ⟨px, py, ph, pa, pb, x, k, y, l, ps, rs, rfl, _⟩ := h
    rfl
  obtain ⟨px, py, ph, pa, pb, x, k, y, l, ps, rs, rfl, hX, hY, hH, hB, hA, hb⟩ := h
  refine ⟨_, (pss_cons (ps_if (pt_not (pt_val (pe_callX C.board_allows pass1 hr (by omega) rfl (pa_cons (pv 0) (pa_cons (pv 1) (pa_cons (pv 2) (pa_cons (pv 3) (pa_cons (pv 4) pa_nil)))))))) (pss_one (ps_raise raise1 rfl T.r_NoTurn rfl (pa_cons pe_str pa_nil))) pss_nil)
    pss_never), ?_⟩
  rw [show start n_board_after [V.ref px, V.ref py, V.ref ph, V.ref pa, V.ref pb] = [some (V.ref px), some (V.ref py), some (V.ref ph), some (V.ref pa), some (V.ref pb), none, none] from rfl]
  refine ⟨_, rfl, _, rfl, _, rfl, _, rfl, _, rfl, px, py, ph, pa, pb, x, k, y, l, ps, rs, rfl, hX, hY, hH, hB, hA, hb.imp_right fun ⟨h1, h2, h3, q⟩ => ⟨h1, h2, h3, fun H' sm => ⟨false, rfl, ?_⟩⟩⟩
  exact ⟨by decide, q _ sm⟩
end
noncomputable abbrev s_law_called : Stmt := top 56
noncomputable abbrev n_law_called : List Str := ["which", "rules", "given"]
noncomputable abbrev p_law_called : List Str := ["which", "rules", "given"]
theorem sc_law_called : FnScope n_law_called p_law_called (defScope s_law_called) := ⟨rfl, rfl, rfl, by decide +kernel, rfl, by decide +kernel, by decide +kernel⟩
noncomputable def outc (cU cR cB cT : Addr) (o : Option Nat) (H : Hp) (Q : VK) (E : XK) : Prop := match o with
  | none => ∀ v H', Same H H' → Q v H'
  | some 0 => ∀ H', Same H H' → E (.ref cU) none H'
  | some 1 => ∀ H', Same H H' → E (.ref cR) none H'
  | some 2 => ∀ H', Same H H' → E (.ref cB) none H'
  | some _ => ∀ H', Same H H' → E (.ref cT) none H'
theorem outc.same {cU cR cB cT : Addr} {o : Option Nat} {H H1 : Hp} {Q : VK} {E : XK} (h : outc cU cR cB cT o H Q E) (s : Same H H1) : outc cU cR cB cT o H1 Q E := by
  match o with
  | none => exact fun v H' s' => h v H' (s.trans s')
  | some 0 => exact fun H' s' => h H' (s.trans s')
  | some 1 => exact fun H' s' => h H' (s.trans s')
  | some 2 => exact fun H' s' => h H' (s.trans s')
  | some (n + 3) => exact fun H' s' => h H' (s.trans s')
noncomputable def DueRow (n : Nat) (x : Str) (k : Int) (bad : Bool) (o : Option Nat) : Prop := (¬ okR x k ∧ o = some 0) ∨ (okR x k ∧ bad = true ∧ o = some 1) ∨ (okR x k ∧ bad = false ∧ o = if n = 2 then some 3 else none)
noncomputable def DueBrd (n : Nat) (x : Str) (k : Int) (y : Str) (l : Int) (bad : Bool) (o : Option Nat) : Prop := (¬ (okR x k ∧ okR y l) ∧ o = some 0) ∨ (okR x k ∧ okR y l ∧ bad = true ∧ o = some 2) ∨ (okR x k ∧ okR y l ∧ bad = false ∧ o = if n = 7 then some 3 else none)
noncomputable def Given (K : PySem.W.Frag) (H : Hp) (n : Nat) (pg : Addr) (x : Str) (k : Int) (y : Str) (l : Int) (o : Option Nat) : Prop :=
  (n < 5 ∧ ∃ xs : List Int, SqL K H pg (xs.map V.int) ∧ DueRow n x k (!Rises 39 (-1) xs) o) ∨
  (n = 5 ∧ ∃ (xs : List Int) (a : Int), SqL K H pg (xs.map V.int) ∧ atI (xs.map V.int) (-1) = some (.int a) ∧ DueRow n x k (!decide (0 ≤ a ∧ a < 40)) o) ∨
  (6 ≤ n ∧ n ≤ 9 ∧ ∃ (ps : List (Int × Int)) (rs : List Addr), SqL K H pg (rs.map V.ref) ∧ BI K H ps rs ∧ DueBrd n x k y l (!RisesB (-1, -1) ps) o) ∨
  (n = 10 ∧ ∃ (rs : List Addr) (r : Addr) (a b : Int), SqL K H pg (rs.map V.ref) ∧ atI (rs.map V.ref) (-1) = some (.ref r) ∧ SqT K H r [.int a, .int b] ∧ DueBrd n x k y l (decide (a < 0 ∨ a > 15 ∨ b < 0 ∨ b > 15)) o)
noncomputable def spCalled (K : PySem.W.Frag) (cU cR cB cT : Addr) : Sp := fun vs H Q E => ∃ (n : Nat) (pl px py pg : Addr) (x : Str) (k : Int) (y : Str) (l : Int) (o : Option Nat), vs = [.int (n : Int), .ref pl, .ref pg] ∧ SqL K H pl [.ref px, .ref py] ∧ SqT K H px [.str x, .int k] ∧ SqT K H py [.str y, .int l] ∧ Given K H n pg x k y l o ∧ outc cU cR cB cT o H Q E
structure Cel (P : Program) (w : World) (K : PySem.W.Frag) (mg : Str → Option Value) (base : Heap) (cU cR cB cT : Addr) : Prop where
  turns : CalleeX P w K mg base "turns" 20 p_turns (fun vs H Q E => spTurns K vs H Q E ∨ spRowBad K cU cR vs H Q E)
  allows : CalleeX P w K mg base "allows" 3 p_allows (spAllowsX K cU cR)
  after : CalleeX P w K mg base "after" 4 p_after (spAfterX K cU cR cT)
  value : CalleeX P w K mg base "value" 15 p_value (fun vs H Q E => spValue K vs H Q E ∨ spRowBad K cU cR vs H Q E)
  reply : CalleeX P w K mg base "reply" 20 p_reply (fun vs H Q E => spReply K vs H Q E ∨ spRowBad K cU cR vs H Q E)
  number_of : CalleeX P w K mg base "number_of" 5 p_number_of (fun vs H Q E => spNumberOf K vs H Q E ∨ spPlaceBad K cU cR vs H Q E)
  board_allows : CalleeX P w K mg base "board_allows" 3 p_board_allows (spBAllowsX K cU cB)
  board_after : CalleeX P w K mg base "board_after" 4 p_board_after (spBAfterX K cU cB cT)
  board_value : CalleeX P w K mg base "board_value" 8 p_board_value (fun vs H Q E => spBoardValue K vs H Q E ∨ spBrdBad K cU cB vs H Q E)
  board_reply : CalleeX P w K mg base "board_reply" 20 p_board_reply (fun vs H Q E => spBoardReply K vs H Q E ∨ spBrdBad K cU cB vs H Q E)
  board_number : CalleeX P w K mg base "board_number" 7 p_board_number (fun vs H Q E => spBoardNumber K vs H Q E ∨ spBPBad K cU cB vs H Q E)
theorem row_split {K : PySem.W.Frag} {cU cR cB cT pg pr : Addr} {n : Nat} {x : Str} {k : Int} {xs : List Int} {o : Option Nat} {H : Hp} {Q : VK} {E : XK} (hR : SqT K H pr [.str x, .int k]) (hG : SqL K H pg (xs.map V.int)) (hd : DueRow n x k (!Rises 39 (-1) xs) o) (q : outc cU cR cB cT o H Q E) :
    badRow cU cR x k xs E H ∨ (okR x k ∧ Rises 39 (-1) xs = true ∧ o = (if n = 2 then some 3 else none) ∧ ∃ (r : Row.Rule) (hs : List Nat), SqT K H pr (ruleV r) ∧ Row.Good r ∧ SqL K H pg (nl hs) ∧ Row.IsRow hs) := by
  rcases hd with ⟨nb, rfl⟩ | ⟨ok, hb, rfl⟩ | ⟨ok, hb, e⟩
  · exact .inl (.inl ⟨nb, q _ (Same.refl H)⟩)
  · exact .inl (.inr ⟨ok, by simpa using hb, q _ (Same.refl H)⟩)
  · have hb : Rises 39 (-1) xs = true := by simpa using hb
    obtain ⟨r, hg, er⟩ := okR_rule ok
    obtain ⟨hs, rfl, so, hl⟩ := rises_is (by decide) hb
    exact .inr ⟨ok, hb, e, r, hs, by rw [er]; exact hR, hg, by rw [nl_ni]; exact hG, ⟨so, fun a ha => by have := hl a ha; omega⟩⟩
theorem brd_split {K : PySem.W.Frag} {cU cR cB cT px py : Addr} {n : Nat} {x : Str} {k : Int} {y : Str} {l : Int} {ps : List (Int × Int)} {rs : List Addr} {o : Option Nat} {H : Hp} {Q : VK} {E : XK} (hX : SqT K H px [.str x, .int k]) (hY : SqT K H py [.str y, .int l]) (hB : BI K H ps rs) (hd : DueBrd n x k y l (!RisesB (-1, -1) ps) o) (q : outc cU cR cB cT o H Q E) :
    badBrd cU cB x k y l ps E H ∨ (okR x k ∧ okR y l ∧ RisesB (-1, -1) ps = true ∧ o = (if n = 7 then some 3 else none) ∧ ∃ (rx ry : Row.Rule) (qs : List (Nat × Nat)), SqT K H px (ruleV rx) ∧ SqT K H py (ruleV ry) ∧ Row.Good rx ∧ Row.Good ry ∧ BL K H qs rs ∧ Row.IsBoard qs) := by
  rcases hd with ⟨nb, rfl⟩ | ⟨ok, ok2, hb, rfl⟩ | ⟨ok, ok2, hb, e⟩
  · exact .inl (.inl ⟨nb, q _ (Same.refl H)⟩)
  · exact .inl (.inr ⟨ok, ok2, by simpa using hb, q⟩)
  · have hb : RisesB (-1, -1) ps = true := by simpa using hb
    obtain ⟨r, hg, er⟩ := okR_rule ok
    obtain ⟨r2, hg2, er2⟩ := okR_rule ok2
    obtain ⟨qs, rfl, so, hl, _⟩ := risesB_is hb
    exact .inr ⟨ok, ok2, hb, e, r, r2, qs, by rw [er]; exact hX, by rw [er2]; exact hY, hg, hg2, hB.bl, ⟨so, hl⟩⟩
section
variable {P : Program} {w : World} {K : PySem.W.Frag} {mg : Str → Option Value} {base : Heap} {cB cR cU cT : Addr}
set_option pp.deepTerms true in
theorem ok_called (D : HasDef K mg "_law_called" s_law_called) (C : Cel P w K mg base cU cR cB cT) : CalleeX P w K mg base "_law_called" 21 p_law_called (spCalled K cU cR cB cT) := by
  refine D.okX sc_law_called (fun _ _ _ _ _ _ us hl => match us, hl with | [_, _, _], _ => rfl) (fun vs H Q E h => ?_) (fun f cdv A outer s H vs Q E hr h => ?_)
  · obtain ⟨n, pl, px, py, pg, x, k, y, l, o, rfl, _⟩ := h
    rfl
  obtain ⟨n, pl, px, py, pg, x, k, y, l, o, rfl, hL, hX, hY, hG, q⟩ := h
  refine ⟨_, (pss_cons (ps_if (pt_cmpR op_eq (pv 0) pe_int (nomark _)) (pss_one (ps_ret (pe_callX C.turns pass1 hr (by omega) rfl (pa_cons (pe_ix ix_list (pv 1) pe_int (fun _ _ => rfl)) (pa_cons (pv 2) pa_nil))))) pss_nil)
    (pss_cons (ps_if (pt_cmpR op_eq (pv 0) pe_int (nomark _)) (pss_one (ps_ret (pe_callX C.allows pass1 hr (by omega) rfl (pa_cons (pe_ix ix_list (pv 1) pe_int (fun _ _ => rfl)) (pa_cons (pv 2) (pa_cons (pe_lst pa_nil) pa_nil)))))) pss_nil)
    (pss_cons (ps_if (pt_cmpR op_eq (pv 0) pe_int (nomark _)) (pss_one (ps_ret (pe_callX C.after pass1 hr (by omega) rfl (pa_cons (pe_ix ix_list (pv 1) pe_int (fun _ _ => rfl)) (pa_cons (pv 2) (pa_cons (pe_lst pa_nil) pa_nil)))))) pss_nil)
    (pss_cons (ps_if (pt_cmpR op_eq (pv 0) pe_int (nomark _)) (pss_one (ps_ret (pe_callX C.value pass1 hr (by omega) rfl (pa_cons (pe_ix ix_list (pv 1) pe_int (fun _ _ => rfl)) (pa_cons (pv 2) pa_nil))))) pss_nil)
    (pss_cons (ps_if (pt_cmpR op_eq (pv 0) pe_int (nomark _)) (pss_one (ps_ret (pe_callX C.reply pass1 hr (by omega) rfl (pa_cons (pe_ix ix_list (pv 1) pe_int (fun _ _ => rfl)) (pa_cons (pv 2) pa_nil))))) pss_nil)
    (pss_cons (ps_if (pt_cmpR op_eq (pv 0) pe_int (nomark _)) (pss_one (ps_ret (pe_callX C.number_of pass1 hr (by omega) rfl (pa_cons (pe_ix ix_list (pv 1) pe_int (fun _ _ => rfl)) (pa_cons (pe_ix ix_list (pv 2) (pe_un un_neg pe_int) (fun _ _ => rfl)) pa_nil))))) pss_nil)
    (pss_cons (ps_if (pt_cmpR op_eq (pv 0) pe_int (nomark _)) (pss_one (ps_ret (pe_callX C.board_allows pass1 hr (by omega) rfl (pa_cons (pe_ix ix_list (pv 1) pe_int (fun _ _ => rfl)) (pa_cons (pe_ix ix_list (pv 1) pe_int (fun _ _ => rfl)) (pa_cons (pv 2) (pa_cons (pe_lst pa_nil) (pa_cons (pe_lst pa_nil) pa_nil)))))))) pss_nil)
    (pss_cons (ps_if (pt_cmpR op_eq (pv 0) pe_int (nomark _)) (pss_one (ps_ret (pe_callX C.board_after pass1 hr (by omega) rfl (pa_cons (pe_ix ix_list (pv 1) pe_int (fun _ _ => rfl)) (pa_cons (pe_ix ix_list (pv 1) pe_int (fun _ _ => rfl)) (pa_cons (pv 2) (pa_cons (pe_lst pa_nil) (pa_cons (pe_lst pa_nil) pa_nil)))))))) pss_nil)
    (pss_cons (ps_if (pt_cmpR op_eq (pv 0) pe_int (nomark _)) (pss_one (ps_ret (pe_callX C.board_value pass1 hr (by omega) rfl (pa_cons (pe_ix ix_list (pv 1) pe_int (fun _ _ => rfl)) (pa_cons (pe_ix ix_list (pv 1) pe_int (fun _ _ => rfl)) (pa_cons (pv 2) pa_nil)))))) pss_nil)
    (pss_cons (ps_if (pt_cmpR op_eq (pv 0) pe_int (nomark _)) (pss_one (ps_ret (pe_callX C.board_reply pass1 hr (by omega) rfl (pa_cons (pe_ix ix_list (pv 1) pe_int (fun _ _ => rfl)) (pa_cons (pe_ix ix_list (pv 1) pe_int (fun _ _ => rfl)) (pa_cons (pv 2) pa_nil)))))) pss_nil)
    (pss_one (ps_ret (pe_callX C.board_number pass1 hr (by omega) rfl (pa_cons (pe_ix ix_list (pv 1) pe_int (fun _ _ => rfl)) (pa_cons (pe_ix ix_list (pv 1) pe_int (fun _ _ => rfl)) (pa_cons (pe_ix ix_tup (pe_ix ix_list (pv 2) (pe_un un_neg pe_int) (fun _ _ => rfl)) pe_int (fun _ _ => rfl)) (pa_cons (pe_ix ix_tup (pe_ix ix_list (pv 2) (pe_un un_neg pe_int) (fun _ _ => rfl)) pe_int (fun _ _ => rfl)) pa_nil))))))))))))))))), ?_⟩
  rw [show start n_law_called [V.int n, V.ref pl, V.ref pg] = [some (V.int n), some (V.ref pl), some (V.ref pg)] from rfl]
  have i0 : EvE (tOp (rIxL K) (tVar 1) (tC (V.int 0))) [some (V.int (n : Int)), some (V.ref pl), some (V.ref pg)] H (.ref px) := ev_ixL (ev_var rfl) ev_c hL rfl
  have i1 : EvE (tOp (rIxL K) (tVar 1) (tC (V.int 1))) [some (V.int (n : Int)), some (V.ref pl), some (V.ref pg)] H (.ref py) := ev_ixL (ev_var rfl) ev_c hL rfl
  refine seq_of (ifS_of (ev_test (ev_eqI (ev_var rfl) ev_c)) (fun c => ?_) fun c => next_of ?_)
  · have c : (n : Int) = 0 := of_decide_eq_true c
    obtain ⟨xs, hg, hd⟩ : ∃ xs : List Int, SqL K H pg (xs.map V.int) ∧ DueRow n x k (!Rises 39 (-1) xs) o := by
      rcases hG with ⟨_, h⟩ | ⟨z, _⟩ | ⟨z, _⟩ | ⟨z, _⟩
      · exact h
      all_goals omega
    rcases row_split hX hg hd q with hb | ⟨ok, ri, ho, r, hs, h1, h2, h3, h4⟩
    · exact retO_of (call_of (ev_cons i0 (ev_cons (ev_var rfl) ev_nil)) (.inr ⟨px, pg, x, k, xs, rfl, hX, hg, hb⟩))
    · rw [if_neg (by omega)] at ho
      subst ho
      exact retO_of (call_of (ev_cons i0 (ev_cons (ev_var rfl) ev_nil)) (.inl ⟨px, pg, r, hs, rfl, h1, h2, h3, h4, fun H' p rs s _ _ _ _ _ => q _ _ s⟩))
  have c0 : ¬ (n : Int) = 0 := of_decide_eq_false c
  clear c
  dsimp only
  refine seq_of (ifS_of (ev_test (ev_eqI (ev_var rfl) ev_c)) (fun c => ?_) fun c => next_of ?_)
  · have c : (n : Int) = 1 := of_decide_eq_true c
    obtain ⟨xs, hg, hd⟩ : ∃ xs : List Int, SqL K H pg (xs.map V.int) ∧ DueRow n x k (!Rises 39 (-1) xs) o := by
      rcases hG with ⟨_, h⟩ | ⟨z, _⟩ | ⟨z, _⟩ | ⟨z, _⟩
      · exact h
      all_goals omega
    refine retO_of (callO_of (argE_of i0 (argE_of (ev_var rfl) (arg1_of ⟨by decide, fun p hp => ?_⟩))))
    have s1 := same_new hp (.lst [])
    refine ⟨px, pg, p, x, k, xs, rfl, s1.tup hX, s1.seq hg, .of upd_same, (row_split (s1.tup hX) (s1.seq hg) hd (q.same s1)).imp_right fun ⟨ok, ri, ho, _⟩ => ⟨ok, ri, ?_⟩⟩
    rw [if_neg (by omega)] at ho
    subst ho
    exact fun H' s => q _ _ (s1.trans s)
  have c1 : ¬ (n : Int) = 1 := of_decide_eq_false c
  clear c
  dsimp only
  refine seq_of (ifS_of (ev_test (ev_eqI (ev_var rfl) ev_c)) (fun c => ?_) fun c => next_of ?_)
  · have c : (n : Int) = 2 := of_decide_eq_true c
    obtain ⟨xs, hg, hd⟩ : ∃ xs : List Int, SqL K H pg (xs.map V.int) ∧ DueRow n x k (!Rises 39 (-1) xs) o := by
      rcases hG with ⟨_, h⟩ | ⟨z, _⟩ | ⟨z, _⟩ | ⟨z, _⟩
      · exact h
      all_goals omega
    refine retO_of (callO_of (argE_of i0 (argE_of (ev_var rfl) (arg1_of ⟨by decide, fun p hp => ?_⟩))))
    have s1 := same_new hp (.lst [])
    refine ⟨px, pg, p, x, k, xs, rfl, s1.tup hX, s1.seq hg, .of upd_same, (row_split (s1.tup hX) (s1.seq hg) hd (q.same s1)).imp_right fun ⟨ok, ri, ho, _⟩ => ⟨ok, ri, ?_⟩⟩
    rw [if_pos (by omega)] at ho
    subst ho
    exact fun H' s => q _ (s1.trans s)
  have c2 : ¬ (n : Int) = 2 := of_decide_eq_false c
  clear c
  dsimp only
  refine seq_of (ifS_of (ev_test (ev_eqI (ev_var rfl) ev_c)) (fun c => ?_) fun c => next_of ?_)
  · have c : (n : Int) = 3 := of_decide_eq_true c
    obtain ⟨xs, hg, hd⟩ : ∃ xs : List Int, SqL K H pg (xs.map V.int) ∧ DueRow n x k (!Rises 39 (-1) xs) o := by
      rcases hG with ⟨_, h⟩ | ⟨z, _⟩ | ⟨z, _⟩ | ⟨z, _⟩
      · exact h
      all_goals omega
    rcases row_split hX hg hd q with hb | ⟨ok, ri, ho, r, hs, h1, h2, h3, h4⟩
    · exact retO_of (call_of (ev_cons i0 (ev_cons (ev_var rfl) ev_nil)) (.inr ⟨px, pg, x, k, xs, rfl, hX, hg, hb⟩))
    · rw [if_neg (by omega)] at ho
      subst ho
      exact retO_of (call_of (ev_cons i0 (ev_cons (ev_var rfl) ev_nil)) (.inl ⟨px, pg, r, hs, rfl, h1, h2, h3, h4, fun H' s => q _ _ s⟩))
  have c3 : ¬ (n : Int) = 3 := of_decide_eq_false c
  clear c
  dsimp only
  refine seq_of (ifS_of (ev_test (ev_eqI (ev_var rfl) ev_c)) (fun c => ?_) fun c => next_of ?_)
  · have c : (n : Int) = 4 := of_decide_eq_true c
    obtain ⟨xs, hg, hd⟩ : ∃ xs : List Int, SqL K H pg (xs.map V.int) ∧ DueRow n x k (!Rises 39 (-1) xs) o := by
      rcases hG with ⟨_, h⟩ | ⟨z, _⟩ | ⟨z, _⟩ | ⟨z, _⟩
      · exact h
      all_goals omega
    rcases row_split hX hg hd q with hb | ⟨ok, ri, ho, r, hs, h1, h2, h3, h4⟩
    · exact retO_of (call_of (ev_cons i0 (ev_cons (ev_var rfl) ev_nil)) (.inr ⟨px, pg, x, k, xs, rfl, hX, hg, hb⟩))
    · rw [if_neg (by omega)] at ho
      subst ho
      exact retO_of (call_of (ev_cons i0 (ev_cons (ev_var rfl) ev_nil)) (.inl ⟨px, pg, r, hs, rfl, h1, h2, h3, h4, fun _ H' s => q _ _ s, fun _ t _ H' p s _ _ => q _ _ s⟩))
  have c4 : ¬ (n : Int) = 4 := of_decide_eq_false c
  clear c
  dsimp only
  refine seq_of (ifS_of (ev_test (ev_eqI (ev_var rfl) ev_c)) (fun c => ?_) fun c => next_of ?_)
  · have c : (n : Int) = 5 := of_decide_eq_true c
    obtain ⟨xs, a, hg, ha, hd⟩ : ∃ (xs : List Int) (a : Int), SqL K H pg (xs.map V.int) ∧ atI (xs.map V.int) (-1) = some (.int a) ∧ DueRow n x k (!decide (0 ≤ a ∧ a < 40)) o := by
      rcases hG with ⟨z, _⟩ | ⟨_, h⟩ | ⟨z, _⟩ | ⟨z, _⟩
      · omega
      · exact h
      · omega
      · omega
    refine retO_of (call_of (ev_cons i0 (ev_cons (ev_ixL (ev_var rfl) (ev_u ev_c) hg ha) ev_nil)) ?_)
    rcases hd with ⟨nb, rfl⟩ | ⟨ok, hb, rfl⟩ | ⟨ok, hb, ho⟩
    · exact .inr ⟨px, x, k, a, rfl, hX, .inl ⟨nb, q _ (Same.refl H)⟩⟩
    · exact .inr ⟨px, x, k, a, rfl, hX, .inr ⟨ok, (fun z => by rw [decide_eq_true z] at hb; cases hb), q _ (Same.refl H)⟩⟩
    · rw [if_neg (by omega)] at ho
      subst ho
      obtain ⟨r, hgr, er⟩ := okR_rule ok
      have hb : 0 ≤ a ∧ a < 40 := by simpa using hb
      obtain ⟨m, rfl⟩ : ∃ m : Nat, a = (m : Int) := ⟨a.toNat, by omega⟩
      exact .inl ⟨px, r, m, rfl, by rw [er]; exact hX, hgr, by omega, fun H' s => q _ _ s⟩
  have c5 : ¬ (n : Int) = 5 := of_decide_eq_false c
  clear c
  dsimp only
  refine seq_of (ifS_of (ev_test (ev_eqI (ev_var rfl) ev_c)) (fun c => ?_) fun c => next_of ?_)
  · have c : (n : Int) = 6 := of_decide_eq_true c
    obtain ⟨ps, rs, hg, hB, hd⟩ : ∃ (ps : List (Int × Int)) (rs : List Addr), SqL K H pg (rs.map V.ref) ∧ BI K H ps rs ∧ DueBrd n x k y l (!RisesB (-1, -1) ps) o := by
      rcases hG with ⟨z, _⟩ | ⟨z, _⟩ | ⟨_, _, h⟩ | ⟨z, _⟩
      · omega
      · omega
      · exact h
      · omega
    refine retO_of (callO_of (argE_of i0 (argE_of i1 (argE_of (ev_var rfl) (argO_of ⟨by decide, fun p hp => arg1_of ⟨by decide, fun p' hp' => ?_⟩⟩)))))
    have s1 := (same_new hp (.lst [])).trans (same_new hp' (.lst []))
    refine ⟨px, py, pg, p, p', x, k, y, l, ps, rs, rfl, s1.tup hX, s1.tup hY, s1.seq hg, hB.same s1, .of ((same_new hp' (.lst [])) _ _ upd_same), (brd_split (s1.tup hX) (s1.tup hY) (hB.same s1) hd (q.same s1)).imp_right fun ⟨ok, ok2, ri, ho, _⟩ => ⟨ok, ok2, ri, ?_⟩⟩
    rw [if_neg (by omega)] at ho
    subst ho
    exact fun H' s => q _ _ (s1.trans s)
  have c6 : ¬ (n : Int) = 6 := of_decide_eq_false c
  clear c
  dsimp only
  refine seq_of (ifS_of (ev_test (ev_eqI (ev_var rfl) ev_c)) (fun c => ?_) fun c => next_of ?_)
  · have c : (n : Int) = 7 := of_decide_eq_true c
    obtain ⟨ps, rs, hg, hB, hd⟩ : ∃ (ps : List (Int × Int)) (rs : List Addr), SqL K H pg (rs.map V.ref) ∧ BI K H ps rs ∧ DueBrd n x k y l (!RisesB (-1, -1) ps) o := by
      rcases hG with ⟨z, _⟩ | ⟨z, _⟩ | ⟨_, _, h⟩ | ⟨z, _⟩
      · omega
      · omega
      · exact h
      · omega
    refine retO_of (callO_of (argE_of i0 (argE_of i1 (argE_of (ev_var rfl) (argO_of ⟨by decide, fun p hp => arg1_of ⟨by decide, fun p' hp' => ?_⟩⟩)))))
    have s1 := (same_new hp (.lst [])).trans (same_new hp' (.lst []))
    refine ⟨px, py, pg, p, p', x, k, y, l, ps, rs, rfl, s1.tup hX, s1.tup hY, s1.seq hg, hB.same s1, .of ((same_new hp' (.lst [])) _ _ upd_same), (brd_split (s1.tup hX) (s1.tup hY) (hB.same s1) hd (q.same s1)).imp_right fun ⟨ok, ok2, ri, ho, _⟩ => ⟨ok, ok2, ri, ?_⟩⟩
    rw [if_pos (by omega)] at ho
    subst ho
    exact fun H' s => q _ (s1.trans s)
  have c7 : ¬ (n : Int) = 7 := of_decide_eq_false c
  clear c
  dsimp only
  refine seq_of (ifS_of (ev_test (ev_eqI (ev_var rfl) ev_c)) (fun c => ?_) fun c => next_of ?_)
  · have c : (n : Int) = 8 := of_decide_eq_true c
    obtain ⟨ps, rs, hg, hB, hd⟩ : ∃ (ps : List (Int × Int)) (rs : List Addr), SqL K H pg (rs.map V.ref) ∧ BI K H ps rs ∧ DueBrd n x k y l (!RisesB (-1, -1) ps) o := by
      rcases hG with ⟨z, _⟩ | ⟨z, _⟩ | ⟨_, _, h⟩ | ⟨z, _⟩
      · omega
      · omega
      · exact h
      · omega
    rcases brd_split hX hY hB hd q with hb | ⟨ok, ok2, ri, ho, rx, ry, qs, h1, h2, h3, h4, h5, h6⟩
    · exact retO_of (call_of (ev_cons i0 (ev_cons i1 (ev_cons (ev_var rfl) ev_nil))) (.inr ⟨px, py, pg, x, k, y, l, ps, rs, rfl, hX, hY, hg, hB, hb⟩))
    · rw [if_neg (by omega)] at ho
      subst ho
      exact retO_of (call_of (ev_cons i0 (ev_cons i1 (ev_cons (ev_var rfl) ev_nil))) (.inl ⟨px, py, pg, rx, ry, qs, rs, rfl, h1, h2, h3, h4, hg, h5, h6, fun H' s => q _ _ s⟩))
  have c8 : ¬ (n : Int) = 8 := of_decide_eq_false c
  clear c
  dsimp only
  refine seq_of (ifS_of (ev_test (ev_eqI (ev_var rfl) ev_c)) (fun c => ?_) fun c => next_of ?_)
  · have c : (n : Int) = 9 := of_decide_eq_true c
    obtain ⟨ps, rs, hg, hB, hd⟩ : ∃ (ps : List (Int × Int)) (rs : List Addr), SqL K H pg (rs.map V.ref) ∧ BI K H ps rs ∧ DueBrd n x k y l (!RisesB (-1, -1) ps) o := by
      rcases hG with ⟨z, _⟩ | ⟨z, _⟩ | ⟨_, _, h⟩ | ⟨z, _⟩
      · omega
      · omega
      · exact h
      · omega
    rcases brd_split hX hY hB hd q with hb | ⟨ok, ok2, ri, ho, rx, ry, qs, h1, h2, h3, h4, h5, h6⟩
    · exact retO_of (call_of (ev_cons i0 (ev_cons i1 (ev_cons (ev_var rfl) ev_nil))) (.inr ⟨px, py, pg, x, k, y, l, ps, rs, rfl, hX, hY, hg, hB, hb⟩))
    · rw [if_neg (by omega)] at ho
      subst ho
      exact retO_of (call_of (ev_cons i0 (ev_cons i1 (ev_cons (ev_var rfl) ev_nil))) (.inl ⟨px, py, pg, rx, ry, qs, rs, rfl, h1, h2, h3, h4, hg, h5, h6, fun _ H' s => q _ _ s, fun t _ H' p a b s _ _ _ _ _ _ _ => q _ _ s⟩))
  have c9 : ¬ (n : Int) = 9 := of_decide_eq_false c
  clear c
  dsimp only
  obtain ⟨rs, r, a, b, hg, ha, hr', hd⟩ : ∃ (rs : List Addr) (r : Addr) (a b : Int), SqL K H pg (rs.map V.ref) ∧ atI (rs.map V.ref) (-1) = some (.ref r) ∧ SqT K H r [.int a, .int b] ∧ DueBrd n x k y l (decide (a < 0 ∨ a > 15 ∨ b < 0 ∨ b > 15)) o := by
    rcases hG with ⟨z, _⟩ | ⟨z, _⟩ | ⟨z, z', _⟩ | ⟨_, h⟩
    · omega
    · omega
    · omega
    · exact h
  have n10 : n = 10 := by
    rcases hG with ⟨z, _⟩ | ⟨z, _⟩ | ⟨z, z', _⟩ | ⟨z, _⟩ <;> omega
  have l0 := ev_ixL (K := K) (ta := tVar 2) (σ := [some (V.int (n : Int)), some (V.ref pl), some (V.ref pg)]) (H := H) (ev_var rfl) (ev_u (g := fun i => V.int (-i)) (ev_c (v := .int 1))) hg ha
  refine retO_of (call_of (ev_cons i0 (ev_cons i1 (ev_cons (ev_ixT l0 ev_c hr' rfl) (ev_cons (ev_ixT l0 ev_c hr' rfl) ev_nil)))) ?_)
  rcases hd with ⟨nb, rfl⟩ | ⟨ok, ok2, hb, rfl⟩ | ⟨ok, ok2, hb, ho⟩
  · exact .inr ⟨px, py, x, k, y, l, a, b, rfl, hX, hY, .inl ⟨nb, q _ (Same.refl H)⟩⟩
  · exact .inr ⟨px, py, x, k, y, l, a, b, rfl, hX, hY, .inr ⟨ok, ok2, of_decide_eq_true hb, q _ (Same.refl H)⟩⟩
  · rw [if_neg (by omega)] at ho
    subst ho
    obtain ⟨r1, hg1, er1⟩ := okR_rule ok
    obtain ⟨r2, hg2, er2⟩ := okR_rule ok2
    have hb := of_decide_eq_false hb
    obtain ⟨m, rfl⟩ : ∃ m : Nat, a = (m : Int) := ⟨a.toNat, by omega⟩
    obtain ⟨m2, rfl⟩ : ∃ m : Nat, b = (m : Int) := ⟨b.toNat, by omega⟩
    exact .inl ⟨px, py, r1, r2, m, m2, rfl, by rw [er1]; exact hX, by rw [er2]; exact hY, hg1, hg2, by omega, by omega, fun H' s => q _ _ s⟩
end
noncomputable abbrev s_law_kinds : Stmt := top 57
noncomputable abbrev n_law_kinds : List Str := ["e", "kinds"]
noncomputable abbrev p_law_kinds : List Str := ["e"]
theorem sc_law_kinds : FnScope n_law_kinds p_law_kinds (defScope s_law_kinds) := ⟨rfl, rfl, rfl, by decide +kernel, rfl, by decide +kernel, by decide +kernel⟩
noncomputable abbrev s_law_told : Stmt := top 58
noncomputable abbrev n_law_told : List Str := ["which", "rules", "given", "e"]
noncomputable abbrev p_law_told : List Str := ["which", "rules", "given"]
theorem sc_law_told : FnScope n_law_told p_law_told (defScope s_law_told) := ⟨rfl, rfl, rfl, by decide +kernel, rfl, by decide +kernel, by decide +kernel⟩
structure ErrF (K : PySem.W.Frag) (mg : Str → Option Value) (cC cN cB cO cR cU cT : Addr) : Prop where
  r_NoRule : ErrC K mg "NoRule" cU
  r_NoRow : ErrC K mg "NoRow" cR
  r_NoBoard : ErrC K mg "NoBoard" cB
  r_NoTurn : ErrC K mg "NoTurn" cT
  g_CoinError : GRef mg "CoinError" cC
  g_NoNumber : GRef mg "NoNumber" cN
  g_NoBoard : GRef mg "NoBoard" cB
  g_NoNote : GRef mg "NoNote" cO
  g_NoRow : GRef mg "NoRow" cR
  g_NoRule : GRef mg "NoRule" cU
  g_NoTurn : GRef mg "NoTurn" cT
  x_NoRule : ExcCls K cU
  x_NoRow : ExcCls K cR
  x_NoBoard : ExcCls K cB
  x_NoTurn : ExcCls K cT
  m_NoRule : PySem.W.exmOne K (.ref cU) (.ref cC) = some true
  m_NoRow : PySem.W.exmOne K (.ref cR) (.ref cC) = some true
  m_NoBoard : PySem.W.exmOne K (.ref cB) (.ref cC) = some true
  m_NoTurn : PySem.W.exmOne K (.ref cT) (.ref cC) = some true
  k_NoRule_NoRule : PySem.W.kitOne K (.ref cU) (.ref cU) = some true
  k_NoRule_NoRow : PySem.W.kitOne K (.ref cU) (.ref cR) = some false
  k_NoRule_NoBoard : PySem.W.kitOne K (.ref cU) (.ref cB) = some false
  k_NoRule_NoTurn : PySem.W.kitOne K (.ref cU) (.ref cT) = some false
  k_NoRule_NoNumber : PySem.W.kitOne K (.ref cU) (.ref cN) = some false
  k_NoRule_NoNote : PySem.W.kitOne K (.ref cU) (.ref cO) = some false
  k_NoRule_ValueError : PySem.W.kitOne K (.ref cU) (.type "ValueError") = some true
  k_NoRow_NoRule : PySem.W.kitOne K (.ref cR) (.ref cU) = some false
  k_NoRow_NoRow : PySem.W.kitOne K (.ref cR) (.ref cR) = some true
  k_NoRow_NoBoard : PySem.W.kitOne K (.ref cR) (.ref cB) = some false
  k_NoRow_NoTurn : PySem.W.kitOne K (.ref cR) (.ref cT) = some false
  k_NoRow_NoNumber : PySem.W.kitOne K (.ref cR) (.ref cN) = some false
  k_NoRow_NoNote : PySem.W.kitOne K (.ref cR) (.ref cO) = some false
  k_NoRow_ValueError : PySem.W.kitOne K (.ref cR) (.type "ValueError") = some true
  k_NoBoard_NoRule : PySem.W.kitOne K (.ref cB) (.ref cU) = some false
  k_NoBoard_NoRow : PySem.W.kitOne K (.ref cB) (.ref cR) = some false
  k_NoBoard_NoBoard : PySem.W.kitOne K (.ref cB) (.ref cB) = some true
  k_NoBoard_NoTurn : PySem.W.kitOne K (.ref cB) (.ref cT) = some false
  k_NoBoard_NoNumber : PySem.W.kitOne K (.ref cB) (.ref cN) = some false
  k_NoBoard_NoNote : PySem.W.kitOne K (.ref cB) (.ref cO) = some false
  k_NoBoard_ValueError : PySem.W.kitOne K (.ref cB) (.type "ValueError") = some true
  k_NoTurn_NoRule : PySem.W.kitOne K (.ref cT) (.ref cU) = some false
  k_NoTurn_NoRow : PySem.W.kitOne K (.ref cT) (.ref cR) = some false
  k_NoTurn_NoBoard : PySem.W.kitOne K (.ref cT) (.ref cB) = some false
  k_NoTurn_NoTurn : PySem.W.kitOne K (.ref cT) (.ref cT) = some true
  k_NoTurn_NoNumber : PySem.W.kitOne K (.ref cT) (.ref cN) = some false
  k_NoTurn_NoNote : PySem.W.kitOne K (.ref cT) (.ref cO) = some false
  k_NoTurn_ValueError : PySem.W.kitOne K (.ref cT) (.type "ValueError") = some true
structure TxE (K : PySem.W.Frag) (mg : Str → Option Value) (cC cN cB cO cR cU cT : Addr) : Prop extends ErrF K mg cC cN cB cO cR cU cT where
  n_isinstance : mg "isinstance" = none
  n_ValueError : mg "ValueError" = none
theorem bt_ValueError : bootBuiltins "ValueError" = some (.type "ValueError") := by decide +kernel
structure Kd (K : PySem.W.Frag) (cC cN cB cO cR cU cT : Addr) (c : Addr) (o : Nat) : Prop where
  x : ExcCls K c
  m : PySem.W.exmOne K (.ref c) (.ref cC) = some true
  k0 : PySem.W.kitOne K (.ref c) (.ref cU) = some (decide (o = 0))
  k1 : PySem.W.kitOne K (.ref c) (.ref cR) = some (decide (o = 1))
  k2 : PySem.W.kitOne K (.ref c) (.ref cB) = some (decide (o = 2))
  k3 : PySem.W.kitOne K (.ref c) (.ref cT) = some (decide (o = 3))
  kN : PySem.W.kitOne K (.ref c) (.ref cN) = some false
  kO : PySem.W.kitOne K (.ref c) (.ref cO) = some false
  kV : PySem.W.kitOne K (.ref c) (.type "ValueError") = some true
section
variable {P : Program} {w : World} {K : PySem.W.Frag} {mg : Str → Option Value} {base : Heap} {cC cN cB cO cR cU cT : Addr}
theorem kd0 (T : ErrF K mg cC cN cB cO cR cU cT) : Kd K cC cN cB cO cR cU cT cU 0 := ⟨T.x_NoRule, T.m_NoRule, T.k_NoRule_NoRule, T.k_NoRule_NoRow, T.k_NoRule_NoBoard, T.k_NoRule_NoTurn, T.k_NoRule_NoNumber, T.k_NoRule_NoNote, T.k_NoRule_ValueError⟩
theorem kd1 (T : ErrF K mg cC cN cB cO cR cU cT) : Kd K cC cN cB cO cR cU cT cR 1 := ⟨T.x_NoRow, T.m_NoRow, T.k_NoRow_NoRule, T.k_NoRow_NoRow, T.k_NoRow_NoBoard, T.k_NoRow_NoTurn, T.k_NoRow_NoNumber, T.k_NoRow_NoNote, T.k_NoRow_ValueError⟩
theorem kd2 (T : ErrF K mg cC cN cB cO cR cU cT) : Kd K cC cN cB cO cR cU cT cB 2 := ⟨T.x_NoBoard, T.m_NoBoard, T.k_NoBoard_NoRule, T.k_NoBoard_NoRow, T.k_NoBoard_NoBoard, T.k_NoBoard_NoTurn, T.k_NoBoard_NoNumber, T.k_NoBoard_NoNote, T.k_NoBoard_ValueError⟩
theorem kd3 (T : ErrF K mg cC cN cB cO cR cU cT) : Kd K cC cN cB cO cR cU cT cT 3 := ⟨T.x_NoTurn, T.m_NoTurn, T.k_NoTurn_NoRule, T.k_NoTurn_NoRow, T.k_NoTurn_NoBoard, T.k_NoTurn_NoTurn, T.k_NoTurn_NoNumber, T.k_NoTurn_NoNote, T.k_NoTurn_ValueError⟩
noncomputable def kindsOf (o : Option Nat) : List V := [.bl (decide (o = some 0)), .bl (decide (o = some 1)), .bl (decide (o = some 2)), .bl (decide (o = some 3))]
theorem kinds_some (o : Nat) : kindsOf (some o) = [.bl (decide (o = 0)), .bl (decide (o = 1)), .bl (decide (o = 2)), .bl (decide (o = 3))] := by
  unfold kindsOf
  simp
theorem isx {H : Hp} {Q : VK} {a C : Addr} {a0 x1 u : Value} {c : V} {b : Bool} (ha : H a = some (excO a C a0 x1)) (Z : ExcCls K C) (hc : asked c = some u) (hb : PySem.W.kitOne K (.ref C) u = some b) (q : Q (.bl b) H) : rIsx K [.ref a, c] H Q :=
  ⟨a, C, a0, x1, c, u, b, rfl, ha, Z, hc, hb, q⟩
noncomputable def spKinds (K : PySem.W.Frag) (cC cN cB cO cR cU cT : Addr) : Sp := fun vs H Q _ => ∃ (a c : Addr) (o : Nat) (a0 x1 : Value), vs = [.ref a] ∧ H a = some (excO a c a0 x1) ∧ Kd K cC cN cB cO cR cU cT c o ∧ ∀ p, H p = none → Q (.ref p) (upd H p (.lst (kindsOf (some o))))
set_option pp.deepTerms true in
theorem ok_kinds (D : HasDef K mg "_law_kinds" s_law_kinds) (T : TxE K mg cC cN cB cO cR cU cT) : CalleeH P w K mg base "_law_kinds" 1 p_law_kinds (spKinds K cC cN cB cO cR cU cT) := by
  refine D.okH sc_law_kinds (fun _ _ _ _ _ _ us hl => match us, hl with | [_], _ => rfl) (fun vs H Q E h => ?_) (fun f cdv A outer s H vs Q E hr hq h => ?_)
  · obtain ⟨a, _, _, _, _, rfl, _⟩ := h
    rfl
  obtain ⟨a, c, o, a0, x1, rfl, ha, k, q⟩ := h
  refine ⟨_, (pss_cons (ps_set (i := 1) sc_law_kinds.nd rfl (Or.inl rfl) (pe_lst (pa_cons (pe_callB call_isx rfl T.n_isinstance bt_isinstance (pa_cons (pv 0) (pa_cons (pe_globR T.g_NoRule) pa_nil))) (pa_cons (pe_callB call_isx rfl T.n_isinstance bt_isinstance (pa_cons (pv 0) (pa_cons (pe_globR T.g_NoRow) pa_nil))) (pa_cons (pe_callB call_isx rfl T.n_isinstance bt_isinstance (pa_cons (pv 0) (pa_cons (pe_globR T.g_NoBoard) pa_nil))) (pa_cons (pe_callB call_isx rfl T.n_isinstance bt_isinstance (pa_cons (pv 0) (pa_cons (pe_globR T.g_NoTurn) pa_nil))) pa_nil))))))
    (pss_cons (ps_if (PW.pt (pw_or (pt_val (pe_callB call_isx rfl T.n_isinstance bt_isinstance (pa_cons (pv 0) (pa_cons (pe_globR T.g_NoNumber) pa_nil)))) (pw_or (pt_val (pe_callB call_isx rfl T.n_isinstance bt_isinstance (pa_cons (pv 0) (pa_cons (pe_globR T.g_NoNote) pa_nil)))) (pw_or1 (pt_not (pt_val (pe_callB call_isx rfl T.n_isinstance bt_isinstance (pa_cons (pv 0) (pa_cons (pe_ty T.n_ValueError bt_ValueError) pa_nil))))))))) (pss_one (ps_ret (pe_lst (pa_cons pe_bl (pa_cons pe_bl (pa_cons pe_bl (pa_cons pe_bl pa_nil))))))) pss_nil)
    (pss_one (ps_ret (pv 1))))), ?_⟩
  rw [show start n_law_kinds [V.ref a] = [some (V.ref a), none] from rfl]
  have go : ∀ {b : Bool} {c' : V} {u : Value} {H' : Hp} {R : VK} {y : Option V}, H' a = some (excO a c a0 x1) → asked c' = some u → PySem.W.kitOne K (.ref c) u = some b → R (.bl b) H' → tCB (rIsx K) (tCons (tVar 0) (tCons (tC c') tNil)) [some (V.ref a), y] H' R :=
    fun h1 h2 h3 r => ⟨_, rfl, isx h1 k.x h2 h3 r⟩
  refine seq_of (go ha rfl k.k0 (go ha rfl k.k1 (go ha rfl k.k2 (go ha rfl k.k3 ⟨by show 4 ≤ sizeLine; decide, fun p hp => ?_⟩))))
  dsimp only [gName]
  have ha' : upd H p (.lst [V.bl (decide (o = 0)), V.bl (decide (o = 1)), V.bl (decide (o = 2)), V.bl (decide (o = 3))]) a = some (excO a c a0 x1) := by rw [upd_ne (ne_of_none ha hp)]; exact ha
  refine seq_of (go ha' rfl k.kN ⟨_, rfl, go ha' rfl k.kO ⟨_, rfl, go ha' rfl k.kV ⟨_, rfl, ?_⟩⟩⟩)
  refine ⟨_, rfl, ?_⟩
  have := q p hp
  rw [kinds_some] at this
  exact this
structure Ct (P : Program) (w : World) (K : PySem.W.Frag) (mg : Str → Option Value) (base : Heap) (cC cN cB cO cR cU cT : Addr) : Prop where
  law_called : CalleeX P w K mg base "_law_called" 21 p_law_called (spCalled K cU cR cB cT)
  law_kinds : CalleeH P w K mg base "_law_kinds" 1 p_law_kinds (spKinds K cC cN cB cO cR cU cT)
noncomputable def spTold (K : PySem.W.Frag) : Sp := fun vs H Q _ => ∃ (n : Nat) (pl px py pg : Addr) (x : Str) (k : Int) (y : Str) (l : Int) (o : Option Nat), vs = [.int (n : Int), .ref pl, .ref pg] ∧ SqL K H pl [.ref px, .ref py] ∧ SqT K H px [.str x, .int k] ∧ SqT K H py [.str y, .int l] ∧ Given K H n pg x k y l o ∧ (∀ j, o = some j → j < 4) ∧ ∀ H' p, Same H H' → H' p = some (.lst (kindsOf o)) → Q (.ref p) H'
set_option pp.deepTerms true in
theorem ok_told (D : HasDef K mg "_law_told" s_law_told) (T : TxE K mg cC cN cB cO cR cU cT) (C : Ct P w K mg base cC cN cB cO cR cU cT) : Callee P w K mg base "_law_told" 22 p_law_told (spTold K) := by
  refine D.ok sc_law_told (fun _ _ _ _ _ _ us hl => match us, hl with | [_, _, _], _ => rfl) (fun vs H Q E h => ?_) (fun f cdv A outer s H vs Q E hr h => ?_)
  · obtain ⟨n, pl, px, py, pg, x, k, y, l, o, rfl, _⟩ := h
    rfl
  obtain ⟨n, pl, px, py, pg, x, k, y, l, o, rfl, hL, hX, hY, hG, h4, q⟩ := h
  refine ⟨_, (pss_cons (ps_try (i := 3) rfl rfl sc_law_told.nd rfl rfl T.g_CoinError rfl (fun _ _ _ ht => (pss_one (ps_expr (pe_callX C.law_called ht hr (by omega) rfl (pa_cons (pv 0) (pa_cons (pv 1) (pa_cons (pv 2) pa_nil))))))) (fun _ => (pss_one (ps_ret (pe_callH C.law_kinds (hr.x _) (by omega) rfl (pa_cons (pv 3) pa_nil))))))
    (pss_one (ps_ret (pe_lst (pa_cons pe_bl (pa_cons pe_bl (pa_cons pe_bl (pa_cons pe_bl pa_nil)))))))), ?_⟩
  rw [show start n_law_told [V.int n, V.ref pl, V.ref pg] = [some (V.int n), some (V.ref pl), some (V.ref pg), none] from rfl]
  refine seq_of ⟨_, rfl, _, rfl, _, rfl, n, pl, px, py, pg, x, k, y, l, o, rfl, hL, hX, hY, hG, ?_⟩
  match o, h4 with
  | none, _ =>
    intro v H' s
    refine ⟨by show 4 ≤ sizeLine; decide, fun p hp => q _ _ (s.trans (same_new hp _)) ?_⟩
    rw [upd_same]
    rfl
  | some 0, _ =>
    intro H' s
    refine ⟨cU, rfl, (kd0 T.toErrF).m, fun z z0 z1 hz => ?_⟩
    refine ⟨_, rfl, ⟨z, _, _, _, _, rfl, upd_same⟩, z, cU, 0, _, _, rfl, upd_same, kd0 T.toErrF, fun p hp => ?_⟩
    exact q _ _ ((s.trans (same_new hz _)).trans (same_new hp _)) upd_same
  | some 1, _ =>
    intro H' s
    refine ⟨cR, rfl, (kd1 T.toErrF).m, fun z z0 z1 hz => ?_⟩
    refine ⟨_, rfl, ⟨z, _, _, _, _, rfl, upd_same⟩, z, cR, 1, _, _, rfl, upd_same, kd1 T.toErrF, fun p hp => ?_⟩
    exact q _ _ ((s.trans (same_new hz _)).trans (same_new hp _)) upd_same
  | some 2, _ =>
    intro H' s
    refine ⟨cB, rfl, (kd2 T.toErrF).m, fun z z0 z1 hz => ?_⟩
    refine ⟨_, rfl, ⟨z, _, _, _, _, rfl, upd_same⟩, z, cB, 2, _, _, rfl, upd_same, kd2 T.toErrF, fun p hp => ?_⟩
    exact q _ _ ((s.trans (same_new hz _)).trans (same_new hp _)) upd_same
  | some 3, _ =>
    intro H' s
    refine ⟨cT, rfl, (kd3 T.toErrF).m, fun z z0 z1 hz => ?_⟩
    refine ⟨_, rfl, ⟨z, _, _, _, _, rfl, upd_same⟩, z, cT, 3, _, _, rfl, upd_same, kd3 T.toErrF, fun p hp => ?_⟩
    exact q _ _ ((s.trans (same_new hz _)).trans (same_new hp _)) upd_same
  | some (j + 4), h4 => exact absurd (h4 _ rfl) (by omega)
end
noncomputable abbrev s_law_good_rule : Stmt := top 51
noncomputable abbrev n_law_good_rule : List Str := ["cell"]
noncomputable abbrev p_law_good_rule : List Str := ["cell"]
theorem sc_law_good_rule : FnScope n_law_good_rule p_law_good_rule (defScope s_law_good_rule) := ⟨rfl, rfl, rfl, by decide +kernel, rfl, by decide +kernel, by decide +kernel⟩
section
variable {P : Program} {w : World} {K : PySem.W.Frag} {mg : Str → Option Value} {base : Heap}
theorem menu_word (i : Int) (h : i % 3 ≠ 2) : atI [V.str "most", V.str "just"] (i % 3) = some (.str (word (i % 3).toNat)) := by
  rcases (by omega : i % 3 = 0 ∨ i % 3 = 1) with e | e <;> rw [e] <;> rfl
theorem ok_goodRule (D : HasDef K mg "_law_good_rule" s_law_good_rule) : Callee P w K mg base "_law_good_rule" 1 p_law_good_rule (spRule 3 40) := by
  refine D.ok sc_law_good_rule (fun _ _ _ _ _ _ us hl => match us, hl with | [_], _ => rfl) (fun vs H Q E h => ?_) (fun f cdv A outer s H vs Q E hr h => ?_)
  · obtain ⟨c, rfl, _⟩ := h
    rfl
  obtain ⟨c, rfl, q⟩ := h
  refine ⟨_, (pss_cons (ps_if (pt_cmpR op_eq (pe_op op_mod (pv 0) pe_int) pe_int (nomark _)) (pss_one (ps_ret (pe_tup (pa_cons pe_str (pa_cons (pe_op op_add pe_int (pe_op op_mod (pe_op op_fdiv (pv 0) pe_int) pe_int)) pa_nil))))) pss_nil)
    (pss_one (ps_ret (pe_tup (pa_cons (pe_ix ix_list (pe_lst (pa_cons pe_str (pa_cons pe_str pa_nil))) (pe_op op_mod (pv 0) pe_int) (fun _ _ => rfl)) (pa_cons (pe_op op_add pe_int (pe_op op_mod (pe_op op_fdiv (pv 0) pe_int) pe_int)) pa_nil)))))), ?_⟩
  rw [show start n_law_good_rule [V.int c] = [some (V.int c)] from rfl]
  simp only [tSeq, tIfS, tRet, tRetN, tNext, tOr, tAnd, tNot, tTest, tB, tOp, tUn, tVar, tC, tCall, tCons, tNil, rI0, rI, rU, tGT, tAsg, gName, tDrop, tCB, tAndV, tOrV, tNotV, tIf, tChain, tTup, tLst, tNever, cxK, bkK, noxK, tRaise, tTry, xTry, endsH, tCallH]
  simp
  refine ⟨rfl, ?_⟩
  have b0 := Int.emod_nonneg (c / 3) (by decide : (40 : Int) ≠ 0)
  have a0 := Int.emod_nonneg (c / 3) (by decide : (3 : Int) ≠ 0)
  by_cases e : c % 3 = 2
  · refine .inr ⟨by rw [decide_eq_true (by rw [e])], ⟨by decide, by decide⟩, by decide, fun p hp => q _ _ (same_new hp _) ?_ hp⟩
    rw [upd_same, ruleOf, if_pos e]
    unfold ruleV
    congr 4
    simp
    omega
  · refine .inl ⟨by rw [decide_eq_false (fun z => e (V.int.inj z))], by decide, fun p hp => ?_⟩
    refine ⟨p, _, _, _, rfl, rfl, .of upd_same, menu_word c e, ⟨by decide, by decide⟩, by decide, fun p2 hp2 => q _ _ ((same_new hp _).trans (same_new hp2 _)) ?_ ((same_new hp _).free hp2)⟩
    rw [upd_same, ruleOf, if_neg e]
    unfold ruleV
    congr 4
    simp
    omega
end
noncomputable abbrev s_law_word : Stmt := top 52
noncomputable abbrev n_law_word : List Str := ["cell", "word", "some", "k"]
noncomputable abbrev p_law_word : List Str := ["cell"]
theorem sc_law_word : FnScope n_law_word p_law_word (defScope s_law_word) := ⟨rfl, rfl, rfl, by decide +kernel, rfl, by decide +kernel, by decide +kernel⟩
noncomputable def spWord : Sp := fun vs H Q _ => ∃ c : Int, vs = [.int c] ∧ 0 ≤ c ∧ c < 10 ^ 30 ∧ ∀ H' (z : Str), Same H H' → atS gk z = none → Q (.str z) H'
structure TxW (mg : Str → Option Value) : Prop where
  n_range : mg "range" = none
theorem letter {i : Int} (h0 : 0 ≤ i) (h1 : i < 26) : ∃ d, atI ("abcdefghijklmnopqrstuvwxyz" : Str).cps.toList i = some d := by
  obtain ⟨n, rfl⟩ : ∃ n : Nat, i = (n : Int) := ⟨i.toNat, by omega⟩
  have hn : n < ("abcdefghijklmnopqrstuvwxyz" : Str).cps.toList.length := by
    have : ("abcdefghijklmnopqrstuvwxyz" : Str).cps.toList.length = 26 := by decide
    omega
  exact ⟨_, atI_nat (List.getElem?_eq_getElem hn)⟩
theorem in3 {z a b c : Str} (h1 : z ≠ a) (h2 : z ≠ b) (h3 : z ≠ c) : inV (V.str z) [V.str a, V.str b, V.str c] = false := by
  have e : ∀ {y : Str}, z ≠ y → eqV (V.str y) (V.str z) = false := fun {y} h => by
    show (y == z) = false
    rw [beq_eq_false_iff_ne]
    exact fun w => h w.symm
  unfold inV
  simp [e h1, e h2, e h3]
theorem str_len_app (x y : Str) : (x ++ y).length = x.length + y.length := by
  show (x.cps ++ y.cps).size = x.cps.size + y.cps.size
  simp
section
variable {P : Program} {w : World} {K : PySem.W.Frag} {mg : Str → Option Value} {base : Heap}
set_option pp.deepTerms true in
theorem ok_word (D : HasDef K mg "_law_word" s_law_word) (T : TxW mg) : Callee P w K mg base "_law_word" 1 p_law_word spWord := by
  refine D.ok sc_law_word (fun _ _ _ _ _ _ us hl => match us, hl with | [_], _ => rfl) (fun vs H Q E h => ?_) (fun f cdv A outer s H vs Q E hr h => ?_)
  · obtain ⟨c, rfl, _⟩ := h
    rfl
  obtain ⟨c, rfl, c0, c30, q⟩ := h
  refine ⟨_, (pss_cons (ps_set (i := 1) sc_law_word.nd rfl (Or.inl rfl) pe_str)
    (pss_cons (ps_set (i := 2) sc_law_word.nd rfl (Or.inl rfl) pe_str)
    (pss_cons (ps_for PassesOwn.never rfl (pi_range1 rfl T.n_range (pa_cons (pe_op op_add pe_int (pe_op op_mod (pv 0) pe_int)) pa_nil)) (pg_name (i := 3) sc_law_word.nd rfl (Or.inl rfl)) (pss_one (ps_set (i := 1) sc_law_word.nd rfl (Or.inl rfl) (pe_op op_add_str (pv 1) (pe_ix ix_str (pv 2) (pe_op op_mod (pe_op op_add (pe_op op_fdiv (pv 0) pe_int) (pe_op op_mul (pv 3) (pe_op op_fdiv (pv 0) pe_int))) pe_int) (fun _ _ => rfl))))))
    (pss_cons (ps_if (pt_cmpR op_in_seq (pv 1) (pe_tup (pa_cons pe_str (pa_cons pe_str (pa_cons pe_str pa_nil)))) rfl) (pss_one (ps_ret (pe_op op_add_str (pv 1) pe_str))) pss_nil)
    (pss_one (ps_ret (pv 1))))))), ?_⟩
  rw [show start n_law_word [V.int c] = [some (V.int c), none, none, none] from rfl]
  refine seq_of (asg_of ev_c ?_)
  dsimp only
  refine seq_of (asg_of ev_c ?_)
  dsimp only
  obtain ⟨m, hm⟩ : ∃ m : Nat, 1 + c % 7 = (m : Int) := ⟨(1 + c % 7).toNat, by omega⟩
  refine seq_of (rng1_of (ev_cons (ev_i0 ev_c (ev_i (ev_var rfl) ev_c (by decide))) ev_nil) (by omega) (by omega) ?_)
  rw [hm, Int.toNat_natCast]
  have m7 : m ≤ 7 := by omega
  have sl : ∀ n : Nat, n ≤ 1000 → n ≤ sizeLine := fun n h => Nat.le_trans h (by decide)
  refine for_range (fun i σ H' => H' = H ∧ ∃ (z : Str) (u : Option V), z.length = i ∧ σ = [some (V.int c), some (V.str z), some (V.str "abcdefghijklmnopqrstuvwxyz"), u]) ⟨rfl, "", none, rfl, rfl⟩ ?_ ?_
  · rintro i σ H' hi ⟨rfl, z, u, hz, rfl⟩
    dsimp only [gName]
    have b0 := Int.emod_nonneg (c / 7 + (0 + (i : Int)) * (c / 182)) (by decide : (26 : Int) ≠ 0)
    have b1 := Int.emod_lt_of_pos (c / 7 + (0 + (i : Int)) * (c / 182)) (by decide : (0 : Int) < 26)
    obtain ⟨d, hd⟩ := letter b0 b1
    refine asgO_of (op_of (ev_var rfl) (opO_of ⟨_, rfl, ev_i (ev_i0 (ev_i (ev_var rfl) ev_c (by unfold CDiv; decide)) (ev_i (ev_var rfl) (ev_i (ev_var rfl) ev_c (by unfold CDiv; decide)) (.inl ⟨by omega, by omega⟩))) ev_c (by decide) _ ⟨_, _, d, rfl, rfl, sl _ (by decide), hd, ?_⟩⟩))
    refine ⟨z, _, rfl, rfl, sl _ (by rw [hz]; show i + 1 ≤ 1000; omega), rfl, _, _, ?_, rfl⟩
    rw [str_len_app, hz]
    rfl
  · rintro σ H' ⟨rfl, z, u, hz, rfl⟩
    dsimp only
    refine seq_of (ifO_of (opO_of ⟨_, rfl, tup_of (ev_cons ev_c (ev_cons ev_c (ev_cons ev_c ev_nil))) (by show 3 ≤ sizeLine; decide) fun p hp => ⟨p, _, rfl, .inr (.inl (.inl upd_same)), rfl, rfl, _, rfl, ?_⟩⟩))
    have fin : ∀ {y : Str}, atS gk y = none → Q (.str y) (upd H' p (.tup [V.str "most", V.str "just", V.str "run"])) := fun h => q _ _ (same_new hp _) h
    by_cases h : z = "most" ∨ z = "just" ∨ z = "run"
    · rcases h with rfl | rfl | rfl
      · rw [if_pos (by decide)]
        exact ⟨_, rfl, _, _, rfl, rfl, sl _ (by decide), fin (by decide)⟩
      · rw [if_pos (by decide)]
        exact ⟨_, rfl, _, _, rfl, rfl, sl _ (by decide), fin (by decide)⟩
      · rw [if_pos (by decide)]
        exact ⟨_, rfl, _, _, rfl, rfl, sl _ (by decide), fin (by decide)⟩
    · have n1 : z ≠ "most" := fun e => h (.inl e)
      have n2 : z ≠ "just" := fun e => h (.inr (.inl e))
      have n3 : z ≠ "run" := fun e => h (.inr (.inr e))
      rw [if_neg (by rw [if_neg (by decide), in3 n1 n2 n3]; decide)]
      refine next_of (ret_of (ev_var rfl) (fin ?_))
      cases e : atS gk z with
      | none => rfl
      | some v => rcases gk_cases e with ⟨e, _⟩ | ⟨e, _⟩ | ⟨e, _⟩ <;> contradiction
end
structure PEo (X : Cx) (e : Expr) (t : TE) : Prop where
  out : PE X e t
structure PAo (X : Cx) (es : List Expr) (t : TA) : Prop where
  out : PA X es t
structure PSo (X : Cx) (st : Stmt) (t : TS) : Prop where
  out : PS X st t
structure PSso (X : Cx) (st : List Stmt) (t : TS) : Prop where
  out : PSs X st t
section
variable {X : Cx} {a b e : Expr} {ta tb te : TE} {es : List Expr} {t : TA} {pos : Pos} {x1 : Nat} {st : Stmt} {rest : List Stmt} {ts us : TS}
theorem pao_nil : PAo X [] tNil := ⟨pa_nil⟩
theorem pao_tup2 {p : Pos} (ha : PEo X a ta) (hb : PEo X b tb) (hr : PAo X es t) (h1 : starEach [a, b] X.env = (false, eval a X.env) :: starEach [b] X.env := by rfl) (h2 : starEach [b] X.env = (false, eval b X.env) :: starEach [] X.env := by rfl) :
    PAo X (.Tuple [a, b] x1 p :: es) (tCons (tTup (tCons ta (tCons tb tNil))) t) := ⟨pa_cons (pe_tup (pa_cons ha.out (pa_cons hb.out pa_nil h2) h1)) hr.out star_tup⟩
theorem peo_lst (h : PAo X es t) : PEo X (.List es pos) (tLst t) := ⟨pe_lst h.out⟩
theorem peo_op {op : Operator} {r : R2} (ho : OpR X (binaryOp op) r) (ha : PEo X a ta) (hb : PEo X b tb) : PEo X (.BinOp a op b pos) (tOp r ta tb) := ⟨pe_op ho ha.out hb.out⟩
theorem peo (h : PE X e te) : PEo X e te := ⟨h⟩
theorem pso (h : PS X st ts) : PSo X st ts := ⟨h⟩
theorem pso_set {i : Nat} {x : Str} {e : Expr} {te : TE} {pos' : Pos} (hN : X.N.Nodup) (hi : X.N[i]? = some x) (hx : Loc X.env.scope x) (he : PEo X e te) (hs : swapsWith e (some (.Name x pos')) pos.line X.env = pure false := by rfl) (hf : X.fn x = true ∨ X.env.scope.names.lookup x = some .local := by first | exact .inl rfl | exact .inr rfl | assumption) :
    PSo X (.Assign [.Name x pos'] e pos) (tAsg te (gName i)) := ⟨ps_set hN hi hx he.out hs hf⟩
theorem psso_cons (h1 : PSo X st ts) (h2 : PSso X rest us) : PSso X (st :: rest) (tSeq ts us) := ⟨pss_cons h1.out h2.out⟩
theorem psso_one (h1 : PSo X st ts) : PSso X [st] ts := ⟨pss_one h1.out⟩
end
noncomputable abbrev s_law_bad_rule : Stmt := top 53
noncomputable abbrev n_law_bad_rule : List Str := ["cell", "far", "some"]
noncomputable abbrev p_law_bad_rule : List Str := ["cell"]
theorem sc_law_bad_rule : FnScope n_law_bad_rule p_law_bad_rule (defScope s_law_bad_rule) := ⟨rfl, rfl, rfl, by decide +kernel, rfl, by decide +kernel, by decide +kernel⟩
structure TxB0 (mg : Str → Option Value) : Prop where
  n_range : mg "range" = none
structure CnB0 (P : Program) (w : World) (K : PySem.W.Frag) (mg : Str → Option Value) (base : Heap) : Prop where
  law_word : Callee P w K mg base "_law_word" 1 p_law_word spWord
noncomputable def Bad (H : Hp) (p : Addr) : Prop := ∃ (x : Str) (k : Int), H p = some (.tup [.str x, .int k]) ∧ ¬ okR x k
noncomputable def spBadRule : Sp := fun vs H Q _ => ∃ c : Int, vs = [.int c] ∧ ∀ H' p, Same H H' → Bad H' p → Q (.ref p) H'
theorem nok_low {x : Str} {k : Int} (h : k < 1) : ¬ okR x k := fun ⟨_, _, h1, _⟩ => by omega
theorem nok_high {x : Str} {k m : Int} (e : atS gk x = some (.int m)) (h : m < k) : ¬ okR x k := fun ⟨n, hn, _, h2⟩ => by
  rw [e] at hn
  injection hn with hn
  injection hn with hn
  omega
theorem nok_none {x : Str} {k : Int} (e : atS gk x = none) : ¬ okR x k := fun ⟨n, hn, _, _⟩ => by
  rw [e] at hn
  cases hn
noncomputable def EvB (t : TA) (σ : St) (n : Nat) : Prop := ∀ H Q, (∀ (ps : List Addr) H', Same H H' → ps.length = n → (∀ p ∈ ps, Bad H' p) → Q (ps.map V.ref) H') → t σ H Q
noncomputable def EvK (ta tb : TE) (σ : St) : Prop := ∀ H (R : List V → Hp → Prop), (∀ (x : Str) (k : Int) H', Same H H' → ¬ okR x k → R [.str x, .int k] H') → tCons ta (tCons tb tNil) σ H R
theorem evk {ta tb : TE} {σ : St} {x : Str} {k : Int} (ha : ∀ H, EvE ta σ H (.str x)) (hb : ∀ H, EvE tb σ H (.int k)) (h : ¬ okR x k) : EvK ta tb σ := fun H R q => ha H _ (hb H _ (q x k H (Same.refl H) h))
theorem evb_nil {σ : St} : EvB tNil σ 0 := fun H Q q => q [] H (Same.refl H) rfl (by simp)
theorem Bad.same {H H' : Hp} {p : Addr} (h : Bad H p) (s : Same H H') : Bad H' p := by
  obtain ⟨x, k, e, n⟩ := h
  exact ⟨x, k, s _ _ e, n⟩
theorem evb_cons {ta tb : TE} {t : TA} {σ : St} {n : Nat} (hk : EvK ta tb σ) (ht : EvB t σ n) : EvB (tCons (tTup (tCons ta (tCons tb tNil))) t) σ (n + 1) := by
  intro H Q q
  show (tCons ta (tCons tb tNil)) σ H (fun xs H1 => xs.length ≤ sizeLine ∧ ∀ p, H1 p = none → t σ (upd H1 p (.tup xs)) fun vs H2 => Q (.ref p :: vs) H2)
  refine hk H _ fun x k H1 s1 nok => ⟨by show 2 ≤ sizeLine; decide, fun p hp => ht _ _ fun ps H2 s2 l2 b2 => q (p :: ps) H2 ((s1.trans (same_new hp _)).trans s2) (by rw [List.length_cons, l2]) fun p' h' => ?_⟩
  rcases List.mem_cons.mp h' with rfl | h'
  · exact ⟨x, k, s2 _ _ upd_same, nok⟩
  · exact b2 p' h'
theorem lstB_of {t : TA} {σ : St} {n : Nat} {H : Hp} {Q : VK} (h : EvB t σ n) (hn : n ≤ 1000) (q : ∀ (ps : List Addr) p H', Same H H' → ps.length = n → (∀ x ∈ ps, Bad H' x) → H' p = some (.lst (ps.map V.ref)) → Q (.ref p) H') : tLst t σ H Q := by
  have hk : 1000 ≤ sizeLine := by decide
  refine h H _ fun ps H1 s1 l1 b1 => ⟨by rw [List.length_map, l1]; exact Nat.le_trans hn hk, fun p hp => q ps p _ (s1.trans (same_new hp _)) l1 (fun x hx => (b1 x hx).same (same_new hp _)) upd_same⟩
theorem catB_of {i : Nat} {t : TA} {σ : St} {n m : Nat} {H : Hp} {Q : VK} {ps : List Addr} {a : Addr} (ha : EvE (tVar i) σ H (.ref a)) (hp : H a = some (.lst (ps.map V.ref))) (lp : ps.length = m) (bp : ∀ x ∈ ps, Bad H x) (h : EvB t σ n) (hn : n ≤ 1000) (hm : m + n ≤ 1000) (q : ∀ (ps : List Addr) p H', Same H H' → ps.length = m + n → (∀ x ∈ ps, Bad H' x) → H' p = some (.lst (ps.map V.ref)) → Q (.ref p) H') : tOp rCat (tVar i) (tLst t) σ H Q := by
  have hk : 1000 ≤ sizeLine := by decide
  refine op_of ha (lstB_of h hn fun qs b H1 s1 l1 b1 hb => ⟨a, b, _, _, rfl, rfl, s1 _ _ hp, hb, by rw [List.length_map, List.length_map, lp, l1]; exact Nat.le_trans hm hk, fun p hf => ?_⟩)
  rw [← List.map_append]
  refine q (ps ++ qs) p _ (s1.trans (same_new hf _)) (by rw [List.length_append, lp, l1]) (fun x hx => ?_) upd_same
  rcases List.mem_append.mp hx with hx | hx
  · exact ((bp x hx).same s1).same (same_new hf _)
  · exact (b1 x hx).same (same_new hf _)
section
variable {P : Program} {w : World} {K : PySem.W.Frag} {mg : Str → Option Value} {base : Heap}
set_option pp.deepTerms true in
set_option maxHeartbeats 400000 in
theorem ok_badRule (D : HasDef K mg "_law_bad_rule" s_law_bad_rule) (C : CnB0 P w K mg base) : Callee P w K mg base "_law_bad_rule" 2 p_law_bad_rule spBadRule := by
  refine D.ok sc_law_bad_rule (fun _ _ _ _ _ _ us hl => match us, hl with | [_], _ => rfl) (fun vs H Q E h => ?_) (fun f cdv A outer s H vs Q E hr h => ?_)
  · obtain ⟨c, rfl, _⟩ := h
    rfl
  obtain ⟨c, rfl, q⟩ := h
  conv => arg 1; ext t; lhs; arg 2; whnf
  refine ⟨_, PSso.out (psso_cons (pso_set (i := 1) sc_law_bad_rule.nd rfl (Or.inl rfl) (peo (pe_op op_mod (pe_op op_fdiv (pv 0) pe_int) (pe_op op_pow pe_int pe_int))))
    (psso_cons (pso_set (i := 2) sc_law_bad_rule.nd rfl (Or.inl rfl) (peo_lst (pao_tup2 (peo pe_str) (peo pe_int) (pao_tup2 (peo pe_str) (peo pe_int) (pao_tup2 (peo pe_str) (peo pe_int) (pao_tup2 (peo pe_str) (peo pe_int) (pao_tup2 (peo pe_str) (peo pe_int) (pao_tup2 (peo pe_str) (peo pe_int) pao_nil))))))))
    (psso_cons (pso_set (i := 2) sc_law_bad_rule.nd rfl (Or.inl rfl) (peo_op op_cat (peo (pv 2)) (peo_lst (pao_tup2 (peo pe_str) (peo (pe_op op_sub (pe_un un_neg pe_int) (pv 1))) (pao_tup2 (peo pe_str) (peo (pe_op op_add pe_int (pv 1))) (pao_tup2 (peo pe_str) (peo pe_int) (pao_tup2 (peo pe_str) (peo (pe_op op_add pe_int (pe_op op_mod (pv 1) pe_int))) pao_nil)))))))
    (psso_cons (pso_set (i := 2) sc_law_bad_rule.nd rfl (Or.inl rfl) (peo_op op_cat (peo (pv 2)) (peo_lst (pao_tup2 (peo pe_str) (peo pe_int) (pao_tup2 (peo (pe_callC C.law_word hr (by omega) rfl (pa_name (pv 1) pa_nil))) (peo (pe_op op_add pe_int (pe_op op_mod (pv 1) pe_int))) pao_nil)))))
    (psso_one (pso (ps_ret (pe_ix ix_list (pv 2) (pe_op op_mod (pv 0) pe_int) (fun _ _ => rfl))))))))), ?_⟩
  rw [show start n_law_bad_rule [V.int c] = [some (V.int c), none, none] from rfl]
  have sl : ∀ n : Nat, n ≤ 1000 → n ≤ sizeLine := fun n h => Nat.le_trans h (by decide)
  have f0 := Int.emod_nonneg (c / 12) (by decide : (10 : Int) ^ 30 ≠ 0)
  have f1 := Int.emod_lt_of_pos (c / 12) (by decide : (0 : Int) < 10 ^ 30)
  refine seq_of (asg_of (ev_i (ev_i (ev_var rfl) ev_c (by unfold CDiv; decide)) (ev_i ev_c ev_c (by unfold CPow; decide)) (by decide)) ?_)
  dsimp only
  change (0 : Int) ≤ c / 12 % (10 ^ ((30 : Int).toNat)) at f0
  change c / 12 % (10 ^ ((30 : Int).toNat)) < (10 : Int) ^ 30 at f1
  generalize c / 12 % (10 ^ ((30 : Int).toNat)) = far at f0 f1
  have m0 := Int.emod_nonneg far (by decide : (3 : Int) ≠ 0)
  refine seq_of (asgO_of (lstB_of (evb_cons (evk (fun _ => ev_c) (fun _ => ev_c) (nok_low (by decide))) (evb_cons (evk (fun _ => ev_c) (fun _ => ev_c) (nok_low (by decide))) (evb_cons (evk (fun _ => ev_c) (fun _ => ev_c) (nok_low (by decide))) (evb_cons (evk (fun _ => ev_c) (fun _ => ev_c) (nok_high (m := 3) (by decide) (by decide))) (evb_cons (evk (fun _ => ev_c) (fun _ => ev_c) (nok_high (m := 3) (by decide) (by decide))) (evb_cons (evk (fun _ => ev_c) (fun _ => ev_c) (nok_high (m := 40) (by decide) (by decide))) evb_nil)))))) (by decide) fun ps1 p1 H1 s1 l1 b1 e1 => ?_))
  dsimp only
  refine seq_of (asgO_of (catB_of (ev_var rfl) e1 l1 b1 (evb_cons (evk (fun _ => ev_c) (fun _ => ev_i0 (ev_u ev_c) (ev_var rfl)) (nok_low (by omega))) (evb_cons (evk (fun _ => ev_c) (fun _ => ev_i0 ev_c (ev_var rfl)) (nok_high (m := 3) (by decide) (by omega))) (evb_cons (evk (fun _ => ev_c) (fun _ => ev_c) (nok_none (by decide))) (evb_cons (evk (fun _ => ev_c) (fun _ => ev_i0 ev_c (ev_i (ev_var rfl) ev_c (by decide))) (nok_none (by decide))) evb_nil)))) (by decide) (by decide) fun ps2 p2 H2 s2 l2 b2 e2 => ?_))
  dsimp only
  refine seq_of (asgO_of (catB_of (ev_var rfl) e2 l2 b2 (evb_cons (evk (fun _ => ev_c) (fun _ => ev_c) (nok_none (by decide))) (evb_cons (fun Hk R hR => ?_) evb_nil)) (by decide) (by decide) fun ps4 p4 H4 s4 l4 b4 e4 => ?_))
  · exact argO_of (call_of (ev_cons (ev_var rfl) ev_nil) ⟨far, rfl, f0, f1, fun H4 z s4 nz => argE_of (ev_i0 ev_c (ev_i (ev_var rfl) ev_c (by decide))) (hR _ _ H4 s4 (nok_none nz))⟩)
  dsimp only
  obtain ⟨i, hi⟩ : ∃ i : Nat, c % 12 = (i : Int) := ⟨(c % 12).toNat, by omega⟩
  have hlt : i < ps4.length := by omega
  refine ret_of (ev_ixL (ev_var rfl) (ev_i (ev_var rfl) ev_c (by decide)) (.of e4) (by rw [hi]; exact atI_nat (by rw [List.getElem?_map, List.getElem?_eq_getElem hlt]; rfl))) (q _ _ ((s1.trans s2).trans s4) (b4 _ (List.getElem_mem hlt)))
end
section
variable {α : Type} {Rep : Hp → α → V → Prop}
theorem Pd.length {β γ : Type} {F : β → γ → Prop} : ∀ {xs : List β} {vs : List γ}, Paired F xs vs → xs.length = vs.length
  | [], _, h => by cases h; rfl
  | x :: xs, _, h => by
    cases h with
    | cons h t => rw [List.length_cons, List.length_cons, Pd.length t]
theorem Pd.append {β γ : Type} {F : β → γ → Prop} : ∀ {xs : List β} {vs : List γ} {ys : List β} {us : List γ}, Paired F xs vs → Paired F ys us → Paired F (xs ++ ys) (vs ++ us)
  | [], _, _, _, h, h2 => by cases h; exact h2
  | x :: xs, _, _, _, h, h2 => by
    cases h with
    | cons h t => exact .cons h (Pd.append t h2)
theorem Pd.take {β γ : Type} {F : β → γ → Prop} : ∀ {xs : List β} {vs : List γ} (n : Nat), Paired F xs vs → Paired F (xs.take n) (vs.take n)
  | [], _, n, h => by cases h; rw [List.take_nil, List.take_nil]; exact .nil
  | x :: xs, _, 0, h => by rw [List.take_zero, List.take_zero]; exact .nil
  | x :: xs, _, n + 1, h => by
    cases h with
    | cons h t => exact .cons h (Pd.take n t)
theorem Pd.drop {β γ : Type} {F : β → γ → Prop} : ∀ {xs : List β} {vs : List γ} (n : Nat), Paired F xs vs → Paired F (xs.drop n) (vs.drop n)
  | [], _, n, h => by cases h; rw [List.drop_nil, List.drop_nil]; exact .nil
  | x :: xs, _, 0, h => by rw [List.drop_zero, List.drop_zero]; exact h
  | x :: xs, _, n + 1, h => by
    cases h with
    | cons h t => exact Pd.drop n t
theorem Pd.get {β γ : Type} {F : β → γ → Prop} : ∀ {xs : List β} {vs : List γ} {n : Nat} {x : β}, Paired F xs vs → xs[n]? = some x → ∃ v, vs[n]? = some v ∧ F x v
  | [], _, n, x, h, e => by cases e
  | x :: xs, _, 0, y, h, e => by
    cases h with
    | cons h t =>
      injection e with e
      subst e
      exact ⟨_, rfl, h⟩
  | x :: xs, _, n + 1, y, h, e => by
    cases h with
    | cons h t => exact Pd.get (n := n) t (by simpa using e)
theorem cut_take (vs : List V) (j : Nat) : cutV vs none (some (j : Int)) = vs.take j := by
  unfold cutV
  rw [HT.sIx_nat, HT.sIx_none, List.drop_zero, Nat.sub_zero]
  by_cases h : j ≤ vs.length
  · rw [Nat.min_eq_left h]
  · rw [Nat.min_eq_right (by omega), List.take_length, List.take_of_length_le (by omega)]
theorem cut_drop (vs : List V) (j : Nat) : cutV vs (some (j : Int)) none = vs.drop j := by
  unfold cutV
  rw [HT.sIx_nat, HT.sIx_none]
  by_cases h : j ≤ vs.length
  · rw [Nat.min_eq_left h]
    exact List.take_of_length_le (by rw [List.length_drop]; omega)
  · rw [Nat.min_eq_right (by omega), List.drop_length, List.drop_eq_nil_of_le (by omega), List.take_nil]
noncomputable def Sta (Rep : Hp → α → V → Prop) : Prop := ∀ (H H' : Hp) (a : α) (v : V), Same H H' → Rep H a v → Rep H' a v
noncomputable def EvS (Rep : Hp → α → V → Prop) (t : TE) (σ : St) (H : Hp) (xs : List α) : Prop := ∀ Q : VK, (∀ p vs H', Same H H' → H' p = some (.lst vs) → Paired (Rep H') xs vs → Q (.ref p) H') → t σ H Q
noncomputable def EvX (Rep : Hp → α → V → Prop) (t : TE) (σ : St) (H : Hp) (x : α) : Prop := ∀ Q : VK, (∀ v H', Same H H' → Rep H' x v → Q v H') → t σ H Q
structure Ls (Rep : Hp → α → V → Prop) (σ : St) (H : Hp) (i : Nat) (xs : List α) : Prop where
  ex : ∃ a vs, EvE (tVar i) σ H (.ref a) ∧ H a = some (.lst vs) ∧ Paired (Rep H) xs vs
variable {σ : St} {H : Hp} {xs ys : List α} {i j : Nat} {K : PySem.W.Frag}
theorem Ls.same (st : Sta Rep) (h : Ls Rep σ H i xs) {H' : Hp} (s : Same H H') : Ls Rep σ H' i xs := by
  obtain ⟨a, vs, e, l, p⟩ := h.ex
  refine ⟨a, vs, fun Q q => ?_, s _ _ l, Paired.mapP p fun _ _ => st _ _ _ _ s⟩
  have h0 : σ[i]? = some (some (.ref a)) := by
    have := e (fun v H2 => v = .ref a ∧ H2 = H) ⟨rfl, rfl⟩
    obtain ⟨v, hv, rfl, _⟩ := this
    exact hv
  exact ⟨_, h0, q⟩
theorem evs_var (h : Ls Rep σ H i xs) : EvS Rep (tVar i) σ H xs := fun Q q => by
  obtain ⟨a, vs, e, l, p⟩ := h.ex
  exact e _ (q a vs H (Same.refl H) l p)
theorem evs_take {tj : TE} (st : Sta Rep) (h : Ls Rep σ H i xs) (hj : EvE tj σ H (.int (j : Int))) : EvS Rep (tSl (rSlL K) (tVar i) tNoPart (tPart tj)) σ H (xs.take j) := fun Q q => by
  obtain ⟨a, vs, e, l, p⟩ := h.ex
  refine e _ (hj _ ⟨_, rfl, a, vs, rfl, .of l, fun b hb => ?_⟩)
  rw [cut_take]
  exact q b _ _ (same_new hb _) upd_same (Paired.mapP (Pd.take j p) fun _ _ => st _ _ _ _ (same_new hb _))
theorem evs_drop {tj : TE} (st : Sta Rep) (h : Ls Rep σ H i xs) (hj : EvE tj σ H (.int (j : Int))) : EvS Rep (tSl (rSlL K) (tVar i) (tPart tj) tNoPart) σ H (xs.drop j) := fun Q q => by
  obtain ⟨a, vs, e, l, p⟩ := h.ex
  refine e _ (hj _ ⟨_, rfl, a, vs, rfl, .of l, fun b hb => ?_⟩)
  rw [cut_drop]
  exact q b _ _ (same_new hb _) upd_same (Paired.mapP (Pd.drop j p) fun _ _ => st _ _ _ _ (same_new hb _))
theorem evs_cat {ta tb : TE} (st : Sta Rep) (ha : EvS Rep ta σ H xs) (hb : ∀ H', Same H H' → EvS Rep tb σ H' ys) (hl : xs.length + ys.length ≤ 1000) : EvS Rep (tOp rCat ta tb) σ H (xs ++ ys) := fun Q q => by
  have hk : 1000 ≤ sizeLine := by decide
  refine ha _ fun a vs H1 s1 e1 p1 => hb H1 s1 _ fun b us H2 s2 e2 p2 => ⟨a, b, vs, us, rfl, rfl, s2 _ _ e1, e2, by rw [← Pd.length p1, ← Pd.length p2]; omega, fun c hc => ?_⟩
  have s3 := same_new hc (.lst (vs ++ us))
  exact q c _ _ ((s1.trans s2).trans s3) upd_same (Pd.append (Paired.mapP p1 fun _ _ => st _ _ _ _ (s2.trans s3)) (Paired.mapP p2 fun _ _ => st _ _ _ _ s3))
theorem evs_one {te : TE} {x : α} (st : Sta Rep) (h : EvX Rep te σ H x) : EvS Rep (tLst (tCons te tNil)) σ H [x] := fun Q q =>
  h _ fun v H1 s1 r1 => ⟨by show 1 ≤ sizeLine; decide, fun p hp => q p [v] _ (s1.trans (same_new hp _)) upd_same (.cons (st _ _ _ _ (same_new hp _) r1) .nil)⟩
theorem evx_ix {tj : TE} {x : α} (h : Ls Rep σ H i xs) (hj : EvE tj σ H (.int (j : Int))) (hx : xs[j]? = some x) : EvX Rep (tOp (rIxL K) (tVar i) tj) σ H x := fun Q q => by
  obtain ⟨a, vs, e, l, p⟩ := h.ex
  obtain ⟨v, hv, r⟩ := Pd.get p hx
  exact ev_ixL e hj (.of l) (atI_nat hv) _ (q v H (Same.refl H) r)
theorem retS_of {t : TE} {D : Ends} (h : EvS Rep t σ H xs) (q : ∀ p vs H', Same H H' → H' p = some (.lst vs) → Paired (Rep H') xs vs → D.rt (.ref p) H') : tRet t D σ H := h _ q
end
noncomputable def RepI : Hp → Int → V → Prop := fun _ a v => v = .int a
theorem RepI.st : Sta RepI := fun _ _ _ _ _ h => h
theorem repI_list {H : Hp} : ∀ {xs : List Int} {vs : List V}, Paired (RepI H) xs vs → vs = xs.map V.int
  | [], _, h => by cases h; rfl
  | x :: xs, _, h => by
    cases h with
    | cons h t => rw [h, repI_list t]; rfl
theorem repI_of {H : Hp} : ∀ (xs : List Int), Paired (RepI H) xs (xs.map V.int)
  | [] => .nil
  | x :: xs => .cons rfl (repI_of xs)
theorem evx_int {t : TE} {σ : St} {H : Hp} {a : Int} (h : EvE t σ H (.int a)) : EvX RepI t σ H a := fun Q q => h _ (q _ H (Same.refl H) rfl)
noncomputable def rowB (n : Nat) (c : Int) : List Int := (List.range n).map fun k : Nat => 3 * (0 + (k : Int)) + c
noncomputable def rowL (n at' : Nat) (c far : Int) (m : Nat) : List Int :=
  if m = 1 then (rowB n c).take (at' + 1) ++ (rowB n c).drop at'
  else if m = 2 then (rowB n c).take at' ++ [3 * (0 + (at' : Int)) + c + 1] ++ (rowB n c).drop at'
  else if m = 3 then [-1 - far] ++ rowB n c
  else if m = 4 then rowB n c ++ [40 + far]
  else if m = 5 ∨ m = 6 then rowB n c ++ [3 * (0 + (at' : Int)) + c]
  else rowB n c
structure LRow (m : Nat) (xs : List Int) : Prop where
  ri : Rises 39 (-1) xs = !decide (1 ≤ m ∧ m ≤ 6)
  hd : m = 3 → ∃ a r, xs = a :: r ∧ a < 0
  la : m ≠ 3 → ∃ r a, xs = r ++ [a] ∧ decide (0 ≤ a ∧ a < 40) = !decide (m = 4)
theorem rises_end {g b : Int} : ∀ {xs : List Int} {a : Int}, b > g → Rises g a (xs ++ [b]) = false
  | [], a, h => by
    show Rises g a [b] = false
    unfold Rises
    rw [if_pos (.inr h)]
  | x :: xs, a, h => by
    show Rises g a (x :: (xs ++ [b])) = false
    unfold Rises
    split
    · rfl
    · exact rises_end h
noncomputable def lastB {α : Type} (f : α → Bool) (xs : List α) : Bool := match xs.getLast? with
  | some a => f a
  | none => false
theorem last_of {α : Type} {xs : List α} {f : α → Bool} (h : lastB f xs = true) : ∃ r a, xs = r ++ [a] ∧ f a = true := by
  unfold lastB at h
  cases e : xs.getLast? with
  | none => rw [e] at h; cases h
  | some a =>
    rw [e] at h
    exact ⟨xs.dropLast, a, (by
      have hne : xs ≠ [] := fun z => by rw [z] at e; cases e
      rw [List.getLast?_eq_getLast hne] at e
      injection e with e
      rw [← e, List.dropLast_concat_getLast]), h⟩
noncomputable def rowC (n at' c m : Nat) : Bool := m == 3 || m == 4 || ((Rises 39 (-1) (rowL n at' (c : Int) 0 m) == !decide (1 ≤ m ∧ m ≤ 6)) && lastB (fun a => decide (0 ≤ a ∧ a < 40)) (rowL n at' (c : Int) 0 m))
theorem row_small : ∀ n < 6, ∀ at' < n, ∀ c < 3, ∀ m < 10, rowC n at' c m = true := by decide +kernel
theorem rowL_far {n at' m : Nat} {c far : Int} (h3 : m ≠ 3) (h4 : m ≠ 4) : rowL n at' c far m = rowL n at' c 0 m := by
  unfold rowL
  simp only [if_neg h3, if_neg h4]
theorem rowL_ok {n at' m : Nat} {c far : Int} (h5 : n ≤ 5) (ha : at' < n) (c0 : 0 ≤ c) (c3 : c < 3) (hf : 0 ≤ far) (hm : m < 10) : LRow m (rowL n at' c far m) := by
  by_cases h3 : m = 3
  · subst h3
    have e : rowL n at' c far 3 = (-1 - far) :: rowB n c := rfl
    refine ⟨?_, fun _ => ⟨_, _, e, by omega⟩, fun z => absurd rfl z⟩
    rw [e]
    unfold Rises
    rw [if_pos (.inl (by omega))]
    rfl
  by_cases h4 : m = 4
  · subst h4
    have e : rowL n at' c far 4 = rowB n c ++ [40 + far] := rfl
    refine ⟨?_, fun z => absurd z h3, fun _ => ⟨_, _, e, ?_⟩⟩
    · rw [e, rises_end (by omega)]
      rfl
    · rw [decide_eq_false (by omega)]
      rfl
  obtain ⟨d, rfl⟩ : ∃ d : Nat, c = (d : Int) := ⟨c.toNat, by omega⟩
  rw [rowL_far h3 h4]
  have z := row_small n (by omega) at' ha d (by omega) m hm
  unfold rowC at z
  rw [Bool.or_eq_true, Bool.or_eq_true, Bool.and_eq_true, beq_iff_eq, beq_iff_eq, beq_iff_eq] at z
  rcases z with (z | z) | ⟨z1, z2⟩
  · exact absurd z h3
  · exact absurd z h4
  · refine ⟨z1, fun z => absurd z h3, fun _ => ?_⟩
    obtain ⟨r, a, e, f⟩ := last_of (f := fun a => decide (0 ≤ a ∧ a < 40)) z2
    exact ⟨r, a, e, by rw [f, decide_eq_false h4]; rfl⟩
noncomputable abbrev s_law_row : Stmt := top 54
noncomputable abbrev n_law_row : List Str := ["cell", "size", "way", "row", "at"]
noncomputable abbrev p_law_row : List Str := ["cell", "size", "way"]
theorem sc_law_row : FnScope n_law_row p_law_row (defScope s_law_row) := ⟨rfl, rfl, rfl, by decide +kernel, rfl, by decide +kernel, by decide +kernel⟩
noncomputable def spLRow : Sp := fun vs H Q _ => ∃ (c : Int) (n m : Nat), vs = [.int c, .int (n : Int), .int (m : Int)] ∧ 1 ≤ n ∧ n ≤ 5 ∧ m < 10 ∧ ∀ H' p xs, Same H H' → H' p = some (.lst (xs.map V.int)) → LRow m xs → Q (.ref p) H'
section
variable {P : Program} {w : World} {K : PySem.W.Frag} {mg : Str → Option Value} {base : Heap}
set_option pp.deepTerms true in
theorem ok_lrow (D : HasDef K mg "_law_row" s_law_row) (T : TxW mg) : Callee P w K mg base "_law_row" 2 p_law_row spLRow := by
  refine D.ok sc_law_row (fun _ _ _ _ _ _ us hl => match us, hl with | [_, _, _], _ => rfl) (fun vs H Q E h => ?_) (fun f cdv A outer s H vs Q E hr h => ?_)
  · obtain ⟨c, n, m, rfl, _⟩ := h
    rfl
  obtain ⟨c, n, m, rfl, n1, n5, m9, q⟩ := h
  refine ⟨_, (pss_cons (ps_comp (i := 3) (Block.of (out := defScope s_law_row) (N := n_law_row) (x := "k") (frees := ["cell"]) (ix := [0]) (by decide +kernel)) rfl sc_law_row.nd rfl rfl (pi_range1 rfl T.n_range (pa_cons (pv 1) pa_nil)) (fun _ _ _ _ => pts_nil) (fun _ _ _ _ => (pe_op op_add (pe_op op_mul pe_int (pv 0)) (pe_op op_mod (pe_op op_fdiv (pv 1) pe_int) pe_int))))
    (pss_cons (ps_set (i := 4) sc_law_row.nd rfl (Or.inl rfl) (pe_op op_mod (pe_op op_fdiv (pv 0) pe_int) (pv 1)))
    (pss_cons (ps_if (pt_cmpR op_eq (pv 2) pe_int (nomark _)) (pss_one (ps_ret (pe_op op_cat (pe_slice sl_list (pv 3) po_none (po_some (pe_op op_add (pv 4) pe_int))) (pe_slice sl_list (pv 3) (po_some (pv 4)) po_none)))) pss_nil)
    (pss_cons (ps_if (pt_cmpR op_eq (pv 2) pe_int (nomark _)) (pss_one (ps_ret (pe_op op_cat (pe_op op_cat (pe_slice sl_list (pv 3) po_none (po_some (pv 4))) (pe_lst (pa_cons (pe_op op_add (pe_ix ix_list (pv 3) (pv 4) (fun _ _ => rfl)) pe_int) pa_nil))) (pe_slice sl_list (pv 3) (po_some (pv 4)) po_none)))) pss_nil)
    (pss_cons (ps_if (pt_cmpR op_eq (pv 2) pe_int (nomark _)) (pss_one (ps_ret (pe_op op_cat (pe_lst (pa_cons (pe_op op_sub (pe_un un_neg pe_int) (pe_op op_mod (pe_op op_fdiv (pv 0) pe_int) (pe_op op_pow pe_int pe_int))) pa_nil)) (pv 3)))) pss_nil)
    (pss_cons (ps_if (pt_cmpR op_eq (pv 2) pe_int (nomark _)) (pss_one (ps_ret (pe_op op_cat (pv 3) (pe_lst (pa_cons (pe_op op_add pe_int (pe_op op_mod (pe_op op_fdiv (pv 0) pe_int) (pe_op op_pow pe_int pe_int))) pa_nil))))) pss_nil)
    (pss_cons (ps_if (PW.pt (pw_or (pt_cmpR op_eq (pv 2) pe_int (nomark _)) (pw_or1 (pt_cmpR op_eq (pv 2) pe_int (nomark _))))) (pss_one (ps_ret (pe_op op_cat (pv 3) (pe_lst (pa_cons (pe_ix ix_list (pv 3) (pv 4) (fun _ _ => rfl)) pa_nil))))) pss_nil)
    (pss_one (ps_ret (pv 3)))))))))), ?_⟩
  rw [show start n_law_row [V.int c, V.int n, V.int m] = [some (V.int c), some (V.int n), some (V.int m), none, none] from rfl]
  have sl : ∀ n : Nat, n ≤ 1000 → n < sizeLine := fun n h => Nat.lt_of_le_of_lt h (by decide)
  refine seq_of (comp_range (fun k => V.int (3 * (0 + (k : Int)) + c / 3 % 3)) (n := n) (lo := 0) (fun R hR => rng1_of (ev_cons (ev_var rfl) ev_nil) (by omega) (by omega) (by rw [Int.toNat_natCast]; exact hR)) (sl _ (by omega)) (fun k H' R hk _ r => ev_i0 (ev_i ev_c (ev_var rfl) (.inl ⟨by decide, by decide⟩)) (ev_i (ev_i (ev_var rfl) ev_c (by unfold CDiv; decide)) ev_c (by decide)) _ r) fun a ha => ?_)
  dsimp only
  have c0 := Int.emod_nonneg (c / 3) (by decide : (3 : Int) ≠ 0)
  have c3 := Int.emod_lt_of_pos (c / 3) (by decide : (0 : Int) < 3)
  have s1 := same_new ha (.lst ((List.range n).map fun k : Nat => V.int (3 * (0 + (k : Int)) + c / 3 % 3)))
  have e1 : upd H a (.lst ((List.range n).map fun k : Nat => V.int (3 * (0 + (k : Int)) + c / 3 % 3))) a = some (.lst ((rowB n (c / 3 % 3)).map V.int)) := by
    rw [upd_same, rowB, List.map_map]
    rfl
  generalize upd H a (.lst ((List.range n).map fun k : Nat => V.int (3 * (0 + (k : Int)) + c / 3 % 3))) = H1 at s1 e1
  generalize c / 3 % 3 = d at c0 c3 e1
  obtain ⟨at', hat⟩ : ∃ i : Nat, c / 9 % (n : Int) = (i : Int) := ⟨(c / 9 % (n : Int)).toNat, by have := Int.emod_nonneg (c / 9) (by omega : (n : Int) ≠ 0); omega⟩
  have alt : at' < n := by have := Int.emod_lt_of_pos (c / 9) (by omega : (0 : Int) < (n : Int)); omega
  refine seq_of (asg_of (ev_i (ev_i (ev_var rfl) ev_c (by unfold CDiv; decide)) (ev_var rfl) (by omega)) ?_)
  dsimp only
  rw [hat]
  have f0 := Int.emod_nonneg (c / 45) (by decide : (10 : Int) ^ 30 ≠ 0)
  have hL : Ls RepI [some (V.int c), some (V.int (n : Int)), some (V.int (m : Int)), some (V.ref a), some (V.int (at' : Int))] H1 3 (rowB n d) := ⟨a, _, ev_var rfl, e1, repI_of _⟩
  have hLs : ∀ H', Same H1 H' → Ls RepI [some (V.int c), some (V.int (n : Int)), some (V.int (m : Int)), some (V.ref a), some (V.int (at' : Int))] H' 3 (rowB n d) := fun H' s2 => ⟨a, _, ev_var rfl, s2 _ _ e1, repI_of _⟩
  have hx : (rowB n d)[at']? = some (3 * (0 + (at' : Int)) + d) := by
    unfold rowB
    rw [List.getElem?_map, List.getElem?_range alt]
    rfl
  have ln : (rowB n d).length = n := by unfold rowB; rw [List.length_map, List.length_range]
  have lt : ∀ k, ((rowB n d).take k).length ≤ 5 := fun k => by rw [List.length_take]; omega
  have ld : ∀ k, ((rowB n d).drop k).length ≤ 5 := fun k => by rw [List.length_drop]; omega
  have fin : ∀ {xs : List Int}, xs = rowL n at' d (c / 45 % 10 ^ ((30 : Int).toNat)) m → ∀ p vs H', Same H1 H' → H' p = some (.lst vs) → Paired (RepI H') xs vs → Q (.ref p) H' := fun {xs} e p vs H' s2 e2 p2 => by
    rw [repI_list p2] at e2
    exact q H' p xs (s1.trans s2) e2 (by rw [e]; exact rowL_ok n5 alt c0 c3 f0 m9)
  refine seq_of (ifS_of (ev_test (ev_eqI (ev_var rfl) ev_c)) (fun z => ?_) fun z => next_of ?_)
  · have z : (m : Int) = 1 := of_decide_eq_true z
    refine retS_of (Rep := RepI) (xs := (rowB n d).take (at' + 1) ++ (rowB n d).drop at') ?_ (fin (by unfold rowL; rw [if_pos (by omega)]))
    refine evs_cat RepI.st (evs_take RepI.st hL (by rw [show ((at' + 1 : Nat) : Int) = (at' : Int) + 1 from rfl]; exact ev_i0 (ev_var rfl) ev_c)) (fun H' s2 => evs_drop RepI.st (hLs H' s2) (ev_var rfl)) ?_
    have := lt (at' + 1)
    have := ld at'
    omega
  have z1 : ¬ (m : Int) = 1 := of_decide_eq_false z
  clear z
  dsimp only
  refine seq_of (ifS_of (ev_test (ev_eqI (ev_var rfl) ev_c)) (fun z => ?_) fun z => next_of ?_)
  · have z : (m : Int) = 2 := of_decide_eq_true z
    refine retS_of (Rep := RepI) (xs := (rowB n d).take at' ++ [3 * (0 + (at' : Int)) + d + 1] ++ (rowB n d).drop at') ?_ (fin (by unfold rowL; rw [if_neg (by omega), if_pos (by omega)]))
    refine evs_cat RepI.st (evs_cat RepI.st (evs_take RepI.st hL (ev_var rfl)) (fun H' s2 => evs_one RepI.st (evx_int (ev_i0 (ev_ixL (ev_var rfl) (ev_var rfl) (.of (s2 _ _ e1)) (atI_nat (by rw [List.getElem?_map, hx]; rfl))) ev_c))) ?_) (fun H' s2 => evs_drop RepI.st (hLs H' s2) (ev_var rfl)) ?_
    · have := lt at'
      show _ + 1 ≤ 1000
      omega
    · rw [List.length_append]
      have := lt at'
      have := ld at'
      show _ + 1 + _ ≤ 1000
      omega
  have z2 : ¬ (m : Int) = 2 := of_decide_eq_false z
  clear z
  dsimp only
  refine seq_of (ifS_of (ev_test (ev_eqI (ev_var rfl) ev_c)) (fun z => ?_) fun z => next_of ?_)
  · have z : (m : Int) = 3 := of_decide_eq_true z
    refine retS_of (Rep := RepI) (xs := [-1 - c / 45 % 10 ^ ((30 : Int).toNat)] ++ rowB n d) ?_ (fin (by unfold rowL; rw [if_neg (by omega), if_neg (by omega), if_pos (by omega)]))
    refine evs_cat RepI.st (evs_one RepI.st (evx_int (ev_i0 (ev_u ev_c) (ev_i (ev_i (ev_var rfl) ev_c ?_) (ev_i ev_c ev_c ?_) ?_)))) (fun H' s2 => evs_var (hLs H' s2)) ?_
    · unfold CDiv
      decide
    · unfold CPow
      decide
    · decide
    · show 1 + _ ≤ 1000
      omega
  have z3 : ¬ (m : Int) = 3 := of_decide_eq_false z
  clear z
  dsimp only
  refine seq_of (ifS_of (ev_test (ev_eqI (ev_var rfl) ev_c)) (fun z => ?_) fun z => next_of ?_)
  · have z : (m : Int) = 4 := of_decide_eq_true z
    refine retS_of (Rep := RepI) (xs := rowB n d ++ [40 + c / 45 % 10 ^ ((30 : Int).toNat)]) ?_ (fin (by unfold rowL; rw [if_neg (by omega), if_neg (by omega), if_neg (by omega), if_pos (by omega)]))
    refine evs_cat RepI.st (evs_var hL) (fun H' s2 => evs_one RepI.st (evx_int (ev_i0 ev_c (ev_i (ev_i (ev_var rfl) ev_c ?_) (ev_i ev_c ev_c ?_) ?_)))) ?_
    · unfold CDiv
      decide
    · unfold CPow
      decide
    · decide
    · show _ + 1 ≤ 1000
      omega
  have z4 : ¬ (m : Int) = 4 := of_decide_eq_false z
  clear z
  dsimp only
  refine seq_of (ifS_of (ev_or (ev_test (ev_eqI (ev_var rfl) ev_c)) fun _ => ev_test (ev_eqI (ev_var rfl) ev_c)) (fun z => ?_) fun z => next_of ?_)
  · have z : m = 5 ∨ m = 6 := by
      rcases Bool.or_eq_true _ _ ▸ z with z | z
      · have z : (m : Int) = 5 := of_decide_eq_true z
        omega
      · have z : (m : Int) = 6 := of_decide_eq_true z
        omega
    refine retS_of (Rep := RepI) (xs := rowB n d ++ [3 * (0 + (at' : Int)) + d]) ?_ (fin (by unfold rowL; rw [if_neg (by omega), if_neg (by omega), if_neg (by omega), if_neg (by omega), if_pos z]))
    refine evs_cat RepI.st (evs_var hL) (fun H' s2 => evs_one RepI.st (evx_int (ev_ixL (ev_var rfl) (ev_var rfl) (.of (s2 _ _ e1)) (atI_nat (by rw [List.getElem?_map, hx]; rfl))))) ?_
    show _ + 1 ≤ 1000
    omega
  have z5 : ¬ (m = 5 ∨ m = 6) := by
    rw [Bool.or_eq_false_iff] at z
    have z5 : ¬ (m : Int) = 5 := of_decide_eq_false z.1
    have z6 : ¬ (m : Int) = 6 := of_decide_eq_false z.2
    omega
  dsimp only
  exact retS_of (evs_var hL) (fin (by unfold rowL; rw [if_neg (by omega), if_neg (by omega), if_neg (by omega), if_neg (by omega), if_neg z5]))
end
noncomputable def RepP : Hp → Int × Int → V → Prop := fun H a v => ∃ r, v = .ref r ∧ H r = some (.tup [.int a.1, .int a.2])
theorem RepP.st : Sta RepP := fun _ _ _ _ s ⟨r, e, h⟩ => ⟨r, e, s _ _ h⟩
theorem repP_list {K : PySem.W.Frag} {H : Hp} : ∀ {ps : List (Int × Int)} {vs : List V}, Paired (RepP H) ps vs → ∃ rs : List Addr, vs = rs.map V.ref ∧ BI K H ps rs
  | [], _, h => by cases h; exact ⟨[], rfl, .nil⟩
  | p :: ps, _, h => by
    cases h with
    | cons h t =>
      obtain ⟨r, rfl, hr⟩ := h
      obtain ⟨rs, rfl, hb⟩ := repP_list t
      exact ⟨r :: rs, rfl, .cons (.of hr) hb⟩
theorem repP_of {β : Type} {H : Hp} (f : β → Int × Int) : ∀ {bs : List β} {rs : List Addr}, Paired (fun b r => H r = some (.tup [.int (f b).1, .int (f b).2])) bs rs → Paired (RepP H) (bs.map f) (rs.map V.ref)
  | [], _, h => by cases h; exact .nil
  | b :: bs, _, h => by
    cases h with
    | cons h t => exact .cons ⟨_, rfl, h⟩ (repP_of f t)
theorem evx_tup {ta tb : TE} {σ : St} {H : Hp} {a b : Int} (ha : EvE ta σ H (.int a)) (hb : EvE tb σ H (.int b)) : EvX RepP (tTup (tCons ta (tCons tb tNil))) σ H (a, b) := fun Q q =>
  tup_of (ev_cons ha (ev_cons hb ev_nil)) (by show 2 ≤ sizeLine; decide) fun p hp => q _ _ (same_new hp _) ⟨p, rfl, upd_same⟩
noncomputable def brdB (n : Nat) (c : Int) : List (Int × Int) := (List.range n).map fun k : Nat => (c + (0 + (k : Int)), 4 - (0 + (k : Int)))
noncomputable def pick3 (c far : Int) : Int × Int := if c = 0 then (16 + far, 0) else if c = 1 then (15, 16 + far) else (15, -1 - far)
noncomputable def brdL (n at' : Nat) (c far : Int) (m : Nat) : List (Int × Int) :=
  if m = 1 then (brdB n c).take (at' + 1) ++ (brdB n c).drop at'
  else if m = 2 then (brdB n c).take at' ++ [(c + (0 + (at' : Int)), 15)] ++ (brdB n c).drop at'
  else if m = 3 then [(-1 - far, 4)] ++ brdB n c
  else if m = 4 then brdB n c ++ [pick3 c far]
  else if m = 5 then (brdB n c).take at' ++ [(c + (0 + (at' : Int)) + 1, 15)] ++ (brdB n c).drop at'
  else if m = 6 then brdB n c ++ [(c + (0 + (at' : Int)), 4 - (0 + (at' : Int)))]
  else brdB n c
noncomputable def offB (p : Int × Int) : Bool := decide (p.1 < 0 ∨ p.1 > 15 ∨ p.2 < 0 ∨ p.2 > 15)
structure LBrd (m : Nat) (ps : List (Int × Int)) : Prop where
  ri : RisesB (-1, -1) ps = !decide (1 ≤ m ∧ m ≤ 6)
  hd : m = 3 → ∃ a r, ps = a :: r ∧ a.1 < 0
  la : m ≠ 3 → ∃ r a, ps = r ++ [a] ∧ offB a = decide (m = 4)
theorem risesB_end {b : Int × Int} : ∀ {xs : List (Int × Int)} {a : Int × Int}, offB b = true → RisesB a (xs ++ [b]) = false
  | [], a, h => by
    show RisesB a [b] = false
    unfold RisesB
    rw [if_pos (.inl (of_decide_eq_true h))]
  | x :: xs, a, h => by
    show RisesB a (x :: (xs ++ [b])) = false
    unfold RisesB
    split
    · rfl
    · exact risesB_end h
noncomputable def brdC (n at' c m : Nat) : Bool := m == 3 || m == 4 || ((RisesB (-1, -1) (brdL n at' (c : Int) 0 m) == !decide (1 ≤ m ∧ m ≤ 6)) && lastB (fun a => !offB a) (brdL n at' (c : Int) 0 m))
theorem brd_small : ∀ n < 6, ∀ at' < n, ∀ c < 3, ∀ m < 10, brdC n at' c m = true := by decide +kernel
theorem brdL_far {n at' m : Nat} {c far : Int} (h3 : m ≠ 3) (h4 : m ≠ 4) : brdL n at' c far m = brdL n at' c 0 m := by
  unfold brdL
  simp only [if_neg h3, if_neg h4]
theorem brdL_ok {n at' m : Nat} {c far : Int} (h5 : n ≤ 5) (ha : at' < n) (c0 : 0 ≤ c) (c3 : c < 3) (hf : 0 ≤ far) (hm : m < 10) : LBrd m (brdL n at' c far m) := by
  by_cases h3 : m = 3
  · subst h3
    have e : brdL n at' c far 3 = (-1 - far, 4) :: brdB n c := rfl
    refine ⟨?_, fun _ => ⟨_, _, e, by show -1 - far < 0; omega⟩, fun z => absurd rfl z⟩
    rw [e]
    unfold RisesB
    rw [if_pos (.inl (.inl (by show -1 - far < 0; omega)))]
    rfl
  by_cases h4 : m = 4
  · subst h4
    have e : brdL n at' c far 4 = brdB n c ++ [pick3 c far] := rfl
    have o : offB (pick3 c far) = true := by
      unfold offB pick3
      refine decide_eq_true ?_
      split
      · exact .inr (.inl (by show 16 + far > 15; omega))
      · split
        · exact .inr (.inr (.inr (by show 16 + far > 15; omega)))
        · exact .inr (.inr (.inl (by show -1 - far < 0; omega)))
    refine ⟨?_, fun z => absurd z h3, fun _ => ⟨_, _, e, ?_⟩⟩
    · rw [e, risesB_end o]
      rfl
    · rw [o]
      rfl
  obtain ⟨d, rfl⟩ : ∃ d : Nat, c = (d : Int) := ⟨c.toNat, by omega⟩
  rw [brdL_far h3 h4]
  have z := brd_small n (by omega) at' ha d (by omega) m hm
  unfold brdC at z
  rw [Bool.or_eq_true, Bool.or_eq_true, Bool.and_eq_true, beq_iff_eq, beq_iff_eq, beq_iff_eq] at z
  rcases z with (z | z) | ⟨z1, z2⟩
  · exact absurd z h3
  · exact absurd z h4
  · refine ⟨z1, fun z => absurd z h3, fun _ => ?_⟩
    obtain ⟨r, a, e, f⟩ := last_of (f := fun a => !offB a) z2
    have f : (!offB a) = true := f
    exact ⟨r, a, e, by rw [decide_eq_false h4]; simpa using f⟩
noncomputable abbrev s_law_board : Stmt := top 55
noncomputable abbrev n_law_board : List Str := ["cell", "size", "way", "board", "at", "far"]
noncomputable abbrev p_law_board : List Str := ["cell", "size", "way"]
theorem sc_law_board : FnScope n_law_board p_law_board (defScope s_law_board) := ⟨rfl, rfl, rfl, by decide +kernel, rfl, by decide +kernel, by decide +kernel⟩
noncomputable def spLBrd (K : PySem.W.Frag) : Sp := fun vs H Q _ => ∃ (c : Int) (n m : Nat), vs = [.int c, .int (n : Int), .int (m : Int)] ∧ 1 ≤ n ∧ n ≤ 5 ∧ m < 10 ∧ ∀ H' p ps rs, Same H H' → H' p = some (.lst (rs.map V.ref)) → BI K H' ps rs → LBrd m ps → Q (.ref p) H'
section
variable {P : Program} {w : World} {K : PySem.W.Frag} {mg : Str → Option Value} {base : Heap}
set_option pp.deepTerms true in
theorem ok_lboard (D : HasDef K mg "_law_board" s_law_board) (T : TxW mg) : Callee P w K mg base "_law_board" 2 p_law_board (spLBrd K) := by
  refine D.ok sc_law_board (fun _ _ _ _ _ _ us hl => match us, hl with | [_, _, _], _ => rfl) (fun vs H Q E h => ?_) (fun f cdv A outer s H vs Q E hr h => ?_)
  · obtain ⟨c, n, m, rfl, _⟩ := h
    rfl
  obtain ⟨c, n, m, rfl, n1, n5, m9, q⟩ := h
  refine ⟨_, (pss_cons (ps_comp (i := 3) (Block.of (out := defScope s_law_board) (N := n_law_board) (x := "k") (frees := ["cell"]) (ix := [0]) (by decide +kernel)) rfl sc_law_board.nd rfl rfl (pi_range1 rfl T.n_range (pa_name (pv 1) pa_nil)) (fun _ _ _ _ => pts_nil) (fun _ _ _ _ => (pe_tup (pa_bin (pe_op op_add (pe_op op_mod (pe_op op_fdiv (pv 1) pe_int) pe_int) (pv 0)) (pa_bin (pe_op op_sub pe_int (pv 0)) pa_nil)))))
    (pss_cons (ps_set (i := 4) sc_law_board.nd rfl (Or.inl rfl) (pe_op op_mod (pe_op op_fdiv (pv 0) pe_int) (pv 1)))
    (pss_cons (ps_set (i := 5) sc_law_board.nd rfl (Or.inl rfl) (pe_op op_mod (pe_op op_fdiv (pv 0) pe_int) (pe_op op_pow pe_int pe_int)))
    (pss_cons (ps_if (pt_cmpR op_eq (pv 2) pe_int (nomark _)) (pss_one (ps_ret (pe_op op_cat (pe_slice sl_list (pv 3) po_none (po_some (pe_op op_add (pv 4) pe_int))) (pe_slice sl_list (pv 3) (po_some (pv 4)) po_none)))) pss_nil)
    (pss_cons (ps_if (pt_cmpR op_eq (pv 2) pe_int (nomark _)) (pss_one (ps_ret (pe_op op_cat (pe_op op_cat (pe_slice sl_list (pv 3) po_none (po_some (pv 4))) (pe_lst (pa_tup (pe_tup (pa_cons (pe_ix ix_tup (pe_ix ix_list (pv 3) (pv 4) (fun _ _ => rfl)) pe_int (fun _ _ => rfl)) (pa_const pe_int pa_nil))) pa_nil))) (pe_slice sl_list (pv 3) (po_some (pv 4)) po_none)))) pss_nil)
    (pss_cons (ps_if (pt_cmpR op_eq (pv 2) pe_int (nomark _)) (pss_one (ps_ret (pe_op op_cat (pe_lst (pa_tup (pe_tup (pa_bin (pe_op op_sub (pe_un un_neg pe_int) (pv 5)) (pa_const pe_int pa_nil))) pa_nil)) (pv 3)))) pss_nil)
    (pss_cons (ps_if (pt_cmpR op_eq (pv 2) pe_int (nomark _)) (pss_one (ps_ret (pe_op op_cat (pv 3) (pe_lst (pa_cons (pe_ix ix_list (pe_lst (pa_tup (pe_tup (pa_bin (pe_op op_add pe_int (pv 5)) (pa_const pe_int pa_nil))) (pa_tup (pe_tup (pa_const pe_int (pa_bin (pe_op op_add pe_int (pv 5)) pa_nil))) (pa_tup (pe_tup (pa_const pe_int (pa_bin (pe_op op_sub (pe_un un_neg pe_int) (pv 5)) pa_nil))) pa_nil)))) (pe_op op_mod (pe_op op_fdiv (pv 0) pe_int) pe_int) (fun _ _ => rfl)) pa_nil))))) pss_nil)
    (pss_cons (ps_if (pt_cmpR op_eq (pv 2) pe_int (nomark _)) (pss_one (ps_ret (pe_op op_cat (pe_op op_cat (pe_slice sl_list (pv 3) po_none (po_some (pv 4))) (pe_lst (pa_tup (pe_tup (pa_bin (pe_op op_add (pe_ix ix_tup (pe_ix ix_list (pv 3) (pv 4) (fun _ _ => rfl)) pe_int (fun _ _ => rfl)) pe_int) (pa_const pe_int pa_nil))) pa_nil))) (pe_slice sl_list (pv 3) (po_some (pv 4)) po_none)))) pss_nil)
    (pss_cons (ps_if (pt_cmpR op_eq (pv 2) pe_int (nomark _)) (pss_one (ps_ret (pe_op op_cat (pv 3) (pe_lst (pa_cons (pe_ix ix_list (pv 3) (pv 4) (fun _ _ => rfl)) pa_nil))))) pss_nil)
    (pss_one (ps_ret (pv 3)))))))))))), ?_⟩
  rw [show start n_law_board [V.int c, V.int n, V.int m] = [some (V.int c), some (V.int n), some (V.int m), none, none, none] from rfl]
  have sl : ∀ n : Nat, n ≤ 1000 → n < sizeLine := fun n h => Nat.lt_of_le_of_lt h (by decide)
  refine seq_of (comp_range_tif (fun _ => true) (fun k => [V.int (c / 3 % 3 + (0 + (k : Int))), V.int (4 - (0 + (k : Int)))]) (n := n) (lo := 0) (fun R hR => rng1_of (ev_cons (ev_var rfl) ev_nil) (by omega) (by omega) (by rw [Int.toNat_natCast]; exact hR)) (sl _ (by omega)) (fun k H' R hk _ r => r H' (Same.refl H')) (fun k H' R hk _ _ r => tup_of (ev_cons (ev_i0 (ev_i (ev_i (ev_var rfl) ev_c (by unfold CDiv; decide)) ev_c (by decide)) (ev_var rfl)) (ev_cons (ev_i0 ev_c (ev_var rfl)) ev_nil)) (by show 2 ≤ sizeLine; decide) r) fun a rs H1 ha s1 e1 p1 => ?_)
  rw [List.filter_eq_self.mpr (fun _ _ => rfl)] at p1
  dsimp only
  have c0 := Int.emod_nonneg (c / 3) (by decide : (3 : Int) ≠ 0)
  have c3 := Int.emod_lt_of_pos (c / 3) (by decide : (0 : Int) < 3)
  obtain ⟨d, hd⟩ : ∃ d, c / 3 % 3 = d := ⟨_, rfl⟩
  rw [hd] at p1 c0 c3
  have p1 : Paired (RepP H1) (brdB n d) (rs.map V.ref) := repP_of (fun k : Nat => (d + (0 + (k : Int)), 4 - (0 + (k : Int)))) p1
  obtain ⟨at', hat⟩ : ∃ i : Nat, c / 9 % (n : Int) = (i : Int) := ⟨(c / 9 % (n : Int)).toNat, by have := Int.emod_nonneg (c / 9) (by omega : (n : Int) ≠ 0); omega⟩
  have alt : at' < n := by have := Int.emod_lt_of_pos (c / 9) (by omega : (0 : Int) < (n : Int)); omega
  refine seq_of (asg_of (ev_i (ev_i (ev_var rfl) ev_c (by unfold CDiv; decide)) (ev_var rfl) (by omega)) ?_)
  dsimp only
  rw [hat]
  have f0 := Int.emod_nonneg (c / 45) (by decide : (10 : Int) ^ 30 ≠ 0)
  refine seq_of (asg_of (ev_i (ev_i (ev_var rfl) ev_c (by unfold CDiv; decide)) (ev_i ev_c ev_c (by unfold CPow; decide)) (by decide)) ?_)
  dsimp only
  change (0 : Int) ≤ c / 45 % 10 ^ ((30 : Int).toNat) at f0
  generalize c / 45 % 10 ^ ((30 : Int).toNat) = far at f0
  have hLs : ∀ H', Same H1 H' → Ls RepP [some (V.int c), some (V.int (n : Int)), some (V.int (m : Int)), some (V.ref a), some (V.int (at' : Int)), some (V.int far)] H' 3 (brdB n d) := fun H' s2 => ⟨a, _, ev_var rfl, s2 _ _ e1, Paired.mapP p1 fun _ _ => RepP.st _ _ _ _ s2⟩
  have hL := hLs H1 (Same.refl H1)
  have hx : (brdB n d)[at']? = some (d + (0 + (at' : Int)), 4 - (0 + (at' : Int))) := by
    unfold brdB
    rw [List.getElem?_map, List.getElem?_range alt]
    rfl
  have ln : (brdB n d).length = n := by unfold brdB; rw [List.length_map, List.length_range]
  have lt : ∀ k, ((brdB n d).take k).length ≤ 5 := fun k => by rw [List.length_take]; omega
  have ld : ∀ k, ((brdB n d).drop k).length ≤ 5 := fun k => by rw [List.length_drop]; omega
  have fin : ∀ {xs : List (Int × Int)}, xs = brdL n at' d far m → ∀ p vs H', Same H1 H' → H' p = some (.lst vs) → Paired (RepP H') xs vs → Q (.ref p) H' := fun {xs} e p vs H' s2 e2 p2 => by
    obtain ⟨rs, rfl, hb⟩ := repP_list (K := K) p2
    exact q H' p xs rs (s1.trans s2) e2 hb (by rw [e]; exact brdL_ok n5 alt c0 c3 f0 m9)
  obtain ⟨r0, hr0, ht0⟩ : ∃ r, (rs.map V.ref)[at']? = some (V.ref r) ∧ H1 r = some (.tup [.int (d + (0 + (at' : Int))), .int (4 - (0 + (at' : Int)))]) := by
    obtain ⟨v, hv, r, rfl, hr⟩ := Pd.get p1 hx
    exact ⟨r, hv, hr⟩
  refine seq_of (ifS_of (ev_test (ev_eqI (ev_var rfl) ev_c)) (fun z => ?_) fun z => next_of ?_)
  · have z : (m : Int) = 1 := of_decide_eq_true z
    refine retS_of (Rep := RepP) (xs := (brdB n d).take (at' + 1) ++ (brdB n d).drop at') ?_ (fin (by unfold brdL; rw [if_pos (by omega)]))
    refine evs_cat RepP.st (evs_take RepP.st hL (by rw [show ((at' + 1 : Nat) : Int) = (at' : Int) + 1 from rfl]; exact ev_i0 (ev_var rfl) ev_c)) (fun H' s2 => evs_drop RepP.st (hLs H' s2) (ev_var rfl)) ?_
    have := lt (at' + 1)
    have := ld at'
    omega
  have z1 : ¬ (m : Int) = 1 := of_decide_eq_false z
  clear z
  dsimp only
  refine seq_of (ifS_of (ev_test (ev_eqI (ev_var rfl) ev_c)) (fun z => ?_) fun z => next_of ?_)
  · have z : (m : Int) = 2 := of_decide_eq_true z
    refine retS_of (Rep := RepP) (xs := (brdB n d).take at' ++ [(d + (0 + (at' : Int)), 15)] ++ (brdB n d).drop at') ?_ (fin (by unfold brdL; rw [if_neg (by omega), if_pos (by omega)]))
    refine evs_cat RepP.st (evs_cat RepP.st (evs_take RepP.st hL (ev_var rfl)) (fun H' s2 => evs_one RepP.st (evx_tup (ev_ixT (ev_ixL (ev_var rfl) (ev_var rfl) (.of (s2 _ _ e1)) (atI_nat hr0)) ev_c (.of (s2 _ _ ht0)) rfl) ev_c)) ?_) (fun H' s2 => evs_drop RepP.st (hLs H' s2) (ev_var rfl)) ?_
    · have := lt at'
      show _ + 1 ≤ 1000
      omega
    · rw [List.length_append]
      have := lt at'
      have := ld at'
      show _ + 1 + _ ≤ 1000
      omega
  have z2 : ¬ (m : Int) = 2 := of_decide_eq_false z
  clear z
  dsimp only
  refine seq_of (ifS_of (ev_test (ev_eqI (ev_var rfl) ev_c)) (fun z => ?_) fun z => next_of ?_)
  · have z : (m : Int) = 3 := of_decide_eq_true z
    refine retS_of (Rep := RepP) (xs := [(-1 - far, 4)] ++ brdB n d) ?_ (fin (by unfold brdL; rw [if_neg (by omega), if_neg (by omega), if_pos (by omega)]))
    refine evs_cat RepP.st (evs_one RepP.st (evx_tup (ev_i0 (ev_u ev_c) (ev_var rfl)) ev_c)) (fun H' s2 => evs_var (hLs H' s2)) ?_
    show 1 + _ ≤ 1000
    omega
  have z3 : ¬ (m : Int) = 3 := of_decide_eq_false z
  clear z
  dsimp only
  refine seq_of (ifS_of (ev_test (ev_eqI (ev_var rfl) ev_c)) (fun z => ?_) fun z => next_of ?_)
  · have z : (m : Int) = 4 := of_decide_eq_true z
    refine retS_of (Rep := RepP) (xs := brdB n d ++ [pick3 d far]) ?_ (fin (by unfold brdL; rw [if_neg (by omega), if_neg (by omega), if_neg (by omega), if_pos (by omega)]))
    refine evs_cat RepP.st (evs_var hL) (fun H' s2 => evs_one RepP.st fun Q' q' => ?_) ?_
    · refine opO_of (argO_of (tup_of (ev_cons (ev_i0 ev_c (ev_var rfl)) (ev_cons ev_c ev_nil)) (by show 2 ≤ sizeLine; decide) fun b1 hb1 => argO_of (tup_of (ev_cons ev_c (ev_cons (ev_i0 ev_c (ev_var rfl)) ev_nil)) (by show 2 ≤ sizeLine; decide) fun b2 hb2 => arg1_of (tup_of (ev_cons ev_c (ev_cons (ev_i0 (ev_u ev_c) (ev_var rfl)) ev_nil)) (by show 2 ≤ sizeLine; decide) fun b3 hb3 => ⟨by show 3 ≤ sizeLine; decide, fun b4 hb4 => ?_⟩))))
      have t1 := same_new hb1 (.tup [.int (16 + far), .int 0])
      have t2 := same_new hb2 (.tup [.int 15, .int (16 + far)])
      have t3 := same_new hb3 (.tup [.int 15, .int (-1 - far)])
      have t4 := same_new hb4 (.lst [.ref b1, .ref b2, .ref b3])
      have t14 := (t1.trans t2).trans (t3.trans t4)
      have hd3 : d = 0 ∨ d = 1 ∨ d = 2 := by omega
      rcases hd3 with rfl | rfl | rfl
      · refine (ev_i (ev_i (ev_var rfl) ev_c (by unfold CDiv; decide)) ev_c (by decide)) _ ?_
        rw [hd]
        exact ⟨b4, _, 0, .ref b1, rfl, rfl, .of upd_same, rfl, q' _ _ t14 ⟨b1, rfl, t4 _ _ (t3 _ _ (t2 _ _ upd_same))⟩⟩
      · refine (ev_i (ev_i (ev_var rfl) ev_c (by unfold CDiv; decide)) ev_c (by decide)) _ ?_
        rw [hd]
        exact ⟨b4, _, 1, .ref b2, rfl, rfl, .of upd_same, rfl, q' _ _ t14 ⟨b2, rfl, t4 _ _ (t3 _ _ upd_same)⟩⟩
      · refine (ev_i (ev_i (ev_var rfl) ev_c (by unfold CDiv; decide)) ev_c (by decide)) _ ?_
        rw [hd]
        exact ⟨b4, _, 2, .ref b3, rfl, rfl, .of upd_same, rfl, q' _ _ t14 ⟨b3, rfl, t4 _ _ upd_same⟩⟩
    · show _ + 1 ≤ 1000
      omega
  have z4 : ¬ (m : Int) = 4 := of_decide_eq_false z
  clear z
  dsimp only
  refine seq_of (ifS_of (ev_test (ev_eqI (ev_var rfl) ev_c)) (fun z => ?_) fun z => next_of ?_)
  · have z : (m : Int) = 5 := of_decide_eq_true z
    refine retS_of (Rep := RepP) (xs := (brdB n d).take at' ++ [(d + (0 + (at' : Int)) + 1, 15)] ++ (brdB n d).drop at') ?_ (fin (by unfold brdL; rw [if_neg (by omega), if_neg (by omega), if_neg (by omega), if_neg (by omega), if_pos (by omega)]))
    refine evs_cat RepP.st (evs_cat RepP.st (evs_take RepP.st hL (ev_var rfl)) (fun H' s2 => evs_one RepP.st (evx_tup (ev_i0 (ev_ixT (ev_ixL (ev_var rfl) (ev_var rfl) (.of (s2 _ _ e1)) (atI_nat hr0)) ev_c (.of (s2 _ _ ht0)) rfl) ev_c) ev_c)) ?_) (fun H' s2 => evs_drop RepP.st (hLs H' s2) (ev_var rfl)) ?_
    · have := lt at'
      show _ + 1 ≤ 1000
      omega
    · rw [List.length_append]
      have := lt at'
      have := ld at'
      show _ + 1 + _ ≤ 1000
      omega
  have z5 : ¬ (m : Int) = 5 := of_decide_eq_false z
  clear z
  dsimp only
  refine seq_of (ifS_of (ev_test (ev_eqI (ev_var rfl) ev_c)) (fun z => ?_) fun z => next_of ?_)
  · have z : (m : Int) = 6 := of_decide_eq_true z
    refine retS_of (Rep := RepP) (xs := brdB n d ++ [(d + (0 + (at' : Int)), 4 - (0 + (at' : Int)))]) ?_ (fin (by unfold brdL; rw [if_neg (by omega), if_neg (by omega), if_neg (by omega), if_neg (by omega), if_neg (by omega), if_pos (by omega)]))
    refine evs_cat RepP.st (evs_var hL) (fun H' s2 => evs_one RepP.st (evx_ix (hLs H' s2) (ev_var rfl) hx)) ?_
    show _ + 1 ≤ 1000
    omega
  have z6 : ¬ (m : Int) = 6 := of_decide_eq_false z
  clear z
  dsimp only
  exact retS_of (evs_var hL) (fin (by unfold brdL; rw [if_neg (by omega), if_neg (by omega), if_neg (by omega), if_neg (by omega), if_neg (by omega), if_neg (by omega)]))
end
noncomputable abbrev s_law : Stmt := top 59
noncomputable abbrev n_law : List Str := ["script", "which", "rules", "fault", "bad_rule", "size", "way", "bad_place", "given", "due"]
noncomputable abbrev p_law : List Str := ["script"]
theorem sc_law : FnScope n_law p_law (defScope s_law) := ⟨rfl, rfl, rfl, by decide +kernel, rfl, by decide +kernel, by decide +kernel⟩
structure Facts (K : PySem.W.Frag) (mg : Str → Option Value) : Prop where
  d_check_number : HasDef K mg "check_number" s_check_number
  d_check_rule : HasDef K mg "check_rule" s_check_rule
  d_check_place : HasDef K mg "check_place" s_check_place
  d_check_row : HasDef K mg "check_row" s_check_row
  d_check_board_place : HasDef K mg "check_board_place" s_check_board_place
  d_check_board : HasDef K mg "check_board" s_check_board
  d_rises : HasDef K mg "rises" s_rises
  d_fits : HasDef K mg "fits" s_fits
  d_summed : HasDef K mg "summed" s_summed
  d_times : HasDef K mg "times" s_times
  d_product : HasDef K mg "product" s_product
  d_turns : HasDef K mg "turns" s_turns
  d_allows : HasDef K mg "allows" s_allows
  d_after : HasDef K mg "after" s_after
  d_number_of : HasDef K mg "number_of" s_number_of
  d_value : HasDef K mg "value" s_value
  d_reply : HasDef K mg "reply" s_reply
  d_turns_ending : HasDef K mg "turns_ending" s_turns_ending
  d_choices : HasDef K mg "choices" s_choices
  d_sum_of_numbers : HasDef K mg "sum_of_numbers" s_sum_of_numbers
  d_place_number : HasDef K mg "place_number" s_place_number
  d_most_number : HasDef K mg "most_number" s_most_number
  d_has_odd_ones : HasDef K mg "has_odd_ones" s_has_odd_ones
  d_run_number : HasDef K mg "run_number" s_run_number
  d_board_allows : HasDef K mg "board_allows" s_board_allows
  d_board_after : HasDef K mg "board_after" s_board_after
  d_board_number : HasDef K mg "board_number" s_board_number
  d_board_value : HasDef K mg "board_value" s_board_value
  d_board_reply : HasDef K mg "board_reply" s_board_reply
  d_turns_with_sums : HasDef K mg "turns_with_sums" s_turns_with_sums
  d_first_adding : HasDef K mg "first_adding" s_first_adding
  d_kept_product : HasDef K mg "kept_product" s_kept_product
  d_law_cell_at : HasDef K mg "_law_cell_at" s_law_cell_at
  d_law_good_rule : HasDef K mg "_law_good_rule" s_law_good_rule
  d_law_word : HasDef K mg "_law_word" s_law_word
  d_law_bad_rule : HasDef K mg "_law_bad_rule" s_law_bad_rule
  d_law_row : HasDef K mg "_law_row" s_law_row
  d_law_board : HasDef K mg "_law_board" s_law_board
  d_law_called : HasDef K mg "_law_called" s_law_called
  d_law_kinds : HasDef K mg "_law_kinds" s_law_kinds
  d_law_told : HasDef K mg "_law_told" s_law_told
  n_len : mg "len" = none
  n_sorted : mg "sorted" = none
  n_set : mg "set" = none
  n_range : mg "range" = none
  n_min : mg "min" = none
  n_isinstance : mg "isinstance" = none
  n_int : mg "int" = none
  n_list : mg "list" = none
  GREATEST_NUMBER : GInt mg "GREATEST_NUMBER" 65535
  GREATEST_PLACE : GInt mg "GREATEST_PLACE" 39
  GREATEST_BOARD_PLACE : GInt mg "GREATEST_BOARD_PLACE" 15
  BASES : GTup K mg "BASES" [.int 2, .int 4, .int 16, .int 256]
structure Dics (K : PySem.W.Frag) (w : World) (mg : Str → Option Value) : Prop where
  GREATEST_K : GDic K w.params mg "GREATEST_K" [("most", .int 3), ("just", .int 3), ("run", .int 40)]
structure Cl (P : Program) (w : World) (K : PySem.W.Frag) (mg : Str → Option Value) (base : Heap) : Prop where
  law_cell_at : Callee P w K mg base "_law_cell_at" 1 p_law_cell_at (spCell K)
  law_good_rule : Callee P w K mg base "_law_good_rule" 1 p_law_good_rule (spRule 3 40)
  law_bad_rule : Callee P w K mg base "_law_bad_rule" 2 p_law_bad_rule spBadRule
  law_row : Callee P w K mg base "_law_row" 2 p_law_row spLRow
  law_board : Callee P w K mg base "_law_board" 2 p_law_board (spLBrd K)
  law_told : Callee P w K mg base "_law_told" 22 p_law_told (spTold K)
theorem ne_kind {H : Hp} {p q : Addr} {xs ys : List V} (h1 : H p = some (.tup xs)) (h2 : H q = some (.lst ys)) : p ≠ q := fun e => by
  rw [e, h2] at h1
  cases h1
structure RS (pl : Addr) (b0 b1 : Bool) (H : Hp) : Prop where
  ex : ∃ (px py : Addr) (x : Str) (k : Int) (y : Str) (l : Int), H pl = some (.lst [.ref px, .ref py]) ∧ H px = some (.tup [.str x, .int k]) ∧ H py = some (.tup [.str y, .int l]) ∧ (okR x k ↔ b0 = false) ∧ (okR y l ↔ b1 = false)
theorem RS.same {pl : Addr} {b0 b1 : Bool} {H H' : Hp} (h : RS pl b0 b1 H) (s : Same H H') : RS pl b0 b1 H' := by
  obtain ⟨px, py, x, k, y, l, h1, h2, h3, h4, h5⟩ := h.ex
  exact ⟨px, py, x, k, y, l, s _ _ h1, s _ _ h2, s _ _ h3, h4, h5⟩
noncomputable def GB (K : PySem.W.Frag) (H : Hp) (n : Nat) (pg : Addr) (bp : Bool) : Prop :=
  (n < 5 ∧ ∃ xs : List Int, SqL K H pg (xs.map V.int) ∧ (!Rises 39 (-1) xs) = bp) ∨
  (n = 5 ∧ ∃ (xs : List Int) (a : Int), SqL K H pg (xs.map V.int) ∧ atI (xs.map V.int) (-1) = some (.int a) ∧ (!decide (0 ≤ a ∧ a < 40)) = bp) ∨
  (6 ≤ n ∧ n ≤ 9 ∧ ∃ (ps : List (Int × Int)) (rs : List Addr), SqL K H pg (rs.map V.ref) ∧ BI K H ps rs ∧ (!RisesB (-1, -1) ps) = bp) ∨
  (n = 10 ∧ ∃ (rs : List Addr) (r : Addr) (a b : Int), SqL K H pg (rs.map V.ref) ∧ atI (rs.map V.ref) (-1) = some (.ref r) ∧ SqT K H r [.int a, .int b] ∧ decide (a < 0 ∨ a > 15 ∨ b < 0 ∨ b > 15) = bp)
theorem GB.same {K : PySem.W.Frag} {H H' : Hp} {n : Nat} {pg : Addr} {bp : Bool} (h : GB K H n pg bp) (s : Same H H') : GB K H' n pg bp := by
  rcases h with ⟨h, xs, h1, h2⟩ | ⟨h, xs, a, h1, h2, h3⟩ | ⟨h, h', ps, rs, h1, h2, h3⟩ | ⟨h, rs, r, a, b, h1, h2, h3, h4⟩
  · exact .inl ⟨h, xs, s.seq h1, h2⟩
  · exact .inr (.inl ⟨h, xs, a, s.seq h1, h2, h3⟩)
  · exact .inr (.inr (.inl ⟨h, h', ps, rs, s.seq h1, h2.same s, h3⟩))
  · exact .inr (.inr (.inr ⟨h, rs, r, a, b, s.seq h1, h2, s.tup h3, h4⟩))
noncomputable def dueO (n : Nat) (b0 b1 bp : Bool) : Option Nat := if (b0 || (decide (5 < n) && b1)) = true then some 0 else if bp = true then some (if 5 < n then 2 else 1) else if n = 2 ∨ n = 7 then some 3 else none
theorem due_row {n : Nat} {x : Str} {k : Int} {b0 b1 bp : Bool} (hn : n < 6) (h : okR x k ↔ b0 = false) : DueRow n x k bp (dueO n b0 b1 bp) := by
  unfold DueRow dueO
  rw [decide_eq_false (by omega : ¬ 5 < n), Bool.false_and, Bool.or_false]
  cases b0 with
  | true => exact .inl ⟨fun z => (by have := h.mp z; cases this), if_pos rfl⟩
  | false =>
    have ok := h.mpr rfl
    rw [if_neg (by decide)]
    cases bp with
    | true => exact .inr (.inl ⟨ok, rfl, by rw [if_pos rfl, if_neg (by omega)]⟩)
    | false =>
      refine .inr (.inr ⟨ok, rfl, ?_⟩)
      rw [if_neg (by decide)]
      by_cases e : n = 2
      · rw [if_pos (.inl e), if_pos e]
      · rw [if_neg (by omega), if_neg e]
theorem due_brd {n : Nat} {x y : Str} {k l : Int} {b0 b1 bp : Bool} (hn : 6 ≤ n) (h : okR x k ↔ b0 = false) (h' : okR y l ↔ b1 = false) : DueBrd n x k y l bp (dueO n b0 b1 bp) := by
  unfold DueBrd dueO
  rw [decide_eq_true (by omega : 5 < n), Bool.true_and]
  cases b0 with
  | true => exact .inl ⟨fun z => (by have := h.mp z.1; cases this), if_pos rfl⟩
  | false =>
    cases b1 with
    | true => exact .inl ⟨fun z => (by have := h'.mp z.2; cases this), if_pos rfl⟩
    | false =>
      have ok := h.mpr rfl
      have ok' := h'.mpr rfl
      rw [if_neg (by decide)]
      cases bp with
      | true => exact .inr (.inl ⟨ok, ok', rfl, by rw [if_pos rfl, if_pos (by omega)]⟩)
      | false =>
        refine .inr (.inr ⟨ok, ok', rfl, ?_⟩)
        rw [if_neg (by decide)]
        by_cases e : n = 7
        · rw [if_pos (.inr e), if_pos e]
        · rw [if_neg (by omega), if_neg e]
theorem GB.given {K : PySem.W.Frag} {H : Hp} {n : Nat} {pg : Addr} {x y : Str} {k l : Int} {b0 b1 bp : Bool} (h : GB K H n pg bp) (h0 : okR x k ↔ b0 = false) (h1 : okR y l ↔ b1 = false) : Given K H n pg x k y l (dueO n b0 b1 bp) := by
  rcases h with ⟨h, xs, g1, g2⟩ | ⟨h, xs, a, g1, g2, g3⟩ | ⟨h, h', ps, rs, g1, g2, g3⟩ | ⟨h, rs, r, a, b, g1, g2, g3, g4⟩
  · exact .inl ⟨h, xs, g1, by rw [g2]; exact due_row (by omega) h0⟩
  · exact .inr (.inl ⟨h, xs, a, g1, g2, by rw [g3]; exact due_row (by omega) h0⟩)
  · exact .inr (.inr (.inl ⟨h, h', ps, rs, g1, g2, by rw [g3]; exact due_brd (by omega) h0 h1⟩))
  · exact .inr (.inr (.inr ⟨h, rs, r, a, b, g1, g2, g3, by rw [g4]; exact due_brd (by omega) h0 h1⟩))
theorem dueO_lt {n : Nat} {b0 b1 bp : Bool} : ∀ j, dueO n b0 b1 bp = some j → j < 4 := by
  intro j
  unfold dueO
  intro h
  split at h
  · injection h with h; omega
  · split at h
    · injection h with h
      split at h <;> omega
    · split at h
      · injection h with h; omega
      · cases h
noncomputable def boolsOf (o : Option Nat) : List Bool := [decide (o = some 0), decide (o = some 1), decide (o = some 2), decide (o = some 3)]
theorem refs_last {rs : List Addr} {ps : List (Int × Int)} {K : PySem.W.Frag} {H : Hp} {r : List (Int × Int)} {a : Int × Int} (h : BI K H ps rs) (e : ps = r ++ [a]) : ∃ q, atI (rs.map V.ref) (-1) = some (.ref q) ∧ SqT K H q [.int a.1, .int a.2] := by
  have hl : rs.length = r.length + 1 := by
    have := Pd.length h
    rw [e, List.length_append] at this
    exact this.symm
  have hx : ps[r.length]? = some a := by rw [e, List.getElem?_append_right (Nat.le_refl _), Nat.sub_self]; rfl
  obtain ⟨q, hq, hs⟩ := Pd.get h hx
  refine ⟨q, ?_, hs⟩
  have e2 : rs = rs.take r.length ++ [q] := by
    conv => lhs; rw [← List.take_append_drop r.length rs]
    congr 1
    refine List.ext_getElem? fun j => ?_
    rw [List.getElem?_drop]
    match j with
    | 0 => rw [Nat.add_zero, hq]; rfl
    | j + 1 => rw [List.getElem?_eq_none (by omega)]; rfl
  rw [e2, List.map_append]
  exact atI_last _ _
theorem ev_cb {r : List V → Hp → VK → Prop} {ts : TA} {σ : St} {H : Hp} {vs : List V} {v : V} (ha : EvA ts σ H vs) (h : ∀ Q : VK, Q v H → r vs H Q) : EvE (tCB r ts) σ H v := fun Q q => ha _ (h Q q)
section
variable {P : Program} {w : World} {K : PySem.W.Frag} {mg : Str → Option Value} {base : Heap}
set_option pp.deepTerms true in
theorem ok_law {f : Addr} {fd : FuncData} (F : Fun K "law" "law" s_law f fd) (T : Facts K mg) (C : Cl P w K mg base) : FnOk P w K mg base CX0 24 f fd ["script"] (spLaw K) := by
  refine F.ok sc_law (fun vs H Q E h => ?_) (fun cdv A outer s H vs Q E hr h => ?_)
  · obtain ⟨a, ns, rfl, _⟩ := h
    rfl
  obtain ⟨a, ns, rfl, hS, h63, q⟩ := h
  refine ⟨_, (pss_cons (ps_set (i := 1) sc_law.nd rfl (Or.inl rfl) (pe_op op_mod (pe_callC C.law_cell_at hr (by omega) rfl (pa_cons (pv 0) (pa_cons pe_int pa_nil))) pe_int))
    (pss_cons (ps_set (i := 2) sc_law.nd rfl (Or.inl rfl) (pe_lst (pa_cons (pe_callC C.law_good_rule hr (by omega) rfl (pa_cons (pe_callC C.law_cell_at hr (by omega) rfl (pa_cons (pv 0) (pa_cons pe_int pa_nil))) pa_nil)) (pa_cons (pe_callC C.law_good_rule hr (by omega) rfl (pa_cons (pe_callC C.law_cell_at hr (by omega) rfl (pa_cons (pv 0) (pa_cons pe_int pa_nil))) pa_nil)) pa_nil))))
    (pss_cons (ps_set (i := 3) sc_law.nd rfl (Or.inl rfl) (pe_op op_mod (pe_callC C.law_cell_at hr (by omega) rfl (pa_cons (pv 0) (pa_cons pe_int pa_nil))) pe_int))
    (pss_cons (ps_set (i := 4) sc_law.nd rfl (Or.inl rfl) (pe_or (pe_cmpR op_eq (pv 3) pe_int (nomark _)) (pe_or (pe_cmpR op_eq (pv 3) pe_int (nomark _)) (pe_one (pe_and (pe_cmpR op_gt (pv 1) pe_int (nomark _)) (pe_one (pe_or (pe_cmpR op_eq (pv 3) pe_int (nomark _)) (pe_one (pe_cmpR op_eq (pv 3) pe_int (nomark _))))))))))
    (pss_cons (ps_if (PW.pt (pw_or (pt_cmpR op_eq (pv 3) pe_int (nomark _)) (pw_or1 (pt_cmpR op_eq (pv 3) pe_int (nomark _))))) (pss_one (ps_asg (pe_callC C.law_bad_rule hr (by omega) rfl (pa_cons (pe_callC C.law_cell_at hr (by omega) rfl (pa_cons (pv 0) (pa_cons pe_int pa_nil))) pa_nil)) (pg_sub (pv 2) pe_int set_list))) pss_nil)
    (pss_cons (ps_if (PW.pt (pw_or (pt_cmpR op_eq (pv 3) pe_int (nomark _)) (pw_or1 (pt_cmpR op_eq (pv 3) pe_int (nomark _))))) (pss_one (ps_asg (pe_callC C.law_bad_rule hr (by omega) rfl (pa_cons (pe_callC C.law_cell_at hr (by omega) rfl (pa_cons (pv 0) (pa_cons pe_int pa_nil))) pa_nil)) (pg_sub (pv 2) pe_int set_list))) pss_nil)
    (pss_cons (ps_set (i := 5) sc_law.nd rfl (Or.inl rfl) (pe_op op_add pe_int (pe_op op_mod (pe_callC C.law_cell_at hr (by omega) rfl (pa_cons (pv 0) (pa_cons pe_int pa_nil))) pe_int)))
    (pss_cons (ps_set (i := 6) sc_law.nd rfl (Or.inl rfl) (pe_op op_mod (pe_callC C.law_cell_at hr (by omega) rfl (pa_cons (pv 0) (pa_cons pe_int pa_nil))) pe_int))
    (pss_cons (ps_set (i := 7) sc_law.nd rfl (Or.inl rfl) (pe_and (pe_cmpR op_le pe_int (pv 6) (nomark _)) (pe_one (pe_cmpR op_le (pv 6) pe_int (nomark _)))))
    (pss_cons (ps_if (pt_cmpR op_lt (pv 1) pe_int (nomark _)) (pss_one (ps_set (i := 8) sc_law.nd rfl (Or.inl rfl) (pe_callC C.law_row hr (by omega) rfl (pa_cons (pe_callC C.law_cell_at hr (by omega) rfl (pa_cons (pv 0) (pa_cons pe_int pa_nil))) (pa_cons (pv 5) (pa_cons (pv 6) pa_nil)))))) (pss_one (ps_set (i := 8) sc_law.nd rfl (Or.inl rfl) (pe_callC C.law_board hr (by omega) rfl (pa_cons (pe_callC C.law_cell_at hr (by omega) rfl (pa_cons (pv 0) (pa_cons pe_int pa_nil))) (pa_cons (pv 5) (pa_cons (pv 6) pa_nil)))))))
    (pss_cons (ps_if (PW.pt (pw_or (pt_cmpR op_eq (pv 1) pe_int (nomark _)) (pw_or1 (pt_cmpR op_eq (pv 1) pe_int (nomark _))))) (pss_cons (ps_set (i := 7) sc_law.nd rfl (Or.inl rfl) (pe_or (pe_cmpR op_eq (pv 6) pe_int (nomark _)) (pe_one (pe_cmpR op_eq (pv 6) pe_int (nomark _)))))
    (pss_one (ps_if (pt_cmpR op_eq (pv 6) pe_int (nomark _)) (pss_one (ps_set (i := 8) sc_law.nd rfl (Or.inl rfl) (pe_lst (pa_cons (pe_ix ix_list (pv 8) pe_int (fun _ _ => rfl)) pa_nil)))) pss_nil))) pss_nil)
    (pss_cons (ps_set (i := 9) sc_law.nd rfl (Or.inl rfl) (pe_lst (pa_cons pe_bl (pa_cons pe_bl (pa_cons pe_bl (pa_cons pe_bl pa_nil))))))
    (pss_cons (ps_if (pt_val (pv 4)) (pss_one (ps_asg pe_bl (pg_sub (pv 9) pe_int set_list))) (pss_one (ps_if (pt_val (pv 7)) (pss_one (ps_asg pe_bl (pg_sub (pv 9) (pe_op op_add pe_int (pe_callTy call_int1 rfl T.n_int bt_int (pa_cons (pe_cmpR op_gt (pv 1) pe_int (nomark _)) pa_nil))) set_list))) (pss_one (ps_if (PW.pt (pw_or (pt_cmpR op_eq (pv 1) pe_int (nomark _)) (pw_or1 (pt_cmpR op_eq (pv 1) pe_int (nomark _))))) (pss_one (ps_asg pe_bl (pg_sub (pv 9) pe_int set_list))) pss_nil)))))
    (pss_one (ps_ret (pe_cmpR (op_eqB hr) (pe_callC C.law_told hr (by omega) rfl (pa_cons (pv 1) (pa_cons (pv 2) (pa_cons (pv 8) pa_nil)))) (pv 9) (nomark _))))))))))))))))), ?_⟩
  rw [show start n_law [V.ref a] = [some (V.ref a), none, none, none, none, none, none, none, none, none] from rfl]
  have ok24 : ∀ (a b : V), ([a, b] : List V).length ≤ sizeLine := fun a b => by show 2 ≤ sizeLine; decide
  have nat_of : ∀ (c : Int) (k : Nat), 0 < k → ∃ i : Nat, i < k ∧ c % (k : Int) = (i : Int) := fun c k hk => ⟨(c % (k : Int)).toNat, by
    have h0 := Int.emod_nonneg c (by omega : (k : Int) ≠ 0)
    have h1 := Int.emod_lt_of_pos c (by omega : (0 : Int) < (k : Int))
    omega, by
    have h0 := Int.emod_nonneg c (by omega : (k : Int) ≠ 0)
    omega⟩
  obtain ⟨n, n11, hn⟩ := nat_of (cell ns 0) 11 (by decide)
  obtain ⟨f', f8, hf⟩ := nat_of (cell ns 3) 8 (by decide)
  obtain ⟨z5, z5l, hz⟩ := nat_of (cell ns 4) 5 (by decide)
  obtain ⟨m, m10, hm⟩ := nat_of (cell ns 5) 10 (by decide)
  refine seq_of (asg_of (ev_i (ev_cell 0 rfl hS) ev_c (by decide)) ?_)
  dsimp only
  rw [show cell ns 0 % 11 = (n : Int) from hn]
  refine seq_of (ev_cell 1 rfl hS _ ⟨cell ns 1, rfl, fun Hx px sx hx nx => ev_cell 2 rfl (sx.seq hS) _ ⟨cell ns 2, rfl, fun Hy py sy hy ny => ⟨ok24 _ _, fun pl hpl => ?_⟩⟩⟩)
  dsimp only [gName]
  have fr : H pl = none := (sx.trans sy).free hpl
  have r1 : RS pl false false (upd Hy pl (.lst [V.ref px, V.ref py])) := by
    have gx := rule_okR (ruleOf_good (c := cell ns 1) (most := 3) (run := 40) (by decide) (by decide) (by decide) (by decide))
    have gy := rule_okR (ruleOf_good (c := cell ns 2) (most := 3) (run := 40) (by decide) (by decide) (by decide) (by decide))
    refine ⟨px, py, _, _, _, _, upd_same, ?_, ?_, ⟨fun _ => rfl, fun _ => gx⟩, ⟨fun _ => rfl, fun _ => gy⟩⟩
    · rw [upd_ne (ne_of_none (sy _ _ hx) hpl)]
      exact sy _ _ hx
    · rw [upd_ne (ne_of_none hy hpl)]
      exact hy
  have s1 : Same H (upd Hy pl (.lst [V.ref px, V.ref py])) := (sx.trans sy).trans (same_new hpl _)
  generalize upd Hy pl (.lst [V.ref px, V.ref py]) = H1 at r1 s1
  refine seq_of (asg_of (ev_i (ev_cell 3 rfl (s1.seq hS)) ev_c (by decide)) ?_)
  dsimp only
  rw [show cell ns 3 % 8 = (f' : Int) from hf]
  refine seq_of (asg_of (ev_orV (ev_eqI (ev_var rfl) ev_c) fun _ => ev_orV (ev_eqI (ev_var rfl) ev_c) fun _ => ev_andV (ev_i0 (ev_var rfl) ev_c) fun _ => ev_orV (ev_eqI (ev_var rfl) ev_c) fun _ => ev_eqI (ev_var rfl) ev_c) ?_)
  dsimp only
  obtain ⟨b0, hb0⟩ : ∃ b, b = decide (f' = 1 ∨ f' = 3) := ⟨_, rfl⟩
  obtain ⟨b1, hb1⟩ : ∃ b, b = decide (f' = 2 ∨ f' = 3) := ⟨_, rfl⟩
  have hbr : (decide ((f' : Int) = 1) || (decide ((f' : Int) = 3) || (decide (5 < (n : Int)) && (decide ((f' : Int) = 2) || decide ((f' : Int) = 3))))) = (b0 || (decide (5 < n) && b1)) := by
    rw [hb0, hb1, Bool.eq_iff_iff]
    simp only [Bool.or_eq_true, Bool.and_eq_true, decide_eq_true_eq]
    omega
  rw [hbr]
  refine cut (fun σ' H' => σ' = [some (V.ref a), some (V.int (n : Int)), some (V.ref pl), some (V.int (f' : Int)), some (V.bl (b0 || (decide (5 < n) && b1))), none, none, none, none, none] ∧ Same H H' ∧ RS pl b0 false H') (fun X hX => ?_) ?_
  · refine ifS_of (ev_or (ev_test (ev_eqI (ev_var rfl) ev_c)) fun _ => ev_test (ev_eqI (ev_var rfl) ev_c)) (fun z => ?_) fun z => next_of (hX _ _ ⟨rfl, s1, ?_⟩)
    · have hb : b0 = true := by
        rw [hb0]
        simp only [Bool.or_eq_true, decide_eq_true_eq] at z ⊢
        omega
      refine ev_cell 1 rfl (s1.seq hS) _ ⟨cell ns 1, rfl, fun H2 p s2 bd => ?_⟩
      obtain ⟨x, k, hp, nok⟩ := bd
      obtain ⟨px, py, x0, k0, y, l, h1, h2, h3, h4, h5⟩ := r1.ex
      refine ⟨_, rfl, pl, _, 0, 0, rfl, rfl, s2 _ _ h1, rfl, hX _ _ ⟨rfl, (s1.trans s2).upd fr, ?_⟩⟩
      refine ⟨p, py, x, k, y, l, upd_same, ?_, ?_, ?_, h5⟩
      · rw [upd_ne (ne_kind hp (s2 _ _ h1))]
        exact hp
      · rw [upd_ne (ne_kind (s2 _ _ h3) (s2 _ _ h1))]
        exact s2 _ _ h3
      · rw [hb]
        exact ⟨fun z => absurd z nok, fun z => by cases z⟩
    · have hb : b0 = false := by
        rw [hb0]
        simp only [Bool.or_eq_false_iff, decide_eq_false_iff_not] at z ⊢
        omega
      rw [hb]
      exact r1
  rintro σ' H2 ⟨rfl, s2, r2⟩
  clear r1 s1
  refine cut (fun σ' H' => σ' = [some (V.ref a), some (V.int (n : Int)), some (V.ref pl), some (V.int (f' : Int)), some (V.bl (b0 || (decide (5 < n) && b1))), none, none, none, none, none] ∧ Same H H' ∧ RS pl b0 b1 H') (fun X hX => ?_) ?_
  · refine ifS_of (ev_or (ev_test (ev_eqI (ev_var rfl) ev_c)) fun _ => ev_test (ev_eqI (ev_var rfl) ev_c)) (fun z => ?_) fun z => next_of (hX _ _ ⟨rfl, s2, ?_⟩)
    · have hb : b1 = true := by
        rw [hb1]
        simp only [Bool.or_eq_true, decide_eq_true_eq] at z ⊢
        omega
      refine ev_cell 2 rfl (s2.seq hS) _ ⟨cell ns 2, rfl, fun H3 p s3 bd => ?_⟩
      obtain ⟨y, l, hp, nok⟩ := bd
      obtain ⟨px, py, x, k, y0, l0, h1, h2, h3, h4, h5⟩ := r2.ex
      refine ⟨_, rfl, pl, _, 1, 1, rfl, rfl, s3 _ _ h1, rfl, hX _ _ ⟨rfl, (s2.trans s3).upd fr, ?_⟩⟩
      refine ⟨px, p, x, k, y, l, upd_same, ?_, ?_, h4, ?_⟩
      · rw [upd_ne (ne_kind (s3 _ _ h2) (s3 _ _ h1))]
        exact s3 _ _ h2
      · rw [upd_ne (ne_kind hp (s3 _ _ h1))]
        exact hp
      · rw [hb]
        exact ⟨fun z => absurd z nok, fun z => by cases z⟩
    · have hb : b1 = false := by
        rw [hb1]
        simp only [Bool.or_eq_false_iff, decide_eq_false_iff_not] at z ⊢
        omega
      rw [hb]
      exact r2
  rintro σ' H3 ⟨rfl, s3, r3⟩
  clear r2 s2
  generalize hB : (b0 || (decide (5 < n) && b1)) = br
  refine seq_of (asg_of (ev_i0 ev_c (ev_i (ev_cell 4 rfl (s3.seq hS)) ev_c (by decide))) ?_)
  dsimp only
  rw [show 1 + cell ns 4 % 5 = ((z5 + 1 : Nat) : Int) from by rw [show cell ns 4 % 5 = (z5 : Int) from hz]; omega]
  refine seq_of (asg_of (ev_i (ev_cell 5 rfl (s3.seq hS)) ev_c (by decide)) ?_)
  dsimp only
  rw [show cell ns 5 % 10 = (m : Int) from hm]
  refine seq_of (asg_of (ev_andV (ev_i0 ev_c (ev_var rfl)) fun _ => ev_i0 (ev_var rfl) ev_c) ?_)
  dsimp only
  have hbp : (decide (1 ≤ (m : Int)) && decide ((m : Int) ≤ 6)) = decide (1 ≤ m ∧ m ≤ 6) := by
    rw [Bool.eq_iff_iff]
    simp only [Bool.and_eq_true, decide_eq_true_eq]
    omega
  rw [hbp]
  refine cut (fun σ' H' => ∃ pg, σ' = [some (V.ref a), some (V.int (n : Int)), some (V.ref pl), some (V.int (f' : Int)), some (V.bl br), some (V.int ((z5 + 1 : Nat) : Int)), some (V.int (m : Int)), some (V.bl (decide (1 ≤ m ∧ m ≤ 6))), some (V.ref pg), none] ∧ RS pl b0 b1 H' ∧ ((n < 6 ∧ ∃ xs : List Int, H' pg = some (.lst (xs.map V.int)) ∧ LRow m xs) ∨ (6 ≤ n ∧ ∃ (ps : List (Int × Int)) (rs : List Addr), H' pg = some (.lst (rs.map V.ref)) ∧ BI K H' ps rs ∧ LBrd m ps))) (fun X hX => ?_) ?_
  · refine ifS_of (ev_test (ev_i0 (ev_var rfl) ev_c)) (fun z => ?_) fun z => ?_
    · have z : (n : Int) < 6 := of_decide_eq_true z
      exact asgO_of (call_of (ev_cons (ev_cell 6 rfl (s3.seq hS)) (ev_cons (ev_var rfl) (ev_cons (ev_var rfl) ev_nil))) ⟨cell ns 6, z5 + 1, m, rfl, by omega, by omega, m10, fun H4 p xs s4 hp hr => hX _ _ ⟨p, rfl, r3.same s4, .inl ⟨by omega, xs, hp, hr⟩⟩⟩)
    · have z : ¬ (n : Int) < 6 := of_decide_eq_false z
      exact asgO_of (call_of (ev_cons (ev_cell 6 rfl (s3.seq hS)) (ev_cons (ev_var rfl) (ev_cons (ev_var rfl) ev_nil))) ⟨cell ns 6, z5 + 1, m, rfl, by omega, by omega, m10, fun H4 p ps rs s4 hp hbi hr => hX _ _ ⟨p, rfl, r3.same s4, .inr ⟨by omega, ps, rs, hp, hbi, hr⟩⟩⟩)
  rintro σ' H4 ⟨pg, rfl, r4, g4⟩
  clear r3
  refine cut (fun σ' H' => ∃ pg bp, σ' = [some (V.ref a), some (V.int (n : Int)), some (V.ref pl), some (V.int (f' : Int)), some (V.bl br), some (V.int ((z5 + 1 : Nat) : Int)), some (V.int (m : Int)), some (V.bl bp), some (V.ref pg), none] ∧ RS pl b0 b1 H' ∧ GB K H' n pg bp) (fun X hX => ?_) ?_
  · refine ifS_of (ev_or (ev_test (ev_eqI (ev_var rfl) ev_c)) fun _ => ev_test (ev_eqI (ev_var rfl) ev_c)) (fun z => ?_) fun z => next_of (hX _ _ ⟨pg, _, rfl, r4, ?_⟩)
    · have z : n = 5 ∨ n = 10 := by
        simp only [Bool.or_eq_true, decide_eq_true_eq] at z
        omega
      refine seq_of (asg_of (ev_orV (ev_eqI (ev_var rfl) ev_c) fun _ => ev_eqI (ev_var rfl) ev_c) ?_)
      dsimp only
      have hbq : (decide ((m : Int) = 3) || decide ((m : Int) = 4)) = decide (m = 3 ∨ m = 4) := by
        rw [Bool.eq_iff_iff]
        simp only [Bool.or_eq_true, decide_eq_true_eq]
        omega
      rw [hbq]
      refine ifS_of (ev_test (ev_eqI (ev_var rfl) ev_c)) (fun c => ?_) fun c => next_of (hX _ _ ⟨pg, _, rfl, r4, ?_⟩)
      · have c : (m : Int) = 3 := of_decide_eq_true c
        have c3 : m = 3 := by omega
        rcases g4 with ⟨n6, xs, hp, lr⟩ | ⟨n6, ps, rs, hp, hbi, lr⟩
        · obtain ⟨x, r, rfl, x0⟩ := lr.hd c3
          refine asgO_of (lst_of (ev_cons (ev_ixL (ev_var rfl) ev_c (.of hp) (atI_nat (j := 0) rfl)) ev_nil) (by show 1 ≤ sizeLine; decide) fun p2 hp2 => hX _ _ ⟨p2, _, rfl, r4.same (same_new hp2 _), .inr (.inl ⟨by omega, [x], x, .of upd_same, rfl, ?_⟩)⟩)
          rw [decide_eq_false (by omega), decide_eq_true (.inl c3)]
          rfl
        · obtain ⟨x, r, rfl, x0⟩ := lr.hd c3
          cases hbi with
          | cons h t =>
            rename_i r0 rs0
            refine asgO_of (lst_of (ev_cons (ev_ixL (ev_var rfl) ev_c (.of hp) (atI_nat (j := 0) rfl)) ev_nil) (by show 1 ≤ sizeLine; decide) fun p2 hp2 => hX _ _ ⟨p2, _, rfl, r4.same (same_new hp2 _), .inr (.inr (.inr ⟨by omega, [r0], r0, x.1, x.2, .of upd_same, rfl, (same_new hp2 _).tup h, ?_⟩))⟩)
            rw [decide_eq_true (.inl x0), decide_eq_true (.inl c3)]
      · have c : ¬ (m : Int) = 3 := of_decide_eq_false c
        have c3 : m ≠ 3 := by omega
        have e4 : decide (m = 3 ∨ m = 4) = decide (m = 4) := by
          rw [Bool.eq_iff_iff]
          simp only [decide_eq_true_eq]
          omega
        rw [e4]
        rcases g4 with ⟨n6, xs, hp, lr⟩ | ⟨n6, ps, rs, hp, hbi, lr⟩
        · obtain ⟨r, x, rfl, hx⟩ := lr.la c3
          refine .inr (.inl ⟨by omega, _, x, .of hp, ?_, by rw [hx, Bool.not_not]⟩)
          rw [List.map_append]
          exact atI_last _ _
        · obtain ⟨r, x, e, hx⟩ := lr.la c3
          obtain ⟨q', hq, hs⟩ := refs_last hbi e
          exact .inr (.inr (.inr ⟨by omega, rs, q', x.1, x.2, .of hp, hq, hs, hx⟩))
    · have z : n ≠ 5 ∧ n ≠ 10 := by
        simp only [Bool.or_eq_false_iff, decide_eq_false_iff_not] at z
        omega
      rcases g4 with ⟨n6, xs, hp, lr⟩ | ⟨n6, ps, rs, hp, hbi, lr⟩
      · exact .inl ⟨by omega, xs, .of hp, by rw [lr.ri, Bool.not_not]⟩
      · exact .inr (.inr (.inl ⟨by omega, by omega, ps, rs, .of hp, hbi, by rw [lr.ri, Bool.not_not]⟩))
  rintro σ' H5 ⟨pg, bp, rfl, r5, g5⟩
  clear r4 g4
  refine seq_of (lst_of (ev_cons ev_c (ev_cons ev_c (ev_cons ev_c (ev_cons ev_c ev_nil)))) (by show 4 ≤ sizeLine; decide) fun pd hpd => ?_)
  dsimp only [gName]
  have hd0 : upd H5 pd (.lst [V.bl false, V.bl false, V.bl false, V.bl false]) pd = some (.lst [V.bl false, V.bl false, V.bl false, V.bl false]) := upd_same
  have sd := same_new hpd (.lst [V.bl false, V.bl false, V.bl false, V.bl false])
  refine cut (fun σ' H' => σ' = [some (V.ref a), some (V.int (n : Int)), some (V.ref pl), some (V.int (f' : Int)), some (V.bl br), some (V.int ((z5 + 1 : Nat) : Int)), some (V.int (m : Int)), some (V.bl bp), some (V.ref pg), some (V.ref pd)] ∧ Same H5 H' ∧ H' pd = some (.lst (kindsOf (dueO n b0 b1 bp)))) (fun X hX => ?_) ?_
  · unfold dueO at hX
    rw [hB] at hX
    refine ifS_of (ev_tB (ev_var rfl)) (fun z => ?_) fun z => ?_
    · rw [if_pos z] at hX
      exact ⟨_, rfl, pd, _, 0, 0, rfl, rfl, hd0, rfl, hX _ _ ⟨rfl, sd.upd hpd, upd_same⟩⟩
    · rw [if_neg (by rw [z]; decide)] at hX
      refine ifS_of (ev_tB (ev_var rfl)) (fun z => ?_) fun z => ?_
      · rw [if_pos z] at hX
        by_cases c : 5 < n
        · rw [if_pos c] at hX
          refine ⟨_, rfl, ev_i0 ev_c (ev_cb (ev_cons (ev_i0 (ev_var rfl) ev_c) ev_nil) fun Q q => .inr ⟨true, by rw [decide_eq_true (by omega)], q⟩) _ ⟨pd, _, 2, 2, rfl, rfl, hd0, rfl, hX _ _ ⟨rfl, sd.upd hpd, upd_same⟩⟩⟩
        · rw [if_neg c] at hX
          refine ⟨_, rfl, ev_i0 ev_c (ev_cb (ev_cons (ev_i0 (ev_var rfl) ev_c) ev_nil) fun Q q => .inr ⟨false, by rw [decide_eq_false (by omega)], q⟩) _ ⟨pd, _, 1, 1, rfl, rfl, hd0, rfl, hX _ _ ⟨rfl, sd.upd hpd, upd_same⟩⟩⟩
      · rw [if_neg (by rw [z]; decide)] at hX
        refine ifS_of (ev_or (ev_test (ev_eqI (ev_var rfl) ev_c)) fun _ => ev_test (ev_eqI (ev_var rfl) ev_c)) (fun z => ?_) fun z => next_of ?_
        · have z : n = 2 ∨ n = 7 := by
            simp only [Bool.or_eq_true, decide_eq_true_eq] at z
            omega
          rw [if_pos z] at hX
          exact ⟨_, rfl, pd, _, 3, 3, rfl, rfl, hd0, rfl, hX _ _ ⟨rfl, sd.upd hpd, upd_same⟩⟩
        · have z : ¬ (n = 2 ∨ n = 7) := by
            simp only [Bool.or_eq_false_iff, decide_eq_false_iff_not] at z
            omega
          rw [if_neg z] at hX
          exact hX _ _ ⟨rfl, sd, upd_same⟩
  rintro σ' H6 ⟨rfl, s6, hd⟩
  obtain ⟨px, py, x, k, y, l, h1, h2, h3, h4, h5⟩ := (r5.same s6).ex
  refine retO_of (opO_of (call_of (ev_cons (ev_var rfl) (ev_cons (ev_var rfl) (ev_cons (ev_var rfl) ev_nil))) ⟨n, pl, px, py, pg, x, k, y, l, dueO n b0 b1 bp, rfl, .of h1, .of h2, .of h3, (g5.same s6).given h4 h5, dueO_lt, fun H7 p s7 hp => ⟨_, rfl, p, pd, boolsOf (dueO n b0 b1 bp), boolsOf (dueO n b0 b1 bp), rfl, rfl, .of hp, .of (s7 _ _ hd), rfl, fun b hb => ?_⟩⟩))
  rw [hb.mpr rfl]
  exact q _
end
section
variable {P : Program} {w : World} {K : PySem.W.Frag} {mg : Str → Option Value} {base : Heap} {cC cN cB cO cR cU cT : Addr}
theorem all {f : Addr} {fd : FuncData} (D : Facts K mg) (D2 : Dics K w mg) (T : TxE K mg cC cN cB cO cR cU cT) (F : Fun K "law" "law" s_law f fd) : FnOk P w K mg base CX0 24 f fd ["script"] (spLaw K) := by
  have cr : Callee P w K mg base "check_rule" 1 p_check_rule (spCheckRule K) := ok_checkRule D.d_check_rule ⟨D2.GREATEST_K⟩
  have ri : Callee P w K mg base "rises" 1 p_rises (spRises K) := ok_rises D.d_rises
  have cw : Callee P w K mg base "check_row" 2 p_check_row (spCheckRow K) := ok_checkRow D.d_check_row ⟨D.GREATEST_PLACE⟩ ⟨ri⟩
  have cp : Callee P w K mg base "check_place" 1 p_check_place spCheckPlace := ok_checkPlace D.d_check_place ⟨D.GREATEST_PLACE⟩
  have pn : Callee P w K mg base "place_number" 3 p_place_number (spPlaceN K) := ok_placeNum D.d_place_number ⟨ok_runNum D.d_run_number, ok_mostNum D.d_most_number ⟨ok_odd D.d_has_odd_ones⟩⟩
  have ck : Callee P w K mg base "check_number" 1 p_check_number spCheck := ok_check D.d_check_number ⟨D.GREATEST_NUMBER⟩
  have su : Callee P w K mg base "summed" 2 p_summed spSummedN := ok_summedN D.d_summed ⟨ck⟩
  have so : Callee P w K mg base "sum_of_numbers" 4 p_sum_of_numbers (spSumOf K) := ok_sumOf D.d_sum_of_numbers ⟨su, pn⟩
  have ti : Callee P w K mg base "times" 6 p_times spTimes := ok_times D.d_times ⟨D.n_len, D.BASES⟩ ⟨ck, prodN D.d_product ⟨D.n_len, D.BASES⟩ 5⟩
  have cb : Callee P w K mg base "check_board_place" 1 p_check_board_place spCheckBP := ok_checkBP D.d_check_board_place ⟨D.GREATEST_BOARD_PLACE⟩
  have no := ok_numberOf (P := P) (w := w) (base := base) D.d_number_of ⟨cr, cp, pn⟩
  have bn := ok_boardNumber (P := P) (w := w) (base := base) D.d_board_number ⟨cr, cb, no.c, ti⟩
  have bv := ok_boardValue (P := P) (w := w) (base := base) D.d_board_value ⟨cr, ok_checkBoard D.d_check_board ⟨cb⟩, su, bn.c⟩
  have te : Callee P w K mg base "turns_ending" 5 p_turns_ending (spEnds K) := ok_ends D.d_turns_ending ⟨D.n_range, D.n_list, D.n_min⟩ ⟨chsN D.d_choices ⟨D.n_range, D.n_list, D.n_min⟩ 3⟩
  have tu := ok_turns (P := P) (w := w) (base := base) D.d_turns ⟨cr, cw, te⟩
  have va := ok_value (P := P) (w := w) (base := base) D.d_value ⟨cr, cw, so⟩
  have re := ok_reply (P := P) (w := w) (base := base) D.d_reply ⟨va.c, te, so⟩
  have br := ok_boardReply (P := P) (w := w) (base := base) D.d_board_reply ⟨bv.c, ok_sums D.d_turns_with_sums ⟨te, so⟩, ok_firstAdd D.d_first_adding ⟨ok_kept D.d_kept_product ⟨ti⟩⟩⟩
  have X : TxX K w mg cB cR cU cT := ⟨D2.GREATEST_K, D.GREATEST_PLACE, D.GREATEST_BOARD_PLACE, T.r_NoRule, T.r_NoRow, T.r_NoBoard, T.r_NoTurn⟩
  have xb : CalleeX P w K mg base "check_board_place" 1 p_check_board_place (spCheckBPX cB) := ok_checkBPX D.d_check_board_place X
  have C : Cck P w K mg base cU cR cB := ⟨ok_checkRuleX D.d_check_rule X, ok_checkRowX D.d_check_row X ⟨ri⟩, ok_checkPlaceX D.d_check_place X, xb, ok_checkBoardX D.d_check_board X ⟨xb⟩⟩
  have A : CnAl P w K mg base cU cR cB := { C with fits := ok_fitsNil D.d_fits ⟨ri⟩ }
  have al := ok_allowsX D.d_allows X A
  have ba := ok_boardAllowsX D.d_board_allows X A
  have vx := ok_valueX D.d_value C
  have bx := ok_boardValueX D.d_board_value C
  have ce : Cel P w K mg base cU cR cB cT := ⟨tu.both (ok_turnsX D.d_turns C) (by decide), al, ok_afterX D.d_after X ⟨al⟩, va.both vx (by decide), re.both (ok_replyX D.d_reply ⟨vx.cx⟩) (by decide), no.both (ok_numberOfX D.d_number_of C) (by decide), ba, ok_boardAfterX D.d_board_after X ⟨ba⟩, bv.both bx (by decide), br.both (ok_boardReplyX D.d_board_reply ⟨bx.cx⟩) (by decide), bn.both (ok_boardNumberX D.d_board_number C) (by decide)⟩
  have to : Callee P w K mg base "_law_told" 22 p_law_told (spTold K) := ok_told D.d_law_told T ⟨ok_called D.d_law_called ce, ok_kinds D.d_law_kinds T⟩
  exact ok_law F D ⟨ok_cell D.d_law_cell_at D.n_len, ok_goodRule D.d_law_good_rule, ok_badRule D.d_law_bad_rule ⟨ok_word D.d_law_word ⟨D.n_range⟩⟩, ok_lrow D.d_law_row ⟨D.n_range⟩, ok_lboard D.d_law_board ⟨D.n_range⟩, to⟩
end
end H
theorem PySem.W.Fast.tw11663151426877842850 : True := trivial
theorem PySem.W.Fast.tw15763413990570426679 : True := trivial
theorem PySem.W.Fast.tw16004770234835916427 : True := trivial
theorem PySem.W.Fast.tw1130129555484698427 : True := trivial
theorem PySem.W.Fast.tw17873820116119985102 : True := trivial
theorem PySem.W.Fast.tw7180302564636725980 : True := trivial
open PySem PySem.W PyProof.Rows
set_option maxRecDepth 100000 in
set_option maxHeartbeats 0 in
theorem PySem.Challenge.cw_coinrows_k18_which_refusal_holds : PySem.Challenge.rw_coinrows_k18_which_refusal.Holds := by
  w_on; o_law; k_head; (case hw => w_witness2)
  k_fill
  refine L2.law_walk (l := PySem.Challenge.rw_coinrows_k18_which_refusal) (k := 24) (st := H.s_law) ⟨rfl, by decide, by decide⟩ rfl rfl rfl (fun _ _ _ _ _ _ u => rfl) (fun w h Y => PySem.W.kIn_of Y) ?F
  case F =>
    intro w mg h KX G
    have D : H.Facts (L2.KOf KX) mg := by
      dsimp only [L2.KOf]
      refine' ⟨L2.hasDef KX G ?a1 ?l1 ?c1 ?k1, L2.hasDef KX G ?a2 ?l2 ?c2 ?k2, L2.hasDef KX G ?a3 ?l3 ?c3 ?k3, L2.hasDef KX G ?a4 ?l4 ?c4 ?k4, L2.hasDef KX G ?a5 ?l5 ?c5 ?k5, L2.hasDef KX G ?a6 ?l6 ?c6 ?k6, L2.hasDef KX G ?a7 ?l7 ?c7 ?k7, L2.hasDef KX G ?a8 ?l8 ?c8 ?k8, L2.hasDef KX G ?a9 ?l9 ?c9 ?k9, L2.hasDef KX G ?a10 ?l10 ?c10 ?k10, L2.hasDef KX G ?a11 ?l11 ?c11 ?k11, L2.hasDef KX G ?a12 ?l12 ?c12 ?k12, L2.hasDef KX G ?a13 ?l13 ?c13 ?k13, L2.hasDef KX G ?a14 ?l14 ?c14 ?k14, L2.hasDef KX G ?a15 ?l15 ?c15 ?k15, L2.hasDef KX G ?a16 ?l16 ?c16 ?k16, L2.hasDef KX G ?a17 ?l17 ?c17 ?k17, L2.hasDef KX G ?a18 ?l18 ?c18 ?k18, L2.hasDef KX G ?a19 ?l19 ?c19 ?k19, L2.hasDef KX G ?a20 ?l20 ?c20 ?k20, L2.hasDef KX G ?a21 ?l21 ?c21 ?k21, L2.hasDef KX G ?a22 ?l22 ?c22 ?k22, L2.hasDef KX G ?a23 ?l23 ?c23 ?k23, L2.hasDef KX G ?a24 ?l24 ?c24 ?k24, L2.hasDef KX G ?a25 ?l25 ?c25 ?k25, L2.hasDef KX G ?a26 ?l26 ?c26 ?k26, L2.hasDef KX G ?a27 ?l27 ?c27 ?k27, L2.hasDef KX G ?a28 ?l28 ?c28 ?k28, L2.hasDef KX G ?a29 ?l29 ?c29 ?k29, L2.hasDef KX G ?a30 ?l30 ?c30 ?k30, L2.hasDef KX G ?a31 ?l31 ?c31 ?k31, L2.hasDef KX G ?a32 ?l32 ?c32 ?k32, L2.hasDef KX G ?a33 ?l33 ?c33 ?k33, L2.hasDef KX G ?a34 ?l34 ?c34 ?k34, L2.hasDef KX G ?a35 ?l35 ?c35 ?k35, L2.hasDef KX G ?a36 ?l36 ?c36 ?k36, L2.hasDef KX G ?a37 ?l37 ?c37 ?k37, L2.hasDef KX G ?a38 ?l38 ?c38 ?k38, L2.hasDef KX G ?a39 ?l39 ?c39 ?k39, L2.hasDef KX G ?a40 ?l40 ?c40 ?k40, L2.hasDef KX G ?a41 ?l41 ?c41 ?k41, PySem.W.mg_none_of KX G ?z42, PySem.W.mg_none_of KX G ?z43, PySem.W.mg_none_of KX G ?z44, PySem.W.mg_none_of KX G ?z45, PySem.W.mg_none_of KX G ?z46, PySem.W.mg_none_of KX G ?z47, PySem.W.mg_none_of KX G ?z48, PySem.W.mg_none_of KX G ?z49, L2.glob_int KX G ?z50, L2.glob_int KX G ?z51, L2.glob_int KX G ?z52, L2.glob_tup KX G ?y54 ?z54 ?v54 ?w54⟩
      (case a1 => k_is); (case l1 => k_is); (case c1 => k_is); (case k1 => k_is)
      (case a2 => k_is); (case l2 => k_is); (case c2 => k_is); (case k2 => k_is)
      (case a3 => k_is); (case l3 => k_is); (case c3 => k_is); (case k3 => k_is)
      (case a4 => k_is); (case l4 => k_is); (case c4 => k_is); (case k4 => k_is)
      (case a5 => k_is); (case l5 => k_is); (case c5 => k_is); (case k5 => k_is)
      (case a6 => k_is); (case l6 => k_is); (case c6 => k_is); (case k6 => k_is)
      (case a7 => k_is); (case l7 => k_is); (case c7 => k_is); (case k7 => k_is)
      (case a8 => k_is); (case l8 => k_is); (case c8 => k_is); (case k8 => k_is)
      (case a9 => k_is); (case l9 => k_is); (case c9 => k_is); (case k9 => k_is)
      (case a10 => k_is); (case l10 => k_is); (case c10 => k_is); (case k10 => k_is)
      (case a11 => k_is); (case l11 => k_is); (case c11 => k_is); (case k11 => k_is)
      (case a12 => k_is); (case l12 => k_is); (case c12 => k_is); (case k12 => k_is)
      (case a13 => k_is); (case l13 => k_is); (case c13 => k_is); (case k13 => k_is)
      (case a14 => k_is); (case l14 => k_is); (case c14 => k_is); (case k14 => k_is)
      (case a15 => k_is); (case l15 => k_is); (case c15 => k_is); (case k15 => k_is)
      (case a16 => k_is); (case l16 => k_is); (case c16 => k_is); (case k16 => k_is)
      (case a17 => k_is); (case l17 => k_is); (case c17 => k_is); (case k17 => k_is)
      (case a18 => k_is); (case l18 => k_is); (case c18 => k_is); (case k18 => k_is)
      (case a19 => k_is); (case l19 => k_is); (case c19 => k_is); (case k19 => k_is)
      (case a20 => k_is); (case l20 => k_is); (case c20 => k_is); (case k20 => k_is)
      (case a21 => k_is); (case l21 => k_is); (case c21 => k_is); (case k21 => k_is)
      (case a22 => k_is); (case l22 => k_is); (case c22 => k_is); (case k22 => k_is)
      (case a23 => k_is); (case l23 => k_is); (case c23 => k_is); (case k23 => k_is)
      (case a24 => k_is); (case l24 => k_is); (case c24 => k_is); (case k24 => k_is)
      (case a25 => k_is); (case l25 => k_is); (case c25 => k_is); (case k25 => k_is)
      (case a26 => k_is); (case l26 => k_is); (case c26 => k_is); (case k26 => k_is)
      (case a27 => k_is); (case l27 => k_is); (case c27 => k_is); (case k27 => k_is)
      (case a28 => k_is); (case l28 => k_is); (case c28 => k_is); (case k28 => k_is)
      (case a29 => k_is); (case l29 => k_is); (case c29 => k_is); (case k29 => k_is)
      (case a30 => k_is); (case l30 => k_is); (case c30 => k_is); (case k30 => k_is)
      (case a31 => k_is); (case l31 => k_is); (case c31 => k_is); (case k31 => k_is)
      (case a32 => k_is); (case l32 => k_is); (case c32 => k_is); (case k32 => k_is)
      (case a33 => k_is); (case l33 => k_is); (case c33 => k_is); (case k33 => k_is)
      (case a34 => k_is); (case l34 => k_is); (case c34 => k_is); (case k34 => k_is)
      (case a35 => k_is); (case l35 => k_is); (case c35 => k_is); (case k35 => k_is)
      (case a36 => k_is); (case l36 => k_is); (case c36 => k_is); (case k36 => k_is)
      (case a37 => k_is); (case l37 => k_is); (case c37 => k_is); (case k37 => k_is)
      (case a38 => k_is); (case l38 => k_is); (case c38 => k_is); (case k38 => k_is)
      (case a39 => k_is); (case l39 => k_is); (case c39 => k_is); (case k39 => k_is)
      (case a40 => k_is); (case l40 => k_is); (case c40 => k_is); (case k40 => k_is)
      (case a41 => k_is); (case l41 => k_is); (case c41 => k_is); (case k41 => k_is)
      (case z42 => k_is)
      (case z43 => k_is)
      (case z44 => k_is)
      (case z45 => k_is)
      (case z46 => k_is)
      (case z47 => k_is)
      (case z48 => k_is)
      (case z49 => k_is)
      (case z50 => k_is)
      (case z51 => k_is)
      (case z52 => k_is)
      (case y54 => k_is); (case z54 => k_is); (case v54 => exact (.cons ⟨_, rfl⟩ (.cons ⟨_, rfl⟩ (.cons ⟨_, rfl⟩ (.cons ⟨_, rfl⟩ .nil))))); (case w54 => decide)
    have L : L2.HasDef (L2.KOf KX) mg "law" H.s_law := by
      dsimp only [L2.KOf]
      refine' L2.hasDef KX G ?a1 ?l1 ?c1 ?k1
      (case a1 => k_is); (case l1 => k_is); (case c1 => k_is); (case k1 => k_is)
    have D2 : H.Dics (L2.KOf KX) w mg := by
      dsimp only [L2.KOf]
      refine' ⟨L2.glob_dic KX G ?da0 ?dl0 ?dk0 ?ds0 ?dv0⟩
      (case da0 => k_is); (case dl0 => k_is); (case dk0 => k_keys); (case ds0 => decide); (case dv0 => exact (.cons ⟨⟨_, rfl⟩, ⟨_, rfl⟩⟩ (.cons ⟨⟨_, rfl⟩, ⟨_, rfl⟩⟩ (.cons ⟨⟨_, rfl⟩, ⟨_, rfl⟩⟩ .nil))))
    have R : ∃ cC cN cB cO cR cU cT, H.ErrF (L2.KOf KX) mg cC cN cB cO cR cU cT := by
      dsimp only [L2.KOf]
      refine' ⟨_, _, _, _, _, _, _, ⟨⟨PySem.W.mg_of KX G ?e1, ?e2⟩, ⟨PySem.W.mg_of KX G ?e3, ?e4⟩, ⟨PySem.W.mg_of KX G ?e5, ?e6⟩, ⟨PySem.W.mg_of KX G ?e7, ?e8⟩, PySem.W.mg_of KX G ?e9, PySem.W.mg_of KX G ?e10, PySem.W.mg_of KX G ?e11, PySem.W.mg_of KX G ?e12, PySem.W.mg_of KX G ?e13, PySem.W.mg_of KX G ?e14, PySem.W.mg_of KX G ?e15, ⟨?e16, ?e17, ?e18, ?e19, ?e20, ?e21, ?e22, ?e23⟩, ⟨?e24, ?e25, ?e26, ?e27, ?e28, ?e29, ?e30, ?e31⟩, ⟨?e32, ?e33, ?e34, ?e35, ?e36, ?e37, ?e38, ?e39⟩, ⟨?e40, ?e41, ?e42, ?e43, ?e44, ?e45, ?e46, ?e47⟩, ?e48, ?e49, ?e50, ?e51, ?e52, ?e53, ?e54, ?e55, ?e56, ?e57, ?e58, ?e59, ?e60, ?e61, ?e62, ?e63, ?e64, ?e65, ?e66, ?e67, ?e68, ?e69, ?e70, ?e71, ?e72, ?e73, ?e74, ?e75, ?e76, ?e77, ?e78, ?e79⟩⟩
      (case e1 => k_is)
      (case e2 => k_exc)
      (case e3 => k_is)
      (case e4 => k_exc)
      (case e5 => k_is)
      (case e6 => k_exc)
      (case e7 => k_is)
      (case e8 => k_exc)
      (case e9 => k_is)
      (case e10 => k_is)
      (case e11 => k_is)
      (case e12 => k_is)
      (case e13 => k_is)
      (case e14 => k_is)
      (case e15 => k_is)
      (case e16 => k_is)
      (case e17 => k_is)
      (case e18 => k_is)
      (case e19 => k_is)
      (case e20 => k_is)
      (case e21 => k_is)
      (case e22 => k_is)
      (case e23 => k_is)
      (case e24 => k_is)
      (case e25 => k_is)
      (case e26 => k_is)
      (case e27 => k_is)
      (case e28 => k_is)
      (case e29 => k_is)
      (case e30 => k_is)
      (case e31 => k_is)
      (case e32 => k_is)
      (case e33 => k_is)
      (case e34 => k_is)
      (case e35 => k_is)
      (case e36 => k_is)
      (case e37 => k_is)
      (case e38 => k_is)
      (case e39 => k_is)
      (case e40 => k_is)
      (case e41 => k_is)
      (case e42 => k_is)
      (case e43 => k_is)
      (case e44 => k_is)
      (case e45 => k_is)
      (case e46 => k_is)
      (case e47 => k_is)
      (case e48 => kts_exm)
      (case e49 => kts_exm)
      (case e50 => kts_exm)
      (case e51 => kts_exm)
      (case e52 => kit_is)
      (case e53 => kit_is)
      (case e54 => kit_is)
      (case e55 => kit_is)
      (case e56 => kit_is)
      (case e57 => kit_is)
      (case e58 => kit_is)
      (case e59 => kit_is)
      (case e60 => kit_is)
      (case e61 => kit_is)
      (case e62 => kit_is)
      (case e63 => kit_is)
      (case e64 => kit_is)
      (case e65 => kit_is)
      (case e66 => kit_is)
      (case e67 => kit_is)
      (case e68 => kit_is)
      (case e69 => kit_is)
      (case e70 => kit_is)
      (case e71 => kit_is)
      (case e72 => kit_is)
      (case e73 => kit_is)
      (case e74 => kit_is)
      (case e75 => kit_is)
      (case e76 => kit_is)
      (case e77 => kit_is)
      (case e78 => kit_is)
      (case e79 => kit_is)
    obtain ⟨cC, cN, cB, cO, cR, cU, cT, R⟩ := R
    have N1 : mg "isinstance" = none := PySem.W.mg_none_of KX G (by k_is)
    have N2 : mg "ValueError" = none := PySem.W.mg_none_of KX G (by k_is)
    exact ⟨L, fun base f fd F => H.all D D2 ⟨R, N1, N2⟩ F⟩
